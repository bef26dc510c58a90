/- In one text: WinQ, WinR, WinS. -/
import Derived.Test.YtclogekfdmikpaaDoorJ36
/- Splice where something is not in range, or foreign. -/
namespace Go.Proofs.YtclogekfdmikpaaDoor
open Go.RowKit
set_option linter.unusedVariables false
set_option linter.unusedSimpArgs false

def rngB (n : Nat) (p g : Int) : Bool := hasB n p && decide (0 ≤ g) && decide (g ≤ (n : Int) - p)
set_option maxHeartbeats 2000000 in
set_option maxRecDepth 100000 in
theorem splice_far (P tb n cap : Nat) (a : Option Addr) (av bv cv : Value) (tc p g : Int) (w : World) (hP : w.heap[P]? = some (.cells (WCells tb (.slice a n cap) av bv tc) 72)) (hn : n ≤ 1000000) (hb : rngB n p g = false) :
 Calls Tryd.prog 13 #[.pointer (some ⟨P, 0, none⟩), .int .i64 p, .int .i64 g, cv] w fun e w' => e = .returned (.int .i64 3) ∧ Below w.heap.size w w' := by
 have hPl : P < w.heap.size := (Array.getElem?_eq_some_iff.1 hP).1
 obtain ⟨N0, hN0⟩ : ∃ N0, N0 = w.heap.size := ⟨_, rfl⟩
 obtain ⟨W1, hW1⟩ : ∃ W1, W1 = w.alloc (.cells #[.pointer (some ⟨P, 0, none⟩)] 34) := ⟨_, rfl⟩
 have hb1 : Below w.heap.size w W1 := by rw [hW1]; exact (Below.refl _ w).alloc (Nat.le_refl _) _
 have hN1 : W1.heap[N0]? = some (.cells #[.pointer (some ⟨P, 0, none⟩)] 34) := by rw [hN0, hW1]; exact heap_alloc_new w _
 have hP1 : W1.heap[P]? = some (.cells (WCells tb (.slice a n cap) av bv tc) 72) := (hb1.block P hPl).trans hP
 obtain ⟨k0, k1, k2, k3, k4, kf⟩ := win_cells hP1
 have n0 : W1.cell? ⟨N0, 0, none⟩ = some (.pointer (some ⟨P, 0, none⟩)) := cell_of_row W1 N0 0 _ _ _ hN1
 obtain ⟨z, hz⟩ : ∃ z, z = hasB n p := ⟨_, rfl⟩
 have HHAS : Hid (Calls Tryd.prog 26 #[.pointer (some ⟨P, 0, none⟩), .int .i64 p] W1 fun e w' => e = .returned (.bool z) ∧ w' = W1) := by
  have := has_any W1 P tb n cap a av bv tc p hP1
  rw [← hz] at this
  exact this
 have HB1 : Hid (Below w.heap.size w W1) := hb1
 have hzz : z = false ∨ (z = true ∧ g < 0) ∨ (z = true ∧ 0 ≤ g ∧ ∃ np : Nat, (n : Int) - p = (np : Int) ∧ np ≤ 1000000 ∧ (np : Int) < g) := by
  unfold rngB at hb
  rw [← hz] at hb
  cases hzv : z
  ·exact .inl rfl
  ·rw [hzv] at hb
   by_cases hg : 0 ≤ g
   ·rw [hzv] at hz
    unfold hasB at hz
    simp only [hg, decide_true, Bool.and_self, Bool.true_and, decide_eq_false_iff_not] at hb
    have h2 := Bool.and_eq_true_iff.1 hz.symm
    have h3 := of_decide_eq_true h2.1
    have h4 := of_decide_eq_true h2.2
    exact .inr (.inr ⟨rfl, hg, ((n : Int) - p).toNat, by omega, by omega, by omega⟩)
   ·exact .inr (.inl ⟨rfl, by omega⟩)
 clear hb hb1 hP1 hN1 hP hPl hz k0 k2 k3 k4 kf
 rcases hzz with rfl | ⟨rfl, hg⟩ | ⟨rfl, hg, np, h1, h2, h3⟩
 ·go_enter Tryd.func13, Tryd.ntmps13
  go_upto_region 1 with fail
  rw [← hN0, ← hW1]
  clear hN0 hW1
  go_wp2_with (first | (go_at_call 26; refine HHAS.out.mono ?_; rintro e w2 ⟨rfl, hw2⟩; obtain rfl := hw2.symm; clear hw2))
  go_ret
  exact ⟨rfl, HB1.out⟩
 ·go_enter Tryd.func13, Tryd.ntmps13
  go_upto_region 1 with fail
  rw [← hN0, ← hW1]
  clear hN0 hW1
  go_wp2_with (first | (go_at_call 26; refine HHAS.out.mono ?_; rintro e w2 ⟨rfl, hw2⟩; obtain rfl := hw2.symm; clear hw2))
  go_ret
  exact ⟨rfl, HB1.out⟩
 ·have hwn : IntKind.i64.wrap (np : Int) = (np : Int) := by rw [IntKind.wrap_i64]; omega
  go_enter Tryd.func13, Tryd.ntmps13
  go_upto_region 1 with fail
  rw [← hN0, ← hW1]
  clear hN0 hW1
  go_wp2_with (first | (go_at_call 26; refine HHAS.out.mono ?_; rintro e w2 ⟨rfl, hw2⟩; obtain rfl := hw2.symm; clear hw2))
  go_ret
  exact ⟨rfl, HB1.out⟩
set_option maxHeartbeats 2000000 in
set_option maxRecDepth 100000 in
theorem splice_strange (K : Nat) (l : List Rl) (P tb n cap p gone come vc : Nat) (a va : Option Addr) (cls : List Int) (av bv : Value) (tc : Int) (w : World) (hP : w.heap[P]? = some (.cells (WCells tb (.slice a n cap) av bv tc) 72)) (hT : ∀ W, Below w.heap.size w W → TabAt W K l tb) (hp : p + gone ≤ n) (hn : n ≤ 1000000) (hr : Rd .i64 w va come cls) (hc : come ≤ 1000000) (hb : cls.any (frC K) = true) :
 Calls Tryd.prog 13 #[.pointer (some ⟨P, 0, none⟩), .int .i64 (p : Int), .int .i64 (gone : Int), .slice va come vc] w fun e w' => e = .returned (.int .i64 1) ∧ Below w.heap.size w w' := by
 have hPl : P < w.heap.size := (Array.getElem?_eq_some_iff.1 hP).1
 obtain ⟨N0, hN0⟩ : ∃ N0, N0 = w.heap.size := ⟨_, rfl⟩
 obtain ⟨W1, hW1⟩ : ∃ W1, W1 = w.alloc (.cells #[.pointer (some ⟨P, 0, none⟩)] 34) := ⟨_, rfl⟩
 have hb1 : Below w.heap.size w W1 := by rw [hW1]; exact (Below.refl _ w).alloc (Nat.le_refl _) _
 have hN1 : W1.heap[N0]? = some (.cells #[.pointer (some ⟨P, 0, none⟩)] 34) := by rw [hN0, hW1]; exact heap_alloc_new w _
 have hP1 : W1.heap[P]? = some (.cells (WCells tb (.slice a n cap) av bv tc) 72) := (hb1.block P hPl).trans hP
 obtain ⟨k0, k1, k2, k3, k4, kf⟩ := win_cells hP1
 have n0 : W1.cell? ⟨N0, 0, none⟩ = some (.pointer (some ⟨P, 0, none⟩)) := cell_of_row W1 N0 0 _ _ _ hN1
 have HHAS : Hid (Calls Tryd.prog 26 #[.pointer (some ⟨P, 0, none⟩), .int .i64 (p : Int)] W1 fun e w' => e = .returned (.bool true) ∧ w' = W1) := by
  have := has_any W1 P tb n cap a av bv tc (p : Int) hP1
  rw [show hasB n (p : Int) = true by unfold hasB; simp; omega] at this
  exact this
 have HFOR : Hid (Calls Tryd.prog 27 #[.pointer (some ⟨tb, 0, none⟩), .slice va come vc] W1 fun e w' => e = .returned (.bool true) ∧ Below W1.heap.size W1 w') := by
  have := foreign_any K tb come vc l cls va W1 (hT W1 hb1) (hr.later hb1) hc
  rw [hb] at this
  exact this
 obtain ⟨np, hnp⟩ : ∃ np, np = n - p := ⟨_, rfl⟩
 have hs1 : (n : Int) - (p : Int) = (np : Int) := by omega
 have hwn : IntKind.i64.wrap (np : Int) = (np : Int) := by rw [IntKind.wrap_i64]; omega
 have hng : ¬ ((np : Int) < (gone : Int)) := by omega
 have hg0 : ¬ ((gone : Int) < 0) := by omega
 have HB1 : Hid (Below w.heap.size w W1) := hb1
 clear hb hb1 hP1 hN1 hP hPl hT hr hnp hp k2 k3 k4 kf
 go_enter Tryd.func13, Tryd.ntmps13
 go_upto_region 1 with fail
 rw [← hN0, ← hW1]
 clear hN0 hW1
 go_upto_region 3 with (first | (go_at_call 26; refine HHAS.out.mono ?_; rintro e w2 ⟨rfl, hw2⟩; obtain rfl := hw2.symm; clear hw2))
 go_wp2_with (first | (go_at_call 27; refine HFOR.out.mono ?_; rintro e W2 ⟨rfl, hw2⟩; have HB2 : Hid (Below W1.heap.size W1 W2) := hw2; clear hw2))
 go_ret
 exact ⟨rfl, HB1.out.trans (HB2.out.mono HB1.out.size)⟩
end Go.Proofs.YtclogekfdmikpaaDoor

/- Is: out, fits, and what Decide makes of them. -/
namespace Go.Proofs.YtclogekfdmikpaaDoor
open Go.RowKit
set_option linter.unusedVariables false
set_option linter.unusedSimpArgs false

theorem out_any (W : World) (oa oo oc m s : Nat) (x : Int) (h : W.cell? ⟨oa, oo + s, none⟩ = some (.int .u64 x)) (hs : s < m) (hm : m ≤ 1000000) :
 Calls Tryd.prog 56 #[.slice (some ⟨oa, oo, none⟩) m oc, .int .i64 (s : Int)] W fun e w' => e = .returned (.int .u64 x) ∧ w' = W := by
 have h1 : ¬ ((s : Int) < 0) := by omega
 have h2 : (s : Int) < (m : Int) := by omega
 go_enter Tryd.func56, Tryd.ntmps56
 go_wp2
 go_ret
 exact ⟨rfl, rfl⟩
set_option maxHeartbeats 2000000 in
set_option maxRecDepth 100000 in
theorem fits_any (K : Nat) (l : List Rl) (P tb la lb B n p : Nat) (nxA : List (List Nat)) (ouA : List Nat) (nxB : List (List Nat)) (ouB : List Nat) (xs : List Int) (tv av bv : Value) (tc : Int) (w : World)
 (hx : WinX w P tb B xs tv av bv (n + 1) (stI nxA xs) (n + 1) (stI nxB xs.reverse) tc) (hT : TabQ w K l tb la lb nxA ouA nxB ouB) (hn : xs.length = n) (hp : p ≤ n) (hl : n ≤ 1000000) (hA : stR nxA xs p < ouA.length) (hB : stR nxB xs.reverse (n - p) < ouB.length) :
 Calls Tryd.prog 36 #[.pointer (some ⟨P, 0, none⟩), .int .i64 (p : Int)] w fun e w' => e = .returned (.tuple #[.int .u64 (ouR nxA ouA xs p : Int), .int .u64 (ouR nxB ouB xs.reverse (n - p) : Int)]) ∧ ∃ q, w' = w.drewN q := by
 obtain ⟨htb, hmA, _, _, hmB, _, _⟩ := hT
 obtain ⟨oaA, ooA, ocA, a2, aout⟩ := mch_out hmA (by omega)
 obtain ⟨oaB, ooB, ocB, b2, bout⟩ := mch_out hmB (by omega)
 have hmAl : ouA.length ≤ 1000000 := by obtain ⟨_, _, _, _, _, _, _, _, h, _⟩ := hmA; exact h
 have hmBl : ouB.length ≤ 1000000 := by obtain ⟨_, _, _, _, _, _, _, _, h, _⟩ := hmB; exact h
 obtain ⟨ta, tcap, rfl, _, _, _, _⟩ := own_rdI hx.2.1
 obtain ⟨ga, capa, rfl, ca1, ca2⟩ := own_someF hx.2.2.1 (by omega)
 obtain ⟨gb, capb, rfl, cb1, cb2⟩ := own_someF hx.2.2.2.1 (by omega)
 rw [hn] at hx
 obtain ⟨k0, k1, k2, k3, k4, kf⟩ := win_cells hx.1
 obtain ⟨ea, _⟩ := own_cellF hx.2.2.1 p (by omega)
 obtain ⟨q, hq⟩ : ∃ q, q = n - p := ⟨_, rfl⟩
 rw [← hq] at hB ⊢
 obtain ⟨eb, _⟩ := own_cellF hx.2.2.2.1 q (by omega)
 have t0 : w.cell? ⟨tb, 0, none⟩ = some (.pointer (some ⟨la, 0, none⟩)) := cell_of_row w tb 0 _ _ _ htb
 have t1 : w.cell? ⟨tb, 1, none⟩ = some (.pointer (some ⟨lb, 0, none⟩)) := cell_of_row w tb 1 _ _ _ htb
 have oA := aout (stR nxA xs p) hA
 have oB := bout (stR nxB xs.reverse q) hB
 unfold stI at ea eb
 unfold ouR
 generalize stR nxA xs p = sa at *
 generalize stR nxB xs.reverse q = sb at *
 generalize ouA.getD sa 0 = ua at *
 generalize ouB.getD sb 0 = ub at *
 generalize ouA.length = mA at *
 generalize ouB.length = mB at *
 have HOA : Hid (∀ r, Calls Tryd.prog 56 #[.slice (some ⟨oaA, ooA, none⟩) mA ocA, .int .i64 (sa : Int)] (w.drewN r) fun e w' => e = .returned (.int .u64 (ua : Int)) ∧ w' = (w.drewN r)) := fun r => out_any _ _ _ _ _ _ _ oA hA hmAl
 have HOB : Hid (∀ r, Calls Tryd.prog 56 #[.slice (some ⟨oaB, ooB, none⟩) mB ocB, .int .i64 (sb : Int)] (w.drewN r) fun e w' => e = .returned (.int .u64 (ub : Int)) ∧ w' = (w.drewN r)) := fun r => out_any _ _ _ _ _ _ _ oB hB hmBl
 have hs : (n : Int) - (p : Int) = (q : Int) := by omega
 have hw : IntKind.i64.wrap (q : Int) = (q : Int) := by rw [IntKind.wrap_i64]; omega
 obtain ⟨m1, hm1⟩ : ∃ m1, m1 = n + 1 := ⟨_, rfl⟩
 rw [← hm1] at k2 k3
 have hql : (q : Int) < (m1 : Int) := by omega
 have hpl : (p : Int) < (m1 : Int) := by omega
 have hq0 : (0 : Int) ≤ (q : Int) := by omega
 have hp0 : (0 : Int) ≤ (p : Int) := by omega
 clear aout bout oA oB hA hB hx htb hmA hmB hq hn hp k4 kf hm1 ca1 cb1
 go_enter Tryd.func36, Tryd.ntmps36
 go_upto_region 4 with fail
 go_quiet (first | (go_at_call_of 56 (Value.slice (some ⟨oaA, ooA, none⟩) mA ocA); exact Calls.quiet_of_same (HOA.out _)) | (go_at_call_of 56 (Value.slice (some ⟨oaB, ooB, none⟩) mB ocB); exact Calls.quiet_of_same (HOB.out _)))
 go_wp2
 go_ret2
 exact ⟨rfl, _, rfl⟩
set_option maxHeartbeats 2000000 in
set_option maxRecDepth 100000 in
theorem is_any (K : Nat) (l : List Rl) (P tb la lb B n p : Nat) (nxA : List (List Nat)) (ouA : List Nat) (nxB : List (List Nat)) (ouB : List Nat) (xs : List Int) (tv av bv : Value) (tc : Int) (w : World)
 (hx : WinX w P tb B xs tv av bv (n + 1) (stI nxA xs) (n + 1) (stI nxB xs.reverse) tc) (hT : TabQ w K l tb la lb nxA ouA nxB ouB) (hn : xs.length = n) (hn0 : 0 < n) (hp : p ≤ n) (hl : n ≤ 1000000) (hl40 : l.length ≤ 40) (hcl : Cls K xs) :
 Calls Tryd.prog 21 #[.pointer (some ⟨P, 0, none⟩), .int .i64 (p : Int)] w fun e w' => e = .returned (.bool (isB (brkN l) l.length n (ouR nxA ouA xs) (ouR nxB ouB xs.reverse) p)) ∧ ∃ q, w' = w.drewN q := by
 have hclr : Cls K xs.reverse := fun c hc => hcl c (List.mem_reverse.1 hc)
 have hA := hT.2.2.1
 have hB := hT.2.2.2.2.2.1
 have hoA : stR nxA xs p < ouA.length := by rw [hA.len]; exact stR_lt hA _ _
 have hoB : stR nxB xs.reverse (n - p) < ouB.length := by rw [hB.len]; exact stR_lt hB _ _
 have HF : Hid (∀ q, Calls Tryd.prog 36 #[.pointer (some ⟨P, 0, none⟩), .int .i64 (p : Int)] (w.drewN q) fun e w' => e = .returned (.tuple #[.int .u64 (ouR nxA ouA xs p : Int), .int .u64 (ouR nxB ouB xs.reverse (n - p) : Int)]) ∧ ∃ m, w' = (w.drewN q).drewN m) := fun q => fits_any K l P tb la lb B n p nxA ouA nxB ouB xs tv av bv tc (w.drewN q) hx hT hn hp hl hoA hoB
 have hlA : (xsL l).length ≤ 64 := by simp [xsL]; omega
 have hlB : (xsR l).length ≤ 64 := by simp [xsR]; omega
 have huA := ouR_lt hA hlA hcl p
 have huB := ouR_lt hB hlB hclr (n - p)
 have HD : Hid (∀ q, Calls Tryd.prog 35 #[.pointer (some ⟨tb, 0, none⟩), .int .u64 (ouR nxA ouA xs p : Int), .int .u64 (ouR nxB ouB xs.reverse (n - p) : Int)] (w.drewN q) fun e w' => e = .returned (.bool (dcB (brkN l) (ouR nxA ouA xs p &&& ouR nxB ouB xs.reverse (n - p)) l.length 0)) ∧ w' = w.drewN q) := fun q => decide_any (w.drewN q) tb l.length (brkN l) _ _ _ _ hT.1 hl40 (Nat.lt_of_lt_of_le (brkN_lt l hl40) (by decide)) huA huB
 obtain ⟨ta, tcap, rfl, _, _, _, _⟩ := own_rdI hx.2.1
 have hP := hx.1
 rw [hn] at hP
 have HHAS : Hid (Calls Tryd.prog 26 #[.pointer (some ⟨P, 0, none⟩), .int .i64 (p : Int)] w fun e w' => e = .returned (.bool true) ∧ w' = w) := by
  have := has_any w P tb n tcap ta av bv tc (p : Int) hP
  rw [show hasB n (p : Int) = true by unfold hasB; simp; omega] at this
  exact this
 obtain ⟨k0, k1, k2, k3, k4, kf⟩ := win_cells hP
 have hR : isB (brkN l) l.length n (ouR nxA ouA xs) (ouR nxB ouB xs.reverse) p = (decide (p = 0) || decide (p = n) || dcB (brkN l) (ouR nxA ouA xs p &&& ouR nxB ouB xs.reverse (n - p)) l.length 0) := rfl
 rw [hR]
 generalize dcB (brkN l) (ouR nxA ouA xs p &&& ouR nxB ouB xs.reverse (n - p)) l.length 0 = z at *
 generalize ouR nxA ouA xs p = uA at *
 generalize ouR nxB ouB xs.reverse (n - p) = uB at *
 have hne : ¬ ((n : Int) = 0) := by omega
 clear hx hT hA hB hoA hoB huA huB hP k2 k3 k4 kf hn hcl hclr hR
 by_cases hp0 : p = 0
 ·subst hp0
  go_enter Tryd.func21, Tryd.ntmps21
  go_upto_region 4 with (first | (go_at_call 26; refine HHAS.out.mono ?_; rintro e w2 ⟨rfl, hw2⟩; obtain rfl := hw2.symm; clear hw2))
  go_quiet (fail)
  go_wp2
  go_ret
  exact ⟨rfl, _, rfl⟩
 ·have hp1 : decide ((p : Int) = 0) = false := by simpa using hp0
  by_cases hpn : p = n
  ·subst hpn
   simp only [hp0, decide_false, decide_true, Bool.false_or, Bool.true_or]
   go_enter Tryd.func21, Tryd.ntmps21
   go_upto_region 4 with (first | (go_at_call 26; refine HHAS.out.mono ?_; rintro e w2 ⟨rfl, hw2⟩; obtain rfl := hw2.symm; clear hw2))
   go_quiet (fail)
   go_wp2
   go_ret
   exact ⟨rfl, _, rfl⟩
  ·have hp2 : decide ((p : Int) = (n : Int)) = false := by simpa using fun h : (p : Int) = (n : Int) => hpn (by omega)
   have hp3 : ((p : Int) == 0) = false := by simpa using hp0
   have hp4 : ((p : Int) == (n : Int)) = false := by simpa using fun h : (p : Int) = (n : Int) => hpn (by omega)
   have hp5 : (((p : Int) == 0) || ((p : Int) == (n : Int))) = false := by rw [hp3, hp4]; rfl
   simp only [hp0, hpn, decide_false, Bool.false_or]
   go_enter Tryd.func21, Tryd.ntmps21
   go_upto_region 4 with (first | (go_at_call 26; refine HHAS.out.mono ?_; rintro e w2 ⟨rfl, hw2⟩; obtain rfl := hw2.symm; clear hw2))
   go_quiet (first | (go_at_call 36; exact Calls.quiet_of (HF.out _)) | (go_at_call 35; exact Calls.quiet_of_same (HD.out _)))
   go_wp2
   go_ret
   exact ⟨rfl, _, rfl⟩
end Go.Proofs.YtclogekfdmikpaaDoor

/- New, by Splice. -/
namespace Go.Proofs.YtclogekfdmikpaaDoor
open Go.RowKit
set_option linter.unusedVariables false
set_option linter.unusedSimpArgs false

theorem TabQ.later {w W : World} {K : Nat} {l : List Rl} {tb la lb : Nat} {nxA : List (List Nat)} {ouA : List Nat} {nxB : List (List Nat)} {ouB : List Nat} (h : TabQ w K l tb la lb nxA ouA nxB ouB) (hb : Below w.heap.size w W) : TabQ W K l tb la lb nxA ouA nxB ouB :=
 ⟨(hb.block tb (Array.getElem?_eq_some_iff.1 h.1).1).trans h.1, h.2.1.later hb, h.2.2.1, h.2.2.2.1, h.2.2.2.2.1.later hb, h.2.2.2.2.2⟩
theorem wide_at {K : Nat} {xs : List (Nd × Bool)} {nx : List (List Nat)} {ou : List Nat} (h : LeastOf K xs nx ou) (s : Nat) (hs : s < nx.length) : (nx.getD s []).length = K := by
 have : nx.getD s [] = nx[s] := by simp [hs]
 rw [this]
 exact h.wide _ (List.getElem_mem hs)
theorem spl_nil (cls : List Int) : spl [] 0 0 cls = cls := by simp [spl]
theorem rdN_nil (nx : List (List Nat)) (cls : List Int) (r : Nat) (h : RdN nx [] cls 0 0 r) : r = 0 := by have := h.1; simpa using this
def NewQ (K : Nat) (l : List Rl) (tb : Nat) (nxA nxB : List (List Nat)) (cls : List Int) (w : World) (e : Ending) (w' : World) : Prop := Below w.heap.size w w' ∧
 ((cls.any (frC K) = true ∧ e = .returned (.tuple #[.pointer none, .int .i64 1])) ∨ (cls.any (frC K) = false ∧ ∃ P tv av bv, e = .returned (.tuple #[.pointer (some ⟨P, 0, none⟩), .int .i64 0]) ∧ w.heap.size ≤ P ∧ WinX w' P tb w.heap.size cls tv av bv (cls.length + 1) (stI nxA cls) (cls.length + 1) (stI nxB cls.reverse) (2 * (cls.length : Int))))
theorem fr_cls {K : Nat} {cls : List Int} (h : cls.any (frC K) = false) : Cls K cls := by
 intro c hc
 rw [List.any_eq_false] at h
 have := h c hc
 unfold frC at this
 simp at this
 omega
set_option maxHeartbeats 2000000 in
set_option maxRecDepth 100000 in
theorem new_any (K : Nat) (l : List Rl) (tb la lb : Nat) (nxA : List (List Nat)) (ouA : List Nat) (nxB : List (List Nat)) (ouB : List Nat) (cls : List Int) (m vc : Nat) (va : Option Addr) (w : World) (hT : TabQ w K l tb la lb nxA ouA nxB ouB) (hr : Rd .i64 w va m cls) (hvn : va = none → vc = 0) (hm : m ≤ 100000) :
 Calls Tryd.prog 12 #[.pointer (some ⟨tb, 0, none⟩), .slice va m vc] w (NewQ K l tb nxA nxB cls w) := by
 have hml : cls.length = m := hr.1
 obtain ⟨N, hN⟩ : ∃ N, N = w.heap.size := ⟨_, rfl⟩
 obtain ⟨W1, hW1⟩ : ∃ W1, W1 = ((w.alloc (.cells #[.int .i64 0] 3)).alloc (.cells #[.int .i64 0] 3)).alloc (.cells (WCells tb (.slice none 0 0) (.slice (some ⟨N, 0, none⟩) 1 1) (.slice (some ⟨N + 1, 0, none⟩) 1 1) 0) 72) := ⟨_, rfl⟩
 have hb1 : Below w.heap.size w W1 := by
  rw [hW1]
  exact (((Below.refl _ w).alloc (Nat.le_refl _) _).alloc (by simp) _).alloc (by simp; omega) _
 have hA1 : W1.heap[N]? = some (.cells #[.int .i64 0] 3) := by
  rw [hW1, Below.heap_alloc _ _ _ (by simp; omega), Below.heap_alloc _ _ _ (by simp; omega), hN]
  exact heap_alloc_new w _
 have hA2 : W1.heap[N + 1]? = some (.cells #[.int .i64 0] 3) := by
  rw [hW1, Below.heap_alloc _ _ _ (by simp; omega)]
  have h := heap_alloc_new (w.alloc (.cells #[.int .i64 0] 3)) (.cells #[.int .i64 0] 3)
  rw [show (w.alloc (.cells #[.int .i64 0] 3)).heap.size = N + 1 by simp [hN]] at h
  exact h
 have hA3 : W1.heap[N + 2]? = some (.cells (WCells tb (.slice none 0 0) (.slice (some ⟨N, 0, none⟩) 1 1) (.slice (some ⟨N + 1, 0, none⟩) 1 1) 0) 72) := by
  rw [hW1]
  have h := heap_alloc_new ((w.alloc (.cells #[.int .i64 0] 3)).alloc (.cells #[.int .i64 0] 3)) (.cells (WCells tb (.slice none 0 0) (.slice (some ⟨N, 0, none⟩) 1 1) (.slice (some ⟨N + 1, 0, none⟩) 1 1) 0) 72)
  rw [show ((w.alloc (.cells #[.int .i64 0] 3)).alloc (.cells #[.int .i64 0] 3)).heap.size = N + 2 by simp [hN]] at h
  exact h
 have hrow : ∀ nx : List (List Nat), jv (rowF (0 + 1) (stI nx [])) = [.int .i64 0] := fun nx => by simp [rowF, stI, stR_zero, jv]
 have hone : ∀ (g : Nat) (nx : List (List Nat)), N ≤ g → W1.heap[g]? = some (.cells #[.int .i64 0] 3) → W1.ownsRow N 3 1 (.slice (some ⟨g, 0, none⟩) 1 1) (0 + 1) (jv (rowF (0 + 1) (stI nx []))) := fun g nx hg h => by
  rw [hrow]
  exact ⟨rfl, .inr ⟨g, 1, _, rfl, hg, h, Nat.le_refl _, by decide, rfl, rfl⟩⟩
 have hx : WinX W1 (N + 2) tb N [] (.slice none 0 0) (.slice (some ⟨N, 0, none⟩) 1 1) (.slice (some ⟨N + 1, 0, none⟩) 1 1) (0 + 1) (stI nxA []) (0 + 1) (stI nxB [].reverse) 0 := by
  refine ⟨hA3, World.ownsRow_nil _ _ _ _, hone N nxA (Nat.le_refl _) hA1, hone (N + 1) nxB (by omega) hA2, ⟨nofun, fun e => ?_, fun e => ?_, nofun, fun k hk e => ?_⟩, by omega⟩
  ·have e' : some N = some (N + 2) := e
   injection e' with e''
   omega
  ·have e' : some (N + 1) = some (N + 2) := e
   injection e' with e''
   omega
  ·have h1 : some N = some k := hk
   have h2 : some (N + 1) = some k := e
   injection h1 with h1
   injection h2 with h2
   omega
 have hTT : ∀ W, ChgW W1 W (OwnW (N + 2) (.slice none 0 0) (.slice (some ⟨N, 0, none⟩) 1 1) (.slice (some ⟨N + 1, 0, none⟩) 1 1)) → Below w.heap.size w W := fun W hc => by
  refine ⟨hc.1.trans hb1.os, hc.2.1.trans hb1.tape, hc.2.2.1.trans hb1.output, Nat.le_trans hb1.size hc.2.2.2.1, fun k hk => (hc.2.2.2.2 k (Nat.lt_of_lt_of_le hk hb1.size) ?_).trans (hb1.block k hk)⟩
  rintro (rfl | h | h | h)
  ·omega
  ·cases h
  ·have h1 : some N = some k := h
   injection h1 with h1
   omega
  ·have h1 : some (N + 1) = some k := h
   injection h1 with h1
   omega
 have HB1 : Hid (Below w.heap.size w W1) := hb1
 have HN : Hid (N = w.heap.size) := hN
 cases hz : cls.any (frC K)
 ·have HSP : Hid (Calls Tryd.prog 13 #[.pointer (some ⟨N + 2, 0, none⟩), .int .i64 0, .int .i64 0, .slice va m vc] W1 fun e w' => e = .returned (.int .i64 0) ∧ Below w.heap.size w w' ∧ ∃ tv av bv, WinX w' (N + 2) tb N cls tv av bv (cls.length + 1) (stI nxA cls) (cls.length + 1) (stI nxB cls.reverse) (2 * (cls.length : Int))) := by
   have h := splice_ok K l (N + 2) tb la lb N nxA ouA nxB ouB [] cls 0 0 m 0 (.slice none 0 0) (.slice (some ⟨N, 0, none⟩) 1 1) (.slice (some ⟨N + 1, 0, none⟩) 1 1) 0 va vc W1 hx (fun W hc => hT.later (hTT W hc)) rfl (by omega) hml (fun c hc => by simp at hc) (fr_cls hz) (hr.later hb1) hvn (fun _ _ _ => nofun) (by omega) (fun row i => stR_lt hT.2.2.1 row i) (wide_at hT.2.2.1) (fun row i => stR_lt hT.2.2.2.2.2.1 row i) (wide_at hT.2.2.2.2.2.1)
   refine Calls.mono h ?_
   rintro e w' ⟨he, tv', av', bv', r1, r2, h1, h2, h3, h4, _⟩
   refine ⟨he, hTT w' h4, tv', av', bv', ?_⟩
   rw [spl_nil] at h1
   have e1 := rdN_nil _ _ _ h2
   have e2 := rdN_nil nxB cls.reverse r2 h3
   rw [e1, e2] at h1
   simpa using h1
  clear hr hT hx hTT hone hrow hA1 hA2 hA3 hb1 hvn
  have hW2 : W1 = ((w.alloc (.cells #[.int .i64 0] 3)).alloc (.cells #[.int .i64 0] 3)).alloc (.cells #[.pointer (some ⟨tb, 0, none⟩), .slice none 0 0, .slice (some ⟨N, 0, none⟩) 1 1, .slice (some ⟨N + 1, 0, none⟩) 1 1, .int .i64 0] 72) := hW1
  clear hW1
  go_enter Tryd.func12, Tryd.ntmps12
  go_upto_region 4 with fail
  rw [← hN, ← hW2, show N + 1 + 1 = N + 2 from rfl]
  clear hN hW2
  go_wp2_with (first | (go_at_call 13; refine HSP.out.mono ?_; rintro e W3 ⟨rfl, hb3, hx3⟩; have HX3 : Hid (Below w.heap.size w W3 ∧ ∃ tv av bv, WinX W3 (N + 2) tb N cls tv av bv (cls.length + 1) (stI nxA cls) (cls.length + 1) (stI nxB cls.reverse) (2 * (cls.length : Int))) := ⟨hb3, hx3⟩; clear hb3 hx3))
  go_ret2
  obtain ⟨h1, tv, av, bv, h2⟩ := HX3.out
  have hNN := HN.out
  subst hNN
  exact ⟨h1, .inr ⟨hz, _, tv, av, bv, rfl, by omega, h2⟩⟩
 ·have HSP : Hid (Calls Tryd.prog 13 #[.pointer (some ⟨N + 2, 0, none⟩), .int .i64 0, .int .i64 0, .slice va m vc] W1 fun e w' => e = .returned (.int .i64 1) ∧ Below w.heap.size w w') := by
   have h := splice_strange K l (N + 2) tb 0 0 0 0 m vc none va cls (.slice (some ⟨N, 0, none⟩) 1 1) (.slice (some ⟨N + 1, 0, none⟩) 1 1) 0 W1 hA3 (fun W hW => (hT.later (hb1.trans (hW.mono hb1.size))).at) (by omega) (by omega) (hr.later hb1) (by omega) hz
   exact h.mono fun e w' h => ⟨h.1, hb1.trans (h.2.mono hb1.size)⟩
  clear hr hT hx hTT hone hrow hA1 hA2 hA3 hb1 hvn
  have hW2 : W1 = ((w.alloc (.cells #[.int .i64 0] 3)).alloc (.cells #[.int .i64 0] 3)).alloc (.cells #[.pointer (some ⟨tb, 0, none⟩), .slice none 0 0, .slice (some ⟨N, 0, none⟩) 1 1, .slice (some ⟨N + 1, 0, none⟩) 1 1, .int .i64 0] 72) := hW1
  clear hW1
  go_enter Tryd.func12, Tryd.ntmps12
  go_upto_region 4 with fail
  rw [← hN, ← hW2, show N + 1 + 1 = N + 2 from rfl]
  clear hN hW2
  go_wp2_with (first | (go_at_call 13; refine HSP.out.mono ?_; rintro e W3 ⟨rfl, hb3⟩; have HX3 : Hid (Below w.heap.size w W3) := hb3; clear hb3))
  go_ret2
  exact ⟨HX3.out, .inl ⟨hz, rfl⟩⟩
end Go.Proofs.YtclogekfdmikpaaDoor
