/- In one text: WinT, WinU, WinV, ReaSm, TabH, TabK, TablesDecideW, WinW. -/
import Derived.Test.YtclogekfdmikpaaDoorJ37
import Derived.Test.YtclogekfdmikpaaDoorJ39
import Derived.Test.YtclogekfdmikpaaDoorJ31
import Derived.BigQuiet
import Derived.Test.YtclogekfdmikpaaDoorJ29
import Derived.Test.YtclogekfdmikpaaDoorJ38
/- Boundaries of a window. -/
namespace Go.Proofs.YtclogekfdmikpaaDoor
open Go.RowKit
set_option linter.unusedVariables false
set_option linter.unusedSimpArgs false

theorem bFun_put (n : Nat) (f : Nat → Bool) (x : Nat) (b : Bool) : (bFun n f).setIfInBounds x (.bool b) = bFun n (fun q => if q = x then b else f q) := by
 apply Array.ext'
 rw [Array.toList_setIfInBounds]
 refine List.ext_getElem (by simp [bFun]) fun i h1 h2 => ?_
 simp only [bFun, List.getElem_set, List.getElem_map, List.getElem_range]
 by_cases h : x = i
 ·simp [h]
 ·rw [if_neg h, if_neg (fun e => h e.symm)]
theorem is_none (W : World) (P tb n cap : Nat) (a : Option Addr) (av bv : Value) (tc p : Int) (h : W.heap[P]? = some (.cells (WCells tb (.slice a n cap) av bv tc) 72)) (hb : n = 0 ∨ hasB n p = false) :
 Calls Tryd.prog 21 #[.pointer (some ⟨P, 0, none⟩), .int .i64 p] W fun e w' => e = .returned (.bool false) ∧ w' = W := by
 have HHAS : Hid (Calls Tryd.prog 26 #[.pointer (some ⟨P, 0, none⟩), .int .i64 p] W fun e w' => e = .returned (.bool (hasB n p)) ∧ w' = W) := has_any W P tb n cap a av bv tc p h
 obtain ⟨k0, k1, k2, k3, k4, kf⟩ := win_cells h
 clear h k0 k2 k3 k4 kf
 by_cases hn : n = 0
 ·subst hn
  clear hb
  generalize hasB 0 p = z at *
  go_enter Tryd.func21, Tryd.ntmps21
  go_wp2_with (first | (go_at_call 26; refine HHAS.out.mono ?_; rintro e w2 ⟨rfl, hw2⟩; obtain rfl := hw2.symm; clear hw2))
  go_ret
  exact ⟨rfl, rfl⟩
 ·obtain hz := hb.resolve_left hn
  rw [hz] at HHAS
  have hne : ((n : Int) == 0) = false := by simpa using hn
  have hne2 : ¬ ((n : Int) = 0) := by omega
  clear hb hz
  go_enter Tryd.func21, Tryd.ntmps21
  go_wp2_with (first | (go_at_call 26; refine HHAS.out.mono ?_; rintro e w2 ⟨rfl, hw2⟩; obtain rfl := hw2.symm; clear hw2))
  go_ret
  exact ⟨rfl, rfl⟩
def bdW (l : List Rl) (nxA : List (List Nat)) (ouA : List Nat) (nxB : List (List Nat)) (ouB : List Nat) (xs : List Int) (p : Nat) : Bool := decide (0 < xs.length) && isB (brkN l) l.length xs.length (ouR nxA ouA xs) (ouR nxB ouB xs.reverse) p
theorem is_of (K : Nat) (l : List Rl) (P tb la lb B n p : Nat) (nxA : List (List Nat)) (ouA : List Nat) (nxB : List (List Nat)) (ouB : List Nat) (xs : List Int) (tv av bv : Value) (tc : Int) (w : World)
 (hx : WinX w P tb B xs tv av bv (n + 1) (stI nxA xs) (n + 1) (stI nxB xs.reverse) tc) (hT : TabQ w K l tb la lb nxA ouA nxB ouB) (hn : xs.length = n) (hp : p ≤ n) (hl : n ≤ 1000000) (hl40 : l.length ≤ 40) (hcl : Cls K xs) :
 Calls Tryd.prog 21 #[.pointer (some ⟨P, 0, none⟩), .int .i64 (p : Int)] w fun e w' => e = .returned (.bool (bdW l nxA ouA nxB ouB xs p)) ∧ ∃ q, w' = w.drewN q := by
 by_cases h0 : n = 0
 ·obtain ⟨ta, tcap, rfl, _, _, _, _⟩ := own_rdI hx.2.1
  have hP := hx.1
  rw [hn] at hP
  refine (is_none w P tb n tcap ta av bv tc (p : Int) hP (.inl h0)).mono fun e w' h => ⟨?_, 0, h.2⟩
  rw [h.1]
  unfold bdW
  simp [hn, h0]
 ·refine (is_any K l P tb la lb B n p nxA ouA nxB ouB xs tv av bv tc w hx hT hn (by omega) hp hl hl40 hcl).mono fun e w' h => ⟨?_, h.2⟩
  rw [h.1]
  unfold bdW
  simp [hn, show 0 < n by omega]
set_option maxHeartbeats 2000000 in
set_option maxRecDepth 100000 in
theorem winBnd_any (K : Nat) (l : List Rl) (P tb la lb B n : Nat) (nxA : List (List Nat)) (ouA : List Nat) (nxB : List (List Nat)) (ouB : List Nat) (xs : List Int) (tv av bv : Value) (tc : Int) (w : World)
 (hx : WinX w P tb B xs tv av bv (n + 1) (stI nxA xs) (n + 1) (stI nxB xs.reverse) tc) (hT : TabQ w K l tb la lb nxA ouA nxB ouB) (hn : xs.length = n) (hl : n ≤ 100000) (hl40 : l.length ≤ 40) (hcl : Cls K xs) :
 Calls Tryd.prog 17 #[.pointer (some ⟨P, 0, none⟩)] w fun e w' => Below w.heap.size w w' ∧ ∃ g, w.heap.size ≤ g ∧ e = .returned (.slice (some ⟨g, 0, none⟩) (n + 1) (n + 1)) ∧ w'.heap[g]? = some (.cells (bFun n (bdW l nxA ouA nxB ouB xs)) 4) := by
 have HIS : Hid (∀ W, Below w.heap.size w W → ∀ p, p ≤ n → Calls Tryd.prog 21 #[.pointer (some ⟨P, 0, none⟩), .int .i64 (p : Int)] W fun e w' => e = .returned (.bool (bdW l nxA ouA nxB ouB xs p)) ∧ ∃ q, w' = W.drewN q) := fun W hW p hp =>
  is_of K l P tb la lb B n p nxA ouA nxB ouB xs tv av bv tc W (hx.keep (chg_below hW (fun _ => False)) (fun _ _ h => h)) (hT.later hW) hn hp (by omega) hl40 hcl
 obtain ⟨ta, tcap, rfl, _, _, _, _⟩ := own_rdI hx.2.1
 have hP := hx.1
 rw [hn] at hP
 obtain ⟨k0, k1, k2, k3, k4, kf⟩ := win_cells hP
 obtain ⟨m1, hm1⟩ : ∃ m1, m1 = n + 1 := ⟨_, rfl⟩
 obtain ⟨CB, hCB, hCs, hmk⟩ := make_b m1 (by omega)
 obtain rfl : CB = bFun n (fun _ => false) := by apply Array.ext'; rw [hCB, bFun_none, hm1]
 obtain ⟨CA, hCA⟩ : ∃ CA, CA = bFun n (fun _ => false) := ⟨_, rfl⟩
 rw [← hCA] at hmk
 obtain ⟨F, hF⟩ : ∃ F, F = bdW l nxA ouA nxB ouB xs := ⟨_, rfl⟩
 rw [← hF] at HIS ⊢
 have hwm : IntKind.i64.wrap ((n : Int) + 1) = (m1 : Int) := by rw [IntKind.wrap_i64]; omega
 obtain ⟨H, hH⟩ : ∃ H, H = w.heap.size := ⟨_, rfl⟩
 obtain ⟨W1, hW1⟩ : ∃ W1, W1 = w.alloc (.cells CA 4) := ⟨_, rfl⟩
 have HB1 : Hid (Below w.heap.size w W1 ∧ W1.heap[H]? = some (.cells (bFun n (fun _ => false)) 4)) := by
  rw [hW1, hH, ← hCA]
  exact ⟨(Below.refl _ w).alloc (Nat.le_refl _) _, heap_alloc_new w _⟩
 have HM : Hid (m1 = n + 1 ∧ n ≤ 100000) := ⟨hm1, hl⟩
 have HH : Hid (H = w.heap.size) := hH
 rw [← hm1]
 clear hx hT hn hl40 hcl hP hCB hCs hF k0 k2 k3 k4 kf hm1 hCA
 go_enter Tryd.func17, Tryd.ntmps17
 go_upto_region 2 with fail
 rw [← hH, ← hW1]
 clear hH hW1 hmk hwm k1
 go_wp2
 go_loopw [14] (fun x14 wr => ∃ i : Nat, x14 = .int .i64 (i : Int) ∧ i ≤ m1 ∧ wr.heap[H]? = some (.cells (bFun n (fun q => decide (q < i) && F q)) 4) ∧ Below w.heap.size w wr) (fun x14 _ => m1 - (intOf x14).toNat)
 case atStart =>
  refine ⟨0, rfl, by omega, ?_, HB1.out.1⟩
  rw [HB1.out.2]
  have he : bFun n (fun _ => false) = bFun n (fun q => decide (q < 0) && F q) := bFun_ext (fun q _ => by simp)
  rw [he]
 case round =>
  obtain ⟨i, hx14, hil, hblk, hbel⟩ := hrel
  subst hx14
  have HBK : Hid (wr.heap[H]? = some (.cells (bFun n (fun q => decide (q < i) && F q)) 4) ∧ Below w.heap.size w wr) := ⟨hblk, hbel⟩
  by_cases hlt : i < m1
  ·have hin : i ≤ n := by have := HM.out; omega
   have hm100 : m1 ≤ 200000 := by have := HM.out; omega
   have HC : Hid (Calls Tryd.prog 21 #[.pointer (some ⟨P, 0, none⟩), .int .i64 (i : Int)] wr fun e w' => e = .returned (.bool (F i)) ∧ ∃ q, w' = wr.drewN q) := HIS.out wr hbel i hin
   have c0 : wr.cell? ⟨H, i, none⟩ = some (.bool (decide (i < i) && F i)) := by rw [cell_of_row wr H i _ _ _ hblk]; exact bFun_get n _ (by omega)
   have c1 : wr.frozen? ⟨H, i, none⟩ = false := Lib.frozen_of_heap hblk i
   have hii : (i : Int) < (m1 : Int) := by omega
   have hi0 : (0 : Int) ≤ (i : Int) := by omega
   have HNX : Hid (∀ q, ((wr.drewN q).setCell ⟨H, i, none⟩ (.bool (F i))).heap[H]? = some (.cells (bFun n (fun q => decide (q < i + 1) && F q)) 4) ∧ Below w.heap.size w ((wr.drewN q).setCell ⟨H, i, none⟩ (.bool (F i)))) := fun q => by
    refine ⟨?_, ?_⟩
    ·rw [heap_setCellX (wr.drewN q) H i (.bool (F i)) _ _ _ HBK.out.1, bFun_put]
     congr 2
     apply bFun_ext
     intro r _
     by_cases h : r = i
     ·rw [if_pos h, h]; simp
     ·rw [if_neg h]
      congr 1
      apply decide_eq_decide.2
      omega
    ·have hb : Below w.heap.size w (wr.drewN q) := ⟨HBK.out.2.os, HBK.out.2.tape, HBK.out.2.output, HBK.out.2.size, HBK.out.2.block⟩
     exact hb.setCell (p := ⟨H, i, none⟩) (by show w.heap.size ≤ H; have := HH.out; omega) _
   clear hblk hbel HIS
   generalize F i = z at HC HNX
   generalize (decide (i < i) && F i) = z0 at c0
   go_wp2_with (first | (go_at_call 21; refine HC.out.mono ?_; rintro e w' ⟨rfl, q, hw'⟩; obtain rfl := hw'))
   go_roundw
   case rel => exact ⟨i + 1, by go_num, by omega, (HNX.out q).1, (HNX.out q).2⟩
   case measure => simp [intOf]; omega
  ·obtain rfl : i = m1 := by omega
   clear hblk hbel
   go_wp2
   go_ret
   have hM := HM.out
   refine ⟨HBK.out.2, H, by have := HH.out; omega, rfl, ?_⟩
   rw [HBK.out.1]
   congr 2
   apply bFun_ext
   intro q hq
   have : q < i := by omega
   simp [this]
end Go.Proofs.YtclogekfdmikpaaDoor

/- Classes of a window; the law's numbers. -/
namespace Go.Proofs.YtclogekfdmikpaaDoor
open Go.RowKit
set_option linter.unusedVariables false
set_option linter.unusedSimpArgs false

theorem classes_any (P tb n cap : Nat) (a : Option Addr) (av bv : Value) (tc : Int) (xs : List Int) (w : World) (h : w.heap[P]? = some (.cells (WCells tb (.slice a n cap) av bv tc) 72)) (hr : Rd .i64 w a n xs) (hnone : a = none → cap = 0) (hn : n ≤ 1000000) :
 Calls Tryd.prog 15 #[.pointer (some ⟨P, 0, none⟩)] w fun e w' => ∃ v, e = .returned v ∧ w'.ownsRow w.heap.size 3 1 v n (jv xs) ∧ Below w.heap.size w w' := by
 have HC : Hid (Calls Tryd.prog 34 #[.slice a n cap] w fun e w' => ∃ v, e = .returned v ∧ w'.ownsRow w.heap.size 3 1 v n (jv xs) ∧ Below w.heap.size w w') := cloneI_any xs a n cap w hr hnone (by omega)
 obtain ⟨k0, k1, k2, k3, k4, kf⟩ := win_cells h
 clear h hr hnone k0 k2 k3 k4 kf
 go_enter Tryd.func15, Tryd.ntmps15
 go_wp2_with (first | (go_at_call 34; refine HC.out.mono ?_; rintro e w2 ⟨v, rfl, ho, hb⟩; have HO : Hid (w2.ownsRow w.heap.size 3 1 v n (jv xs) ∧ Below w.heap.size w w2) := ⟨ho, hb⟩; clear ho hb))
 go_ret
 exact ⟨v, rfl, HO.out.1, HO.out.2⟩
theorem numbers_any (xs ys : List Int) (n m cn cm : Nat) (a b : Option Addr) (w : World) (h1 : Rd .i64 w a n xs) (h2 : Rd .i64 w b m ys) (hn : n ≤ 1000000) (hm : m ≤ 1000000) :
 Calls Tryd.prog 19 #[.slice a n cn, .slice b m cm] w fun e w' => e = .returned (.bool (decide (xs = ys))) ∧ ∃ q, w' = w.drewN q := by
 obtain ⟨l1, g1⟩ := h1
 obtain ⟨l2, g2⟩ := h2
 by_cases hnm : n = m
 ·subst hnm
  have HG : Hid (∀ i, i < n → ∃ b1 o1 b2 o2, a = some ⟨b1, o1, none⟩ ∧ b = some ⟨b2, o2, none⟩ ∧ w.cell? ⟨b1, o1 + i, none⟩ = some (.int .i64 (xs.getD i 0)) ∧ w.cell? ⟨b2, o2 + i, none⟩ = some (.int .i64 (ys.getD i 0))) := fun i hi => by
   obtain ⟨b1, o1, e1, c1⟩ := g1 (by omega)
   obtain ⟨b2, o2, e2, c2⟩ := g2 (by omega)
   exact ⟨b1, o1, b2, o2, e1, e2, c1 i hi, c2 i hi⟩
  have HL : Hid (xs.length = n ∧ ys.length = n) := ⟨l1, l2⟩
  clear g1 g2 l1 l2
  go_enter Tryd.func19, Tryd.ntmps19
  go_wp2
  go_loopw [5] (fun x5 wr => ∃ i : Nat, x5 = .int .i64 (i : Int) ∧ i ≤ n ∧ (∀ k, k < i → xs.getD k 0 = ys.getD k 0) ∧ ∃ q, wr = w.drewN q) (fun x5 _ => n - (intOf x5).toNat)
  case atStart => exact ⟨0, rfl, by omega, fun k hk => absurd hk (by omega), 0, rfl⟩
  case round =>
   obtain ⟨i, hx5, hil, hsm, q, hwr⟩ := hrel
   subst hx5 hwr
   have HS : Hid (∀ k, k < i → xs.getD k 0 = ys.getD k 0) := hsm
   clear hsm
   by_cases hlt : i < n
   ·obtain ⟨b1, o1, b2, o2, rfl, rfl, c1, c2⟩ := HG.out i hlt
    have hi0 : (0 : Int) ≤ (i : Int) := by omega
    have hii : (i : Int) < (n : Int) := by omega
    generalize hx : xs.getD i 0 = x at c1
    generalize hy : ys.getD i 0 = y at c2
    have HXY : Hid (xs.getD i 0 = x ∧ ys.getD i 0 = y) := ⟨hx, hy⟩
    clear hx hy
    by_cases hxy : x = y
    ·subst hxy
     go_upto_region 6 with fail
     go_quiet (fail)
     go_wp2
     go_roundw
     case rel =>
      refine ⟨i + 1, by go_num, by omega, fun k hk => ?_, _, rfl⟩
      rcases Nat.lt_or_ge k i with h | h
      ·exact HS.out k h
      ·rw [show k = i by omega, HXY.out.1, HXY.out.2]
     case measure => simp [intOf]; omega
    ·have hb : (x == y) = false := by simpa using hxy
     have HNE : Hid (decide (xs = ys) = false) := by
      apply decide_eq_false
      intro e
      have := HXY.out
      rw [e] at this
      exact hxy (this.1.symm.trans this.2)
     go_upto_region 6 with fail
     go_quiet (fail)
     go_wp2
     go_ret
     refine ⟨?_, ?_⟩
     ·rw [HNE.out]; rfl
     ·exact ⟨q + nq, by rw [World.drewN_drewN]⟩
   ·obtain rfl : i = n := by omega
    have HNE : Hid (decide (xs = ys) = true) := by
     apply decide_eq_true
     have hl := HL.out
     refine List.ext_getElem (by omega) fun k h1 h2 => ?_
     have := HS.out k (by omega)
     simpa [h1, h2] using this
    go_wp2
    go_ret
    refine ⟨?_, ?_⟩
    ·rw [HNE.out]; rfl
    ·exact ⟨_, rfl⟩
 ·have hne : decide (xs = ys) = false := by
   apply decide_eq_false
   intro e
   rw [e] at l1
   omega
  rw [hne]
  have hx : ((n : Int) == (m : Int)) = false := by
   have : ¬ ((n : Int) = (m : Int)) := by omega
   simpa using this
  have hx2 : ¬ ((n : Int) = (m : Int)) := by omega
  clear g1 g2 l1 l2
  go_enter Tryd.func19, Tryd.ntmps19
  go_wp2
  go_ret
  exact ⟨rfl, 0, rfl⟩
end Go.Proofs.YtclogekfdmikpaaDoor

/- The walk of the statements' shown. -/
namespace Go.Proofs.YtclogekfdmikpaaDoor
open Go.RowKit Go.Shelf
set_option linter.unusedVariables false
set_option linter.unusedSimpArgs false

theorem rdI_oneW (V : World) (a : Int) : Rd .i64 (V.alloc (.cells #[.int .i64 a] 3)) (some ⟨V.heap.size, 0, none⟩) 1 [a] := ⟨rfl, fun _ => ⟨V.heap.size, 0, rfl, fun i hi => by
 rw [cell_of_row _ V.heap.size (0 + i) _ _ _ (heap_alloc_new V _)]
 match i, hi with
 | 0, _ => rfl⟩⟩
theorem TabAt.later {w w' : World} {K : Nat} {l : List Rl} {tb : Nat} (h : TabAt w K l tb) (hV : Below w.heap.size w w') : TabAt w' K l tb := by
 obtain ⟨la, lb, nxA, ouA, nxB, ouB, q1, q2, q3, q4, q5, q6, q7⟩ := h
 exact ⟨la, lb, nxA, ouA, nxB, ouB, (hV.block tb (Array.getElem?_eq_some_iff.1 q1).1).trans q1, q2.later hV, q3, q4, q5.later hV, q6, q7⟩
theorem WinX.low {w : World} {P tb B : Nat} {xs : List Int} {tv av bv : Value} {nA : Nat} {fA : Nat → Int} {nB : Nat} {fB : Nat → Int} {tc : Int} (h : WinX w P tb B xs tv av bv nA fA nB fB tc) (k : Nat) (hk : OwnW P tv av bv k) : B ≤ k ∧ k < w.heap.size := by
 rcases hk with rfl | e | e | e
 ·exact ⟨h.2.2.2.2.2, (Array.getElem?_eq_some_iff.1 h.1).1⟩
 ·exact h.2.1.lt k e
 ·exact h.2.2.1.lt k e
 ·exact h.2.2.2.1.lt k e
theorem below_chg {w0 w W : World} {Q : Nat → Prop} {N B : Nat} (hb : Below N w0 w) (hc : ChgW w W Q) (hN : N ≤ w0.heap.size) (hNB : N ≤ B) (hq : ∀ k, Q k → B ≤ k) : Below N w0 W :=
 ⟨hc.1.trans hb.os, hc.2.1.trans hb.tape, hc.2.2.1.trans hb.output, Nat.le_trans hb.size hc.2.2.2.1, fun k hk => (hc.2.2.2.2 k (by have := hb.size; omega) (fun q => by have := hq k q; omega)).trans (hb.block k hk)⟩
theorem bdW_zero (nxA : List (List Nat)) (ouA : List Nat) (nxB : List (List Nat)) (ouB : List Nat) (xs : List Int) (h : 0 < xs.length) (p : Nat) : bdW [] nxA ouA nxB ouB xs p = true := by
 unfold bdW isB
 rw [show ([] : List Rl).length = 0 from rfl, dcB]
 simp [h]
set_option maxRecDepth 100000 in
set_option maxHeartbeats 8000000 in
theorem shown11_any (w : World) (hT : TabD w) : Calls Tryd.prog 9 #[] w fun e w' => e = .returned (.bool true) ∧ Below w.heap.size w w' := by
 have HTD : Hid (TabD w) := hT
 clear hT
 obtain ⟨w1, hw1⟩ : ∃ w1, w1 = w.alloc (.cells #[.string ⟨#[97]⟩, .string ⟨#[98]⟩] 9) := ⟨_, rfl⟩
 obtain ⟨H, hH⟩ : ∃ H, H = w.heap.size := ⟨_, rfl⟩
 have HB1 : Hid (Below w.heap.size w w1) := by rw [hw1]; exact (Below.refl _ w).alloc (Nat.le_refl _) _
 have HC1 : Hid (Calls Tryd.prog 11 #[.agg #[.slice (some ⟨H, 0, none⟩) 2 2, .slice none 0 0]] w1 (CmpP 2 [] w1)) := compile_any 0 2 [] (some ⟨H, 0, none⟩) none 2 0 w1 (HTD.out.later HB1.out) ⟨rfl, fun i hi => absurd hi (by simp)⟩ (by simp)
 go_enter Tryd.func9, Tryd.ntmps9
 go_wp2_with fail
 rw [← hH, ← hw1]
 clear hH hw1
 refine HC1.out.mono ?_
 rintro e w2 ⟨hb2, hor⟩
 have HB2 : Hid (Below w.heap.size w w2) := HB1.out.trans (hb2.mono HB1.out.size)
 have hnb : ¬ BigC 2 (xsL []) ∧ ¬ BigC 2 (xsR []) := ⟨many_not_big 2 0 (by decide), many_not_big 2 0 (by decide)⟩
 obtain ⟨tb, rfl, hta⟩ : ∃ tb, e = .returned (.tuple #[.pointer (some ⟨tb, 0, none⟩), .int .i64 0]) ∧ TabAt w2 2 [] tb := by
  rcases hor with ⟨hal, _⟩ | ⟨_, ⟨_, htb | htb⟩ | ⟨tb, he, _, hta, _⟩⟩
  ·exact absurd hal (by decide)
  ·exact absurd htb hnb.1
  ·exact absurd htb hnb.2
  ·exact ⟨tb, he, hta⟩
 obtain ⟨la, lb, nxA, ouA, nxB, ouB, htq⟩ := hta
 have HTQ : Hid (TabQ w2 2 [] tb la lb nxA ouA nxB ouB) := htq
 clear hb2 hor hnb htq HC1
 have HN : Hid (Calls Tryd.prog 12 #[.pointer (some ⟨tb, 0, none⟩), .slice none 0 0] w2 (NewQ 2 [] tb nxA nxB [] w2)) := new_any 2 [] tb la lb nxA ouA nxB ouB [] 0 0 none w2 HTQ.out (rd_nil _ _) (fun _ => rfl) (by omega)
 go_wp2_with fail
 refine HN.out.mono ?_
 rintro e w3 ⟨hb3, hor⟩
 obtain ⟨P, tv, av, bv, rfl, hPl, hx3⟩ : ∃ P tv av bv, e = .returned (.tuple #[.pointer (some ⟨P, 0, none⟩), .int .i64 0]) ∧ w2.heap.size ≤ P ∧ WinX w3 P tb w2.heap.size [] tv av bv (0 + 1) (stI nxA []) (0 + 1) (stI nxB [].reverse) 0 := by
  rcases hor with ⟨h, _⟩ | ⟨_, h⟩
  ·exact absurd h (by simp)
  ·exact h
 have HX3 : Hid (WinX w3 P tb w2.heap.size [] tv av bv (0 + 1) (stI nxA []) (0 + 1) (stI nxB [].reverse) 0 ∧ Below w2.heap.size w2 w3) := ⟨hx3, hb3⟩
 clear hb3 hor hPl hx3 HN
 have HBD : Hid (Calls Tryd.prog 17 #[.pointer (some ⟨P, 0, none⟩)] w3 fun e w' => Below w3.heap.size w3 w' ∧ ∃ g, w3.heap.size ≤ g ∧ e = .returned (.slice (some ⟨g, 0, none⟩) 1 1) ∧ w'.heap[g]? = some (.cells (bFun 0 (bdW [] nxA ouA nxB ouB [])) 4)) := winBnd_any 2 [] P tb la lb w2.heap.size 0 nxA ouA nxB ouB [] tv av bv 0 w3 HX3.out.1 (HTQ.out.later HX3.out.2) rfl (by omega) (by simp) (fun c hc => by simp at hc)
 go_wp2_with fail
 refine HBD.out.mono ?_
 rintro e w4 ⟨hb4, g, hgl, rfl, hg⟩
 have HX4 : Hid (WinX w4 P tb w2.heap.size [] tv av bv (0 + 1) (stI nxA []) (0 + 1) (stI nxB [].reverse) 0 ∧ Below w2.heap.size w2 w4 ∧ w4.heap[g]? = some (.cells (bFun 0 (bdW [] nxA ouA nxB ouB [])) 4) ∧ ∀ k, OwnW P tv av bv k → k < g) := ⟨HX3.out.1.keep (chg_below hb4 (fun _ => False)) (fun _ _ h => h), HX3.out.2.trans (hb4.mono HX3.out.2.size), hg, fun k hk => by have := (HX3.out.1.low k hk).2; omega⟩
 clear hb4 hgl hg HBD HX3
 obtain ⟨W5, hW5⟩ : ∃ W5, W5 = w4.alloc (.cells #[.int .i64 1] 3) := ⟨_, rfl⟩
 obtain ⟨g5, hg5⟩ : ∃ g, g = w4.heap.size := ⟨_, rfl⟩
 have HX5 : Hid (Below w4.heap.size w4 W5) := by rw [hW5]; exact (Below.refl _ w4).alloc (Nat.le_refl _) _
 have HSP : Hid (Calls Tryd.prog 13 #[.pointer (some ⟨P, 0, none⟩), .int .i64 0, .int .i64 0, .slice (some ⟨g5, 0, none⟩) 1 1] W5 fun e w' => e = .returned (.int .i64 0) ∧ ∃ tv' av' bv', WinX w' P tb w2.heap.size [1] tv' av' bv' (1 + 1) (stI nxA [1]) (1 + 1) (stI nxB [1].reverse) 2 ∧ Below w2.heap.size w2 w' ∧ w'.heap[g]? = some (.cells (bFun 0 (bdW [] nxA ouA nxB ouB [])) 4)) := by
  obtain ⟨x1, x2, x3, x4⟩ := HX4.out
  have hx5 := x1.keep (chg_below HX5.out (fun _ => False)) (fun _ _ h => h)
  have hb5 : Below w2.heap.size w2 W5 := x2.trans (HX5.out.mono x2.size)
  have hA := HTQ.out.2.2.1
  have hB := HTQ.out.2.2.2.2.2.1
  have hbc : ∀ W, ChgW W5 W (OwnW P tv av bv) → Below w2.heap.size w2 W := fun W hc => below_chg hb5 hc (Nat.le_refl _) (Nat.le_refl _) (fun k hk => (x1.low k hk).1)
  have h := splice_ok 2 [] P tb la lb w2.heap.size nxA ouA nxB ouB [] [1] 0 0 1 0 tv av bv 0 (some ⟨g5, 0, none⟩) 1 W5 hx5 (fun W hc => HTQ.out.later (hbc W hc)) rfl (by omega) rfl (fun c hc => by simp at hc) (fun c hc => by simp at hc; omega) (by rw [hW5, hg5]; exact rdI_oneW w4 1) (fun h => by cases h) (fun b off e e2 => by
   have h1 := own_lt' x1.2.1 b e2
   injection e with e
   injection e with e3
   omega) (by omega) (fun row i => stR_lt hA row i) (wide_at hA) (fun row i => stR_lt hB row i) (wide_at hB)
  refine Calls.mono h ?_
  rintro e w' ⟨he, tv', av', bv', r1, r2, h1, h2, h3, h4, _⟩
  refine ⟨he, tv', av', bv', ?_, hbc w' h4, ?_⟩
  ·rw [spl_nil] at h1
   have e1 := rdN_nil _ _ _ h2
   have e2 := rdN_nil nxB [1].reverse r2 h3
   rw [e1, e2] at h1
   exact h1
  ·exact chg_heap h4 ((HX5.out.block g (Array.getElem?_eq_some_iff.1 x3).1).trans x3) (fun q => by have := x4 g q; omega)
 go_wp2_with fail
 rw [← hg5, ← hW5]
 clear hg5 hW5
 refine HSP.out.mono ?_
 rintro e w6 ⟨rfl, tv6, av6, bv6, hx6, hb6, hg6⟩
 have HX6 : Hid (WinX w6 P tb w2.heap.size [1] tv6 av6 bv6 (1 + 1) (stI nxA [1]) (1 + 1) (stI nxB [1].reverse) 2 ∧ Below w2.heap.size w2 w6 ∧ w6.heap[g]? = some (.cells (bFun 0 (bdW [] nxA ouA nxB ouB [])) 4)) := ⟨hx6, hb6, hg6⟩
 clear hx6 hb6 hg6 HSP HX5 HX4
 obtain ⟨ta, tcap, rfl, _, _, _, _⟩ := own_rdI HX6.out.1.2.1
 have HK : Hid (∀ W, Below w6.heap.size w6 W → WinX W P tb w2.heap.size [1] (.slice ta 1 tcap) av6 bv6 (1 + 1) (stI nxA [1]) (1 + 1) (stI nxB [1].reverse) 2 ∧ TabQ W 2 [] tb la lb nxA ouA nxB ouB ∧ W.cell? ⟨g, 0, none⟩ = some (.bool false) ∧ Below w.heap.size w W) := fun W hW => by
  obtain ⟨x1, x2, x3⟩ := HX6.out
  have hb : Below w2.heap.size w2 W := x2.trans (hW.mono x2.size)
  refine ⟨x1.keep (chg_below hW (fun _ => False)) (fun _ _ h => h), HTQ.out.later hb, ?_, HB2.out.trans (hb.mono HB2.out.size)⟩
  rw [cell_of_row W g 0 _ _ _ ((hW.block g (Array.getElem?_eq_some_iff.1 x3).1).trans x3), bFun_get 0 _ (by decide)]
  rfl
 clear HX6 HTQ HB2 HB1 HTD
 obtain ⟨W7, hW7⟩ : ∃ W7, W7 = w6.alloc (.cells #[.int .i64 2] 3) := ⟨_, rfl⟩
 obtain ⟨g7, hg7⟩ : ∃ g, g = w6.heap.size := ⟨_, rfl⟩
 have HX7 : Hid (Below w6.heap.size w6 W7) := by rw [hW7]; exact (Below.refl _ w6).alloc (Nat.le_refl _) _
 have HS2 : Hid (Calls Tryd.prog 13 #[.pointer (some ⟨P, 0, none⟩), .int .i64 0, .int .i64 0, .slice (some ⟨g7, 0, none⟩) 1 1] W7 fun e w' => e = .returned (.int .i64 1) ∧ Below W7.heap.size W7 w') :=
  splice_strange 2 [] P tb 1 tcap 0 0 1 1 ta (some ⟨g7, 0, none⟩) [2] av6 bv6 2 W7 (HK.out W7 HX7.out).1.1 (fun W hW => (HK.out W (HX7.out.trans (hW.mono HX7.out.size))).2.1.at) (by omega) (by omega) (by rw [hW7, hg7]; exact rdI_oneW w6 2) (by omega) (by decide)
 go_wp2_with fail
 rw [← hg7, ← hW7]
 clear hg7 hW7
 refine HS2.out.mono ?_
 rintro e w8 ⟨rfl, hb8⟩
 have HX8 : Hid (Below w6.heap.size w6 w8) := HX7.out.trans (hb8.mono HX7.out.size)
 clear hb8 HS2 HX7
 have HS3 : Hid (Calls Tryd.prog 13 #[.pointer (some ⟨P, 0, none⟩), .int .i64 2, .int .i64 0, .slice none 0 0] w8 fun e w' => e = .returned (.int .i64 3) ∧ Below w8.heap.size w8 w') :=
  splice_far P tb 1 tcap ta av6 bv6 (.slice none 0 0) 2 2 0 w8 (HK.out w8 HX8.out).1.1 (by omega) (by decide)
 go_wp2_with fail
 refine HS3.out.mono ?_
 rintro e w9 ⟨rfl, hb9⟩
 have HX9 : Hid (Below w6.heap.size w6 w9) := HX8.out.trans (hb9.mono HX8.out.size)
 clear hb9 HS3 HX8
 obtain ⟨W10, hW10⟩ : ∃ W10, W10 = w9.alloc (.cells #[.int .i64 2] 3) := ⟨_, rfl⟩
 obtain ⟨g10, hg10⟩ : ∃ g, g = w9.heap.size := ⟨_, rfl⟩
 have HX10 : Hid (Below w6.heap.size w6 W10) := by rw [hW10]; exact HX9.out.alloc HX9.out.size _
 have HN2 : Hid (Calls Tryd.prog 12 #[.pointer (some ⟨tb, 0, none⟩), .slice (some ⟨g10, 0, none⟩) 1 1] W10 (NewQ 2 [] tb nxA nxB [2] W10)) := new_any 2 [] tb la lb nxA ouA nxB ouB [2] 1 1 (some ⟨g10, 0, none⟩) W10 (HK.out W10 HX10.out).2.1 (by rw [hW10, hg10]; exact rdI_oneW w9 2) (fun h => by cases h) (by omega)
 go_wp2_with fail
 rw [← hg10, ← hW10]
 clear hg10 hW10
 refine HN2.out.mono ?_
 rintro e w11 ⟨hb11, hor⟩
 have HX11 : Hid (Below w6.heap.size w6 w11) := HX10.out.trans (hb11.mono HX10.out.size)
 obtain rfl : e = .returned (.tuple #[.pointer none, .int .i64 1]) := by
  rcases hor with ⟨_, h⟩ | ⟨h, _⟩
  ·exact h
  ·exact absurd h (by decide)
 clear hb11 hor HN2 HX10 HX9
 have HT12 : Hid (Calls Tryd.prog 18 #[.pointer (some ⟨P, 0, none⟩)] w11 fun e w' => e = .returned (.int .i64 2) ∧ w' = w11) := touched_any w11 P tb _ _ _ 2 (HK.out w11 HX11.out).1.1
 have HL12 : Hid (Calls Tryd.prog 20 #[.pointer (some ⟨P, 0, none⟩)] w11 fun e w' => e = .returned (.int .i64 1) ∧ w' = w11) := len_any w11 P tb 1 tcap ta _ _ 2 (HK.out w11 HX11.out).1.1
 have HIS : Hid (∀ q (p : Nat), p ≤ 1 → Calls Tryd.prog 21 #[.pointer (some ⟨P, 0, none⟩), .int .i64 (p : Int)] (w11.drewN q) fun e w' => e = .returned (.bool true) ∧ ∃ m, w' = (w11.drewN q).drewN m) := fun q p hp => by
  have hb : Below w6.heap.size w6 (w11.drewN q) := ⟨HX11.out.os, HX11.out.tape, HX11.out.output, HX11.out.size, HX11.out.block⟩
  obtain ⟨y1, y2, _⟩ := HK.out (w11.drewN q) hb
  have h := is_of 2 [] P tb la lb w2.heap.size 1 p nxA ouA nxB ouB [1] _ av6 bv6 2 (w11.drewN q) y1 y2 rfl hp (by omega) (by simp) (fun c hc => by simp at hc; omega)
  rw [bdW_zero _ _ _ _ [1] (by decide)] at h
  exact h
 have HIN : Hid (∀ q (p : Int), hasB 1 p = false → Calls Tryd.prog 21 #[.pointer (some ⟨P, 0, none⟩), .int .i64 p] (w11.drewN q) fun e w' => e = .returned (.bool false) ∧ w' = (w11.drewN q)) := fun q p hp => by
  have hb : Below w6.heap.size w6 (w11.drewN q) := ⟨HX11.out.os, HX11.out.tape, HX11.out.output, HX11.out.size, HX11.out.block⟩
  exact is_none (w11.drewN q) P tb 1 tcap ta av6 bv6 2 p (HK.out (w11.drewN q) hb).1.1 (.inr hp)
 have HBZ : Hid (∀ q, Below w.heap.size w (w11.drewN q)) := fun q => by
  have h := (HK.out w11 HX11.out).2.2.2
  exact ⟨h.os, h.tape, h.output, h.size, h.block⟩
 have c0 := (HK.out w11 HX11.out).2.2.1
 clear HK HX11
 have HI0 : Hid (Calls Tryd.prog 21 #[.pointer (some ⟨P, 0, none⟩), .int .i64 0] w11 fun e w' => e = .returned (.bool true) ∧ ∃ m, w' = w11.drewN m) := HIS.out 0 0 (by omega)
 have HI1 : Hid (∀ q, Calls Tryd.prog 21 #[.pointer (some ⟨P, 0, none⟩), .int .i64 1] (w11.drewN q) fun e w' => e = .returned (.bool true) ∧ ∃ m, w' = w11.drewN m) := fun q => (HIS.out q 1 (by omega)).mono fun e w' h => ⟨h.1, by obtain ⟨_, m, rfl⟩ := h; exact ⟨q + m, by rw [World.drewN_drewN]⟩⟩
 have HI2 : Hid (∀ q, Calls Tryd.prog 21 #[.pointer (some ⟨P, 0, none⟩), .int .i64 2] (w11.drewN q) fun e w' => e = .returned (.bool false) ∧ w' = (w11.drewN q)) := fun q => HIN.out q 2 (by decide)
 have HI3 : Hid (∀ q, Calls Tryd.prog 21 #[.pointer (some ⟨P, 0, none⟩), .int .i64 (-1)] (w11.drewN q) fun e w' => e = .returned (.bool false) ∧ w' = (w11.drewN q)) := fun q => HIN.out q (-1) (by decide)
 clear HIS HIN
 go_wp2_with (first
  | (go_at_call 18; refine HT12.out.mono ?_; rintro e w' ⟨rfl, hw'⟩; obtain rfl := hw'.symm; clear hw')
  | (go_at_call 20; refine HL12.out.mono ?_; rintro e w' ⟨rfl, hw'⟩; obtain rfl := hw'.symm; clear hw')
  | (go_at_call_of 21 (Value.int .i64 0); refine HI0.out.mono ?_; rintro e w' ⟨rfl, q, hw'⟩; obtain rfl := hw')
  | (go_at_call_of 21 (Value.int .i64 1); refine (HI1.out _).mono ?_; rintro e w' ⟨rfl, q2, hw'⟩; obtain rfl := hw')
  | (go_at_call_of 21 (Value.int .i64 2); refine (HI2.out _).mono ?_; rintro e w' ⟨rfl, hw'⟩; obtain rfl := hw'))
 refine (HI3.out _).mono ?_
 rintro e w' ⟨rfl, hw'⟩
 obtain rfl := hw'
 go_wp2_with fail
 go_ret
 exact ⟨rfl, HBZ.out _⟩
end Go.Proofs.YtclogekfdmikpaaDoor

/- The walk of Same of the reference of reading. -/
namespace Go.Proofs.YtclogekfdmikpaaDoor
open Go.RowKit
set_option linter.unusedVariables false
set_option linter.unusedSimpArgs false

theorem below_dN {B : Nat} {w w' : World} (h : Below B w w') (n : Nat) : Below B w (w'.drewN n) := ⟨h.os, h.tape, h.output, h.size, h.block⟩
theorem bools_eq {as' bs : List Bool} {n : Nat} (h1 : as'.length = n) (h2 : bs.length = n) (h : ∀ j, j < n → as'.getD j false = bs.getD j false) : as' = bs := by
 apply List.ext_getElem (by omega)
 intro i h3 h4
 have := h i (by omega)
 simpa [h3, h4] using this
set_option maxHeartbeats 4000000 in
theorem sameQ_any (ys bs : List Bool) (a1 a2 : Option Addr) (n c1 c2 : Nat) (w : World) (h1 : RdT w a1 n ys) (h2 : RdT w a2 n bs) (hn : n ≤ 1000) :
 Calls Tryd.prog 16 #[.slice a1 n c1, .slice a2 n c2] w fun e w' => e = .returned (.bool (decide (ys = bs))) ∧ ∃ m, w' = w.drewN m := by
 have HL : Hid (ys.length = n ∧ bs.length = n) := ⟨h1.1, h2.1⟩
 have HA : Hid (RdT w a1 n ys) := h1
 have HB : Hid (RdT w a2 n bs) := h2
 have hni : (n : Int) ≤ 1000 := by omega
 obtain ⟨R, hR⟩ : ∃ R, R = decide (ys = bs) := ⟨_, rfl⟩
 rw [← hR]
 have HR : Hid (R = decide (ys = bs)) := hR
 clear h1 h2 hR
 go_enter Tryd.func16, Tryd.ntmps16
 go_wp2
 go_loopw [5] (fun x5 wr => ∃ k : Nat, k ≤ n ∧ x5 = .int .i64 k ∧ (∀ j, j < k → ys.getD j false = bs.getD j false) ∧ ∃ m, wr = w.drewN m) (fun x5 _ => n - (intOf x5).toNat)
 case atStart => exact ⟨0, by omega, rfl, fun j hj => absurd hj (by omega), 0, rfl⟩
 case round =>
  obtain ⟨k, hk, hx5, hat, hbl⟩ := hrel
  subst hx5
  have HBL : Hid (Below w.heap.size w wr) := by obtain ⟨m0, rfl⟩ := hbl; exact below_dN (Below.refl _ _) _
  have HMM : Hid (∃ m, wr = w.drewN m) := hbl
  have HMN : Hid (∀ n, ∃ m, wr.drewN n = w.drewN m) := fun n => by obtain ⟨m0, rfl⟩ := hbl; exact ⟨m0 + n, World.drewN_drewN _ _ _⟩
  clear hbl
  have HAT : Hid (∀ j, j < k → ys.getD j false = bs.getD j false) := hat
  clear hat
  by_cases hlt : k < n
  ·obtain ⟨b1, o1, rfl, e1⟩ := (HA.out.later HBL.out).2 (by omega)
   obtain ⟨b2, o2, rfl, e2⟩ := (HB.out.later HBL.out).2 (by omega)
   have t1 := e1 k hlt
   have t2 := e2 k hlt
   obtain ⟨x, hx⟩ : ∃ x, x = ys.getD k false := ⟨_, rfl⟩
   obtain ⟨y, hy⟩ : ∃ y, y = bs.getD k false := ⟨_, rfl⟩
   have HXY : Hid (x = ys.getD k false ∧ y = bs.getD k false) := ⟨hx, hy⟩
   rw [← hx] at t1
   rw [← hy] at t2
   have hki : (k : Int) < (n : Int) := by omega
   have hk0 : (0 : Int) ≤ (k : Int) := by omega
   clear e1 e2 hx hy
   by_cases hxy : x = y
   ·subst hxy
    have hbb : (x != x) = false := by simp
    go_wp2_with fail
    go_quiet (fail)
    go_wp2
    go_roundw
    case rel =>
     refine ⟨k + 1, by omega, by go_num, fun j hj => ?_, HMN.out nq⟩
     rcases Nat.lt_or_ge j k with h | h
     ·exact HAT.out j h
     ·obtain rfl : j = k := by omega
      rw [← HXY.out.1, ← HXY.out.2]
    case measure => first | (simp [intOf]; done) | (simp [intOf]; omega)
   ·have hRf : R = false := by
     rw [HR.out, decide_eq_false_iff_not]
     intro e
     apply hxy
     rw [HXY.out.1, HXY.out.2, e]
    subst hRf
    have hbb : (x == y) = false := by cases x <;> cases y <;> simp_all
    have hbc : (x != y) = true := by cases x <;> cases y <;> simp_all
    go_wp2_with fail
    go_quiet (fail)
    go_wp2
    go_ret
    exact ⟨rfl, HMN.out nq⟩
  ·obtain rfl : k = n := by omega
   have hRt : R = true := by
    rw [HR.out, decide_eq_true_eq]
    exact bools_eq HL.out.1 HL.out.2 HAT.out
   subst hRt
   go_wp2
   go_ret
   exact ⟨rfl, HMM.out⟩
theorem sameL_any (ys bs : List Bool) (a1 a2 : Option Addr) (n c1 c2 : Nat) (w : World) (h1 : RdT w a1 n ys) (h2 : RdT w a2 n bs) (hn : n ≤ 1000) :
 Calls Tryd.prog 16 #[.slice a1 n c1, .slice a2 n c2] w fun e w' => e = .returned (.bool (decide (ys = bs))) ∧ Below w.heap.size w w' :=
 (sameQ_any ys bs a1 a2 n c1 c2 w h1 h2 hn).mono fun e w' ⟨he, m, hm⟩ => ⟨he, by rw [hm]; exact below_dN (Below.refl _ _) m⟩
end Go.Proofs.YtclogekfdmikpaaDoor

/- The walk of shown. -/
namespace Go.Proofs.YtclogekfdmikpaaDoor
open Go.RowKit Go.Shelf Go.Maps
set_option linter.unusedVariables false
set_option linter.unusedSimpArgs false

end Go.Proofs.YtclogekfdmikpaaDoor

/- The walk of the reference's Decide. -/
namespace Go.Proofs.YtclogekfdmikpaaDoor
open Go.RowKit Go.Shelf
set_option linter.unusedVariables false
set_option linter.unusedSimpArgs false

end Go.Proofs.YtclogekfdmikpaaDoor

/- The walk of TablesDecide. -/
namespace Go.Proofs.YtclogekfdmikpaaDoor
open Go.RowKit Go.Shelf Go.Maps
set_option linter.unusedVariables false
set_option linter.unusedSimpArgs false

theorem box2 {w : World} {B : Nat} {a b : Value} {t : TypeId} (hh : w.heap[B]? = some (.cells #[a, b] t)) : (w.cell? ⟨B, 0, none⟩ = some a ∧ w.cell? ⟨B, 1, none⟩ = some b) ∧ w.frozen? ⟨B, 0, none⟩ = false ∧ w.frozen? ⟨B, 1, none⟩ = false :=
 ⟨⟨cell_of_row w B 0 _ _ _ hh, cell_of_row w B 1 _ _ _ hh⟩, Lib.frozen_of_heap hh 0, Lib.frozen_of_heap hh 1⟩
end Go.Proofs.YtclogekfdmikpaaDoor

/- What puts the same in the place of the same; cuts of rows of numbers. -/
namespace Go.Proofs.YtclogekfdmikpaaDoor
open Go.RowKit
set_option linter.unusedVariables false
set_option linter.unusedSimpArgs false

theorem spl_same (xs : List Int) (p k : Nat) : spl xs p k ((xs.drop p).take k) = xs := by
 unfold spl
 rw [List.append_assoc, show xs.drop (p + k) = (xs.drop p).drop k by rw [List.drop_drop], List.take_append_drop, List.take_append_drop]
theorem rdN_same (nx : List (List Nat)) (xs cls : List Int) (p k r : Nat) (hs : spl xs p k cls = xs) (hl : cls.length = k) (h : RdN nx xs cls p k r) : r = 0 := by
 rcases Nat.eq_zero_or_pos r with h0 | h0
 ·exact h0
 ·have h1 := h.2.1 0 h0
  rw [hs, hl] at h1
  exact absurd rfl h1
theorem cutI_mid (a : Option Addr) (len cap lo hi : Nat) (h1 : lo ≤ hi) (h2 : hi ≤ len) (h3 : len ≤ cap) :
 ∃ a', (∀ W, (Instr.slice 26 (.slice a len cap) (some (.int .i64 lo)) (some (.int .i64 hi)) none).run Tryd.prog W = .ok (.slice a' (hi - lo) (cap - lo)) W) ∧ (∀ (w : World) (xs : List Int), Rd .i64 w a len xs → Rd .i64 w a' (hi - lo) ((xs.drop lo).take (hi - lo))) ∧ (∀ ad', a' = some ad' → ∃ ad, a = some ad ∧ ad'.block = ad.block) ∧ (a' = none → a = none) := by
 refine ⟨if cap = lo then a else a.map (·.add lo), fun W => ?_, fun w xs h => ⟨by have := h.1; simp; omega, fun hp => ?_⟩, fun ad' e => ?_, fun e => ?_⟩
 ·have g0 : (0 : Int) ≤ (lo : Int) := by omega
  have g1 : (lo : Int) ≤ (hi : Int) := by omega
  have g2 : (hi : Int) ≤ (cap : Int) := by omega
  go_simp
 ·obtain ⟨b, off, rfl, hc⟩ := h.2 (by omega)
  rw [if_neg (by omega)]
  refine ⟨b, off + lo, by simp [add_lit], fun i hi' => ?_⟩
  rw [show off + lo + i = off + (lo + i) by omega, hc (lo + i) (by omega)]
  simp [hi']
 ·by_cases hc : cap = lo
  ·rw [if_pos hc] at e
   exact ⟨ad', e, rfl⟩
  ·rw [if_neg hc] at e
   cases a with
   | none => cases e
   | some ad =>
     refine ⟨ad, rfl, ?_⟩
     injection e with e
     rw [← e]
     show (ad.add lo).block = ad.block
     unfold Addr.add
     split <;> rfl
 ·by_cases hc : cap = lo
  ·rwa [if_pos hc] at e
  ·rw [if_neg hc] at e
   cases a with
   | none => rfl
   | some ad => cases e
end Go.Proofs.YtclogekfdmikpaaDoor
