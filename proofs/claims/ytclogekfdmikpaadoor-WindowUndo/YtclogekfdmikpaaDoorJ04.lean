/- In one text: WinH, NfaD. -/
import Derived.Test.YtclogekfdmikpaaDoorJ03
import Derived.Test.YtclogekfdmikpaaDoorJ01
/- The walk of the library's Replace of numbers in place; all of Replace together. -/
namespace Go.Proofs.YtclogekfdmikpaaDoor
open Go.RowKit
set_option linter.unusedVariables false

theorem ct_all (b off len cap lo : Nat) (h1 : lo ≤ len) (h3 : cap = lo) (W : World) : (Instr.slice 26 (.slice (some ⟨b, off, none⟩) len cap) (some (.int .i64 (lo : Int))) none none).run Tryd.prog W = .ok (.slice (some ⟨b, off, none⟩) (len - lo) (cap - lo)) W := by
 have g0 : (0 : Int) ≤ (lo : Int) := by omega
 have g1 : (lo : Int) ≤ (len : Int) := by omega
 go_simp
set_option maxHeartbeats 4000000 in
set_option maxRecDepth 100000 in
theorem repI_down (rs vs : List Int) (B g cap : Nat) (va : Option Addr) (vc m i j : Nat) (w : World) (hown : w.ownsRow B 3 1 (.slice (some ⟨g, 0, none⟩) rs.length cap) rs.length (jv rs)) (hij : i < j) (him : i + m ≤ j) (hj : j < rs.length) (hv : Rd .i64 w va m vs) (hvn : va = none → vc = 0) (hl : rs.length + m ≤ 1000000) :
 Calls Tryd.prog 28 #[.slice (some ⟨g, 0, none⟩) rs.length cap, .int .i64 i, .int .i64 j, .slice va m vc] w (RepP B (rs.take i ++ vs ++ rs.drop j) (.slice (some ⟨g, 0, none⟩) rs.length cap) w) := by
 obtain ⟨n, hn⟩ : ∃ n, n = rs.length := ⟨_, rfl⟩
 rw [← hn] at hown hj hl ⊢
 obtain ⟨cur, hg, hs, hnc, hmx, hbg, ht⟩ := own_blkI hown
 have hm' : cap ≤ 9223372036854775807 := by simpa [maxLen] using hmx
 obtain ⟨tot, htot⟩ : ∃ tot, tot = i + m + (n - j) := ⟨_, rfl⟩
 have HGR : Hid (∀ V : World, Below w.heap.size w V → V.heap = w.heap → ∃ W1 W2 W3,
  (∀ ty dc, (Builtin.copy_ #[26, 26] ty #[.slice (some ⟨g, i, none⟩) (tot - i) dc, .slice va m vc]).run Tryd.prog V = .ok (goInt (m : Int)) W1) ∧
  (∀ ty dc sc, (Builtin.copy_ #[26, 26] ty #[.slice (some ⟨g, i + m, none⟩) (n - j) dc, .slice (some ⟨g, j, none⟩) (n - j) sc]).run Tryd.prog W1.drew = .ok (goInt ((n - j : Nat) : Int)) W2) ∧
  (∀ ty o c, (0 < n - tot → o = tot) → (Builtin.clear_ #[26] ty #[.slice (some ⟨g, o, none⟩) (n - tot) c]).run Tryd.prog W2 = .ok (.tuple #[]) W3) ∧
  RepP B (rs.take i ++ vs ++ rs.drop j) (.slice (some ⟨g, 0, none⟩) n cap) V (.returned (.slice (some ⟨g, 0, none⟩) tot cap)) W3) := fun V hb hV =>
  downI rs vs B g cap cur va vc m i j n tot V hbg (by rw [hV]; exact hg) hnc hmx hs hn ht him hj htot (hv.later hb) hvn
 have hit : i ≤ tot := by omega
 have htn : tot ≤ n := by omega
 have c2 := ct_to (some ⟨g, 0, none⟩) n cap i (by omega) (i : Int) rfl
 have c5 := ct_from g 0 n cap j (by omega) hnc (by omega) (j : Int) rfl
 have c6 := ct_to (some ⟨g, 0, none⟩) n cap tot (by omega) (tot : Int) rfl
 have c7 := ct_from g 0 tot cap i hit (by omega) (by omega) (i : Int) rfl
 have c8 := ct_from g 0 tot cap (i + m) (by omega) (by omega) (by omega) ((i : Int) + (m : Int)) (by omega)
 rw [Nat.zero_add] at c5 c7 c8
 rw [show tot - (i + m) = n - j by omega] at c8
 obtain ⟨o9, ho9, c9⟩ : ∃ o9, (0 < n - tot → o9 = tot) ∧ ∀ W, (Instr.slice 26 (.slice (some ⟨g, 0, none⟩) n cap) (some (.int .i64 (tot : Int))) none none).run Tryd.prog W = .ok (.slice (some ⟨g, o9, none⟩) (n - tot) (cap - tot)) W := by
  by_cases hc : cap = tot
  ·exact ⟨0, fun h => by omega, ct_all g 0 n cap tot htn hc⟩
  ·refine ⟨tot, fun _ => rfl, ?_⟩
   have := ct_from g 0 n cap tot htn hnc hc (tot : Int) rfl
   rw [Nat.zero_add] at this
   exact this
 have hz3 : ((i : Int) == (j : Int)) = false := beq_false_of_ne (by omega)
 have hz4 : ((j : Int) == (n : Int)) = false := beq_false_of_ne (by omega)
 have h1 : (i : Int) ≤ (j : Int) := by omega
 have h2 : (j : Int) ≤ (cap : Int) := by omega
 have hw0 : IntKind.i64.wrap ((i : Int) + (m : Int)) = (i : Int) + (m : Int) := by rw [IntKind.wrap_i64]; omega
 have hw1 : (i : Int) + (m : Int) + ((n - j : Nat) : Int) = (tot : Int) := by omega
 have hwt : IntKind.i64.wrap ((i : Int) + (m : Int) + ((n - j : Nat) : Int)) = (tot : Int) := by rw [hw1, IntKind.wrap_i64]; omega
 have hbig : ¬ (cap : Int) < (tot : Int) := by omega
 have heasy : (i : Int) + (m : Int) ≤ (j : Int) := by omega
 have mixed : Tryd.prog.follows .mixedOrders = true := by kernel_rfl
 have HO9 : Hid (0 < n - tot → o9 = tot) := ho9
 clear hn hown hg hs ht hmx hbg hv htot hw1 ho9 hvn
 go_enter Tryd.func28, Tryd.ntmps28
 go_upto_region 9 with fail
 go_quiet (fail)
 obtain ⟨W1, W2, W3, hA, hBc, hC, hfin⟩ := HGR.out (w.drewN nq) ⟨rfl, rfl, rfl, Nat.le_refl _, fun _ _ => rfl⟩ rfl
 have HFIN : Hid (RepP B (rs.take i ++ vs ++ rs.drop j) (.slice (some ⟨g, 0, none⟩) n cap) w (.returned (.slice (some ⟨g, 0, none⟩) tot cap)) W3) := rep_drew hfin
 have hC' := fun ty c => hC ty o9 c HO9.out
 generalize w.drewN nq = V at hA ⊢
 clear hC hfin
 go_wp2_with (first
  | (at_builtin; refine wpList_copy_runI _ rfl _ _ 26 26 rfl _ _ rfl rfl (hA _ _) ?_))
 go_region_law (refine step_copy_runI rfl _ _ 26 26 rfl _ _ (by simp [Act.eval, Act.put]) (by simp [Act.eval, Act.put]) (hBc _ _ _) ?_)
 go_wp2
 go_ret
 exact HFIN.out
set_option maxHeartbeats 4000000 in
set_option maxRecDepth 100000 in
theorem repI_up (rs vs : List Int) (B g cap : Nat) (vb vo vc m i j : Nat) (w : World) (hown : w.ownsRow B 3 1 (.slice (some ⟨g, 0, none⟩) rs.length cap) rs.length (jv rs)) (hij : i < j) (him : j < i + m) (hj : j < rs.length) (hroom : i + m + (rs.length - j) ≤ cap) (hv : SrcI w vb vo m vs) (hvg : vb ≠ g) (hl : rs.length + m ≤ 1000000) :
 Calls Tryd.prog 28 #[.slice (some ⟨g, 0, none⟩) rs.length cap, .int .i64 i, .int .i64 j, .slice (some ⟨vb, vo, none⟩) m vc] w (RepP B (rs.take i ++ vs ++ rs.drop j) (.slice (some ⟨g, 0, none⟩) rs.length cap) w) := by
 obtain ⟨n, hn⟩ : ∃ n, n = rs.length := ⟨_, rfl⟩
 rw [← hn] at hown hj hl hroom ⊢
 obtain ⟨cur, hg, hs, hnc, hmx, hbg, ht⟩ := own_blkI hown
 have hm' : cap ≤ 9223372036854775807 := by simpa [maxLen] using hmx
 obtain ⟨tot, htot⟩ : ∃ tot, tot = i + m + (n - j) := ⟨_, rfl⟩
 have HGR : Hid (∀ V : World, V.heap = w.heap → ∃ W1 W2,
  (∀ lb cb, (callFunc 49 #[.slice (some ⟨g, i + m, none⟩) lb cb, .slice (some ⟨vb, vo, none⟩) m vc]).run Tryd.prog V = .ok (.value (.bool false)) V) ∧
  (∀ ty dc sc, (Builtin.copy_ #[26, 26] ty #[.slice (some ⟨g, i + m, none⟩) (n - j) dc, .slice (some ⟨g, j, none⟩) (n - j) sc]).run Tryd.prog V.drew = .ok (goInt ((n - j : Nat) : Int)) W1) ∧
  (∀ ty dc, (Builtin.copy_ #[26, 26] ty #[.slice (some ⟨g, i, none⟩) (tot - i) dc, .slice (some ⟨vb, vo, none⟩) m vc]).run Tryd.prog W1 = .ok (goInt (m : Int)) W2) ∧
  RepP B (rs.take i ++ vs ++ rs.drop j) (.slice (some ⟨g, 0, none⟩) n cap) V (.returned (.slice (some ⟨g, 0, none⟩) tot cap)) W2) := fun V hV =>
  upI rs vs B g cap cur vb vo vc m i j n tot V hbg (by rw [hV]; exact hg) hnc hmx hs hn ht (by omega) hj htot (by omega) (hv.kept (by rw [hV])) (by omega) hvg
 have hit : i ≤ tot := by omega
 have c2 := ct_to (some ⟨g, 0, none⟩) n cap i (by omega) (i : Int) rfl
 have c5 := ct_from g 0 n cap j (by omega) hnc (by omega) (j : Int) rfl
 have c6 := ct_to (some ⟨g, 0, none⟩) n cap tot (by omega) (tot : Int) rfl
 have c7 := ct_from g 0 tot cap i hit (by omega) (by omega) (i : Int) rfl
 have c8 := ct_from g 0 tot cap (i + m) (by omega) (by omega) (by omega) ((i : Int) + (m : Int)) (by omega)
 rw [Nat.zero_add] at c5 c7 c8
 rw [show tot - (i + m) = n - j by omega] at c8
 have hz3 : ((i : Int) == (j : Int)) = false := beq_false_of_ne (by omega)
 have hz4 : ((j : Int) == (n : Int)) = false := beq_false_of_ne (by omega)
 have h1 : (i : Int) ≤ (j : Int) := by omega
 have h2 : (j : Int) ≤ (cap : Int) := by omega
 have hw0 : IntKind.i64.wrap ((i : Int) + (m : Int)) = (i : Int) + (m : Int) := by rw [IntKind.wrap_i64]; omega
 have hw1 : (i : Int) + (m : Int) + ((n - j : Nat) : Int) = (tot : Int) := by omega
 have hwt : IntKind.i64.wrap ((i : Int) + (m : Int) + ((n - j : Nat) : Int)) = (tot : Int) := by rw [hw1, IntKind.wrap_i64]; omega
 have hbig : ¬ (cap : Int) < (tot : Int) := by omega
 have heasy : ¬ (i : Int) + (m : Int) ≤ (j : Int) := by omega
 have mixed : Tryd.prog.follows .mixedOrders = true := by kernel_rfl
 clear hn hown hg hs ht hmx hbg hv htot hw1
 go_enter Tryd.func28, Tryd.ntmps28
 go_upto_region 9 with fail
 go_quiet (fail)
 obtain ⟨W1, W2, hov, hA, hBc, hfin⟩ := HGR.out (w.drewN nq) rfl
 have HFIN : Hid (RepP B (rs.take i ++ vs ++ rs.drop j) (.slice (some ⟨g, 0, none⟩) n cap) w (.returned (.slice (some ⟨g, 0, none⟩) tot cap)) W2) := rep_drew hfin
 generalize w.drewN nq = V at hA hov ⊢
 clear hfin
 go_wp2_with (simp only [hov])
 go_region_law (refine step_copy_runI rfl _ _ 26 26 rfl _ _ (by simp [Act.eval, Act.put]) (by simp [Act.eval, Act.put]) (hA _ _ _) ?_)
 go_wp2_with (at_builtin; refine wpList_copy_runI _ rfl _ _ 26 26 rfl _ _ rfl rfl (hBc _ _) ?_)
 go_ret
 exact HFIN.out
set_option maxHeartbeats 1000000 in
set_option maxRecDepth 100000 in
theorem repI_ins (v va : Value) (i n cap : Nat) (ad : Option Addr) (w : World) (P : Ending → World → Prop) (hv : v = .slice ad n cap) (hi : i ≤ n) (hn : n ≤ cap) (hc : cap ≤ 9223372036854775807) (h : Calls Tryd.prog 48 #[v, .int .i64 i, va] w (fun e w' => ∃ u, e = .returned u ∧ P e w')) :
 Calls Tryd.prog 28 #[v, .int .i64 i, .int .i64 i, va] w P := by
 subst hv
 have HC : Hid (Calls Tryd.prog 48 #[.slice ad n cap, .int .i64 i, va] w (fun e w' => ∃ u, e = .returned u ∧ P e w')) := h
 have h1 : (i : Int) ≤ (cap : Int) := by omega
 have h2 : (0 : Int) ≤ (i : Int) := by omega
 clear h
 cases ad
 all_goals
  go_enter Tryd.func28, Tryd.ntmps28
  go_wp2_with (first | (go_at_call 48; refine HC.out.mono ?_; rintro e w2 ⟨u, rfl, hp⟩; have HP : Hid (P (.returned u) w2) := hp; clear hp))
  all_goals exact HP.out
theorem repI_any (rs vs : List Int) (B : Nat) (v : Value) (va : Option Addr) (vc m i j : Nat) (w : World) (hown : w.ownsRow B 3 1 v rs.length (jv rs)) (hB : B ≤ w.heap.size) (hij : i ≤ j) (hj : j ≤ rs.length) (hv : Rd .i64 w va m vs) (hvn : va = none → vc = 0)
 (hne : ∀ b off, va = some ⟨b, off, none⟩ → v.ownBlock ≠ some b) (hl : rs.length + m ≤ 1000000) :
 Calls Tryd.prog 28 #[v, .int .i64 i, .int .i64 j, .slice va m vc] w (RepP B (rs.take i ++ vs ++ rs.drop j) v w) := by
 rcases Nat.eq_or_lt_of_le hij with rfl | hlt
 ·obtain ⟨ad, cap, hv', h1, h2, _⟩ := rd_own2 (k := .i64) hown
  refine repI_ins v (.slice va m vc) i rs.length cap ad w _ hv' hj h1 h2 ?_
  refine (insI_any rs vs B v va vc m i w hown hB hj hv hne hl).mono fun e w' h => ?_
  obtain ⟨u, hu, h3⟩ := h
  exact ⟨u, hu, u, hu, h3⟩
 ·have hsrc : ∀ b off, va = some ⟨b, off, none⟩ → SrcI w b off m vs := fun b off e => by
   subst e
   exact ⟨hv.1, fun q u hu => rd_news hv q u hu⟩
  rcases hown.2 with ⟨rfl, h0⟩ | ⟨g, cap, cur, rfl, hbg, hg, hnc, hmx, hsz, ht⟩
  ·omega
  ·rcases Nat.eq_or_lt_of_le hj with rfl | hjl
   ·rw [List.drop_length, List.append_nil]
    by_cases him : i + m < rs.length
    ·exact repI_endA rs vs B g cap va vc m i w hown him hv hvn (by omega)
    ·obtain ⟨vb, vo, rfl, _⟩ := hv.2 (by omega)
     exact repI_endB rs vs B g cap vb vo vc m i w hown hB hlt (by omega) (hsrc vb vo rfl) (by omega)
   ·by_cases him : i + m ≤ j
    ·exact repI_down rs vs B g cap va vc m i j w hown hlt him hjl hv hvn hl
    ·obtain ⟨vb, vo, rfl, _⟩ := hv.2 (by omega)
     have hvg : vb ≠ g := fun e => hne vb vo rfl (by rw [e]; rfl)
     by_cases hroom : i + m + (rs.length - j) ≤ cap
     ·exact repI_up rs vs B g cap vb vo vc m i j w hown hlt (by omega) hjl hroom (hsrc vb vo rfl) hvg hl
     ·exact repI_grow rs vs B g cap vb vo vc m i j w hown hB hlt hjl (by omega) (hsrc vb vo rfl) (by omega) hl
end Go.Proofs.YtclogekfdmikpaaDoor

/- The walks of rightCount, rightClasses, rightNode and Right. -/
namespace Go.Proofs.YtclogekfdmikpaaDoor
open Go.RowKit
set_option linter.unusedVariables false
set_option linter.unusedSimpArgs false

theorem rc_any (op : Int) (k : Nat) (w : World) (hk : (k : Int) ≤ 2600000000000) : Calls Tryd.prog 57 #[.int .i64 op, .int .i64 (k : Int)] w fun e w' => e = .returned (.bool (rcB op k)) ∧ w' = w := by
 have e0 : decide (k = 0) = ((k : Int) == 0) := by rw [Bool.eq_iff_iff]; simp
 have e1 : decide (k = 1) = ((k : Int) == 1) := by rw [Bool.eq_iff_iff]; simp; omega
 have w1 : IntKind.i64.wrap ((k : Int) - 1) = (k : Int) - 1 := by rw [IntKind.wrap_i64]; omega
 have e2 : (((k : Int) - 1) == 0) = ((k : Int) == 1) := by rw [Bool.eq_iff_iff]; simp; omega
 by_cases h0 : op = 0
 ·subst h0
  rw [show rcB 0 k = ((k : Int) == 0) by rw [← e0]; rfl]
  clear e0 e1 e2
  go_enter Tryd.func57, Tryd.ntmps57
  go_wp2
  go_ret
  exact ⟨rfl, rfl⟩
 by_cases h1 : op = 1
 ·subst h1
  rw [show rcB 1 k = ((k : Int) == 0) by rw [← e0]; rfl]
  clear e0 e1 e2
  go_enter Tryd.func57, Tryd.ntmps57
  go_wp2
  go_ret
  exact ⟨rfl, rfl⟩
 by_cases h2 : op = 2
 ·subst h2
  clear e0 e1 e2
  go_enter Tryd.func57, Tryd.ntmps57
  go_wp2
  go_ret
  exact ⟨rfl, rfl⟩
 by_cases h3 : op = 3
 ·subst h3
  clear e0 e1 e2
  go_enter Tryd.func57, Tryd.ntmps57
  go_wp2
  go_ret
  exact ⟨rfl, rfl⟩
 obtain ⟨b, hb⟩ : ∃ b, b = ((k : Int) == 1) := ⟨_, rfl⟩
 by_cases h4 : op = 4
 ·subst h4
  rw [show rcB 4 k = ((k : Int) == 1) by rw [← e1]; rfl]
  rw [← hb] at e2 ⊢
  have hb' := hb.symm
  clear e0 e1 hb
  go_enter Tryd.func57, Tryd.ntmps57
  go_wp2
  go_ret
  exact ⟨by simp_all, rfl⟩
 by_cases h5 : op = 5
 ·subst h5
  rw [show rcB 5 k = ((k : Int) == 1) by rw [← e1]; rfl]
  rw [← hb] at e2 ⊢
  have hb' := hb.symm
  clear e0 e1 hb
  go_enter Tryd.func57, Tryd.ntmps57
  go_wp2
  go_ret
  exact ⟨by simp_all, rfl⟩
 ·rw [show rcB op k = false by unfold rcB; simp [h0, h1, h2, h3, h4, h5]]
  clear e0 e1 e2 hb
  go_enter Tryd.func57, Tryd.ntmps57
  go_wp2
  go_ret
  exact ⟨rfl, rfl⟩
def lastI (l : List Int) : Int := l.foldl (fun _ x => x) (-1)
theorem lastI_snoc (l : List Int) (c : Int) : lastI (l ++ [c]) = c := by simp [lastI]
theorem risB_snoc : (l : List Int) → (a c : Int) → risB a (l ++ [c]) = (risB a l && decide (l.foldl (fun _ x => x) a < c) && decide (c < 24))
 | [], a, c => by simp only [List.nil_append, risB, Bool.and_true, Bool.true_and, List.foldl_nil]; rfl
 | x :: r, a, c => by
   have ih := risB_snoc r x c
   simp only [List.cons_append, risB, ih, Bool.and_assoc, List.foldl_cons]
   rfl
theorem risB_cut : (l m : List Int) → (a : Int) → risB a (l ++ m) = true → risB a l = true
 | [], _, _, _ => rfl
 | x :: r, m, a, h => by
   simp only [List.cons_append, risB, Bool.and_eq_true] at h ⊢
   exact ⟨h.1, risB_cut r m x h.2⟩
set_option maxHeartbeats 2000000 in
theorem rcl_any (op : Int) (cl : List Int) (ca pa : Option Addr) (cc pn pc : Nat) (w : World) (hrd : Rd .i64 w ca cl.length cl) (hm : cl.length ≤ 140737488355328) :
 Calls Tryd.prog 58 #[.agg #[.int .i64 op, .slice ca cl.length cc, .slice pa pn pc]] w fun e w' => e = .returned (.bool (rclB op cl)) ∧ Below w.heap.size w w' := by
 obtain ⟨n, hn⟩ : ∃ n, n = cl.length := ⟨_, rfl⟩
 have hni : (n : Int) ≤ 140737488355328 := by omega
 obtain ⟨wA, hwA⟩ : ∃ wA, wA = w.alloc (.cells #[.int .i64 op, .slice ca n cc, .slice pa pn pc] 56) := ⟨_, rfl⟩
 obtain ⟨H, hH⟩ : ∃ H, H = w.heap.size := ⟨_, rfl⟩
 have HB : Hid (Below w.heap.size w wA) := by rw [hwA]; exact (Below.refl _ w).alloc (Nat.le_refl _) _
 have hbx : wA.heap[H]? = some (.cells #[.int .i64 op, .slice ca n cc, .slice pa pn pc] 56) := by rw [hwA, hH]; exact heap_alloc_new w _
 have c0 : wA.cell? ⟨H, 0, none⟩ = some (.int .i64 op) := cell_of_row wA H 0 _ _ _ hbx
 have c1 : wA.cell? ⟨H, 1, none⟩ = some (.slice ca n cc) := cell_of_row wA H 1 _ _ _ hbx
 have HRD : Hid (Rd .i64 wA ca n cl) := by rw [hn]; exact hrd.later HB.out
 have HN : Hid (n = cl.length) := hn
 rw [← hn]
 by_cases h1 : op = 1
 ·subst h1
  rw [show rclB 1 cl = risB (-1) cl from rfl]
  obtain ⟨R, hR⟩ : ∃ R, R = risB (-1) cl := ⟨_, rfl⟩
  have HR : Hid (R = risB (-1) cl) := hR
  rw [← hR]
  clear hR hrd hm hn hbx
  go_enter Tryd.func58, Tryd.ntmps58
  go_upto_region 1 with fail
  rw [← hH, ← hwA]
  clear hH hwA
  go_wp2
  go_loop [3, 16] (fun x3 x16 => ∃ k : Nat, k ≤ n ∧ x16 = .int .i64 k ∧ x3 = .int .i64 (lastI (cl.take k)) ∧ risB (-1) (cl.take k) = true) (fun _ x16 => n - (intOf x16).toNat)
  case atStart => exact ⟨0, by omega, rfl, rfl, rfl⟩
  case round =>
   obtain ⟨k, hk, hx16, hx3, hr⟩ := hrel
   subst hx16 hx3
   have HRI : Hid (risB (-1) (cl.take k) = true) := hr
   clear hr
   by_cases hlt : k < n
   ·have hkl : k < cl.length := by rw [← HN.out]; exact hlt
    obtain ⟨b, off, rfl, hcl⟩ := HRD.out.2 (by omega)
    have hcc := hcl k hlt
    obtain ⟨x, hx⟩ : ∃ x, x = cl.getD k 0 := ⟨_, rfl⟩
    have hxk : x = cl[k] := by rw [hx]; simp [hkl]
    obtain ⟨y, hy⟩ : ∃ y, y = lastI (cl.take k) := ⟨_, rfl⟩
    have hsn : risB (-1) (cl.take (k + 1)) = (risB (-1) (cl.take k) && decide (y < x) && decide (x < 24)) := by
     rw [take_snoc cl k hkl, risB_snoc, hy, hxk]; rfl
    have HY : Hid (x = lastI (cl.take (k + 1))) := by
     show _ = _
     rw [take_snoc cl k hkl, lastI_snoc, hxk]
    rw [← hx] at hcc
    rw [← hy]
    rw [HRI.out, Bool.true_and] at hsn
    clear hcl hx hxk hy
    by_cases h2 : x ≤ y
    ·have hR : R = false := by
      rw [HR.out]
      cases hh : risB (-1) cl with
      | false => rfl
      | true =>
        have := risB_cut (cl.take (k + 1)) (cl.drop (k + 1)) (-1) (by rw [List.take_append_drop]; exact hh)
        rw [hsn, decide_eq_false (by omega : ¬ y < x)] at this
        cases this
     subst hR
     clear hsn
     go_wp2
     go_ret
     exact ⟨rfl, HB.out⟩
    ·by_cases h3 : x < 24
     ·have HNX : Hid (risB (-1) (cl.take (k + 1)) = true) := by
       show _ = _
       rw [hsn]; simp; omega
      have h2' : y < x := by omega
      clear hsn h2
      go_wp2
      go_round
      case rel => exact ⟨k + 1, by omega, by go_num, by rw [← HY.out], HNX.out⟩
      case measure => simp [intOf]; omega
     ·have hR : R = false := by
       rw [HR.out]
       cases hh : risB (-1) cl with
       | false => rfl
       | true =>
         have := risB_cut (cl.take (k + 1)) (cl.drop (k + 1)) (-1) (by rw [List.take_append_drop]; exact hh)
         rw [hsn, decide_eq_false h3, Bool.and_false] at this
         cases this
      subst hR
      have h2' : y < x := by omega
      have h3' : 24 ≤ x := by omega
      clear hsn h2 h3
      go_wp2
      go_ret
      exact ⟨rfl, HB.out⟩
   ·have hR : R = true := by
     rw [HR.out, ← HRI.out, List.take_of_length_le (by rw [← HN.out]; omega)]
    subst hR
    go_wp2
    go_ret
    exact ⟨rfl, HB.out⟩
 ·have hr : rclB op cl = ((n : Int) == 0) := by unfold rclB; rw [if_neg h1, Bool.eq_iff_iff]; simp only [decide_eq_true_eq, beq_iff_eq]; omega
  rw [hr]
  clear hr hrd hm hn hbx
  go_enter Tryd.func58, Tryd.ntmps58
  go_upto_region 1 with fail
  rw [← hH, ← hwA]
  clear hH hwA
  go_wp2
  go_ret
  exact ⟨rfl, HB.out⟩
def RnPost (d : Nat) (n : Nd) (c bn : Nat) (w : World) (e : Ending) (w' : World) : Prop :=
 ∃ (b : Bool) (c' : Nat), e = .returned (.bool b) ∧ w.grownBy w' (some bn) ∧ w'.heap[bn]? = some (.cells #[nI c'] 3) ∧ c' ≤ c ∧ (b = true ↔ (okN d n = true ∧ n.cnt ≤ c)) ∧ (b = true → c' + n.cnt = c)
def RnC (d : Nat) : Prop := ∀ (D : Nat) (n : Nd) (ca pa : Option Addr) (cc pc c bn : Nat) (w0 w : World), InV w0.heap.size w0 D n [.int .i64 n.op, .slice ca n.cl.length cc, .slice pa (toL n.kids).length pc] → Below w0.heap.size w0 w → w0.heap.size ≤ bn → w.heap[bn]? = some (.cells #[nI c] 3) → c ≤ 1000 →
 Calls Tryd.prog 39 #[.agg #[.int .i64 n.op, .slice ca n.cl.length cc, .slice pa (toL n.kids).length pc], .int .i64 (d : Int), .pointer (some ⟨bn, 0, none⟩)] w (RnPost d n c bn w)
set_option maxHeartbeats 8000000 in
theorem rn_up (d : Nat) (hd : d ≤ 1000) (HP : RnC d) : RnC (d + 1) := by
 intro D n ca pa cc pc c bn w0 w hin hb0 hbn hbc hc
 have HPC : Hid (RnC d) := HP
 have HIN : Hid (InV w0.heap.size w0 D n [.int .i64 n.op, .slice ca n.cl.length cc, .slice pa (toL n.kids).length pc]) := hin
 have hbd := hin.bounds
 obtain ⟨hrd, hcl⟩ := hin.classes
 obtain ⟨op, hop⟩ : ∃ op, op = n.op := ⟨_, rfl⟩
 obtain ⟨cn, hcn⟩ : ∃ cn, cn = n.cl.length := ⟨_, rfl⟩
 obtain ⟨K, hK⟩ : ∃ K, K = (toL n.kids).length := ⟨_, rfl⟩
 have HCNT : Hid (n.cnt = 1 + cntL (toL n.kids)) := cnt_eq n
 obtain ⟨T, hT⟩ : ∃ T : Int, T = ((d + 1 : Nat) : Int) := ⟨_, rfl⟩
 have hTb : (T == 0) = false := by rw [beq_eq_false_iff_ne]; omega
 have hT0 : ¬ T = 0 := by omega
 have hTw : IntKind.i64.wrap (T - 1) = T - 1 := by rw [IntKind.wrap_i64]; omega
 have HT : Hid (T - 1 = (d : Int)) := by show _ = _; omega
 have hKi : (K : Int) ≤ 2600000000000 := by omega
 obtain ⟨wA, hwA⟩ : ∃ wA, wA = w.alloc (.cells #[.int .i64 op, .slice ca cn cc, .slice pa K pc] 56) := ⟨_, rfl⟩
 obtain ⟨H, hH⟩ : ∃ H, H = w.heap.size := ⟨_, rfl⟩
 have HB : Hid (Below w.heap.size w wA) := by rw [hwA]; exact (Below.refl _ w).alloc (Nat.le_refl _) _
 have HA0 : Hid (Below w0.heap.size w0 wA) := hb0.trans (HB.out.mono hb0.size)
 have hbx : wA.heap[H]? = some (.cells #[.int .i64 op, .slice ca cn cc, .slice pa K pc] 56) := by rw [hwA, hH]; exact heap_alloc_new w _
 have HBX : Hid (wA.heap[H]? = some (.cells #[.int .i64 op, .slice ca cn cc, .slice pa K pc] 56)) := hbx
 have hbcA : wA.heap[bn]? = some (.cells #[nI c] 3) := (HB.out.block bn (Array.getElem?_eq_some_iff.1 hbc).1).trans hbc
 have HBC : Hid (wA.heap[bn]? = some (.cells #[nI c] 3)) := hbcA
 have hbl : bn < w.heap.size := (Array.getElem?_eq_some_iff.1 hbc).1
 have HG0 : Hid (w.grownBy wA (some bn)) := ⟨HB.out.os, HB.out.tape, HB.out.output, HB.out.size, fun k hk _ => HB.out.block k hk⟩
 have HFALSE : Hid (∀ V : World, w.grownBy V (some bn) → V.heap[bn]? = some (.cells #[nI c] 3) → ¬ (okN (d + 1) n = true ∧ n.cnt ≤ c) → RnPost (d + 1) n c bn w (.returned (.bool false)) V) := fun V h1 h2 h3 => ⟨false, c, rfl, h1, h2, Nat.le_refl _, ⟨fun h => (by cases h), fun h => absurd h h3⟩, fun h => (by cases h)⟩
 have hOK : okN (d + 1) n = (rcB n.op (toL n.kids).length && rclB n.op n.cl && (toL n.kids).all (okN d)) := rfl
 have e0 : wA.cell? ⟨H, 0, none⟩ = some (.int .i64 op) := cell_of_row wA H 0 _ _ _ hbx
 have e1 : wA.cell? ⟨H, 1, none⟩ = some (.slice ca cn cc) := cell_of_row wA H 1 _ _ _ hbx
 have e2 : wA.cell? ⟨H, 2, none⟩ = some (.slice pa K pc) := cell_of_row wA H 2 _ _ _ hbx
 have eb : wA.cell? ⟨bn, 0, none⟩ = some (.int .i64 (c : Int)) := cell_of_row wA bn 0 _ _ _ hbcA
 have HRC : Hid (Calls Tryd.prog 57 #[.int .i64 op, .int .i64 (K : Int)] wA fun e w' => e = .returned (.bool (rcB op K)) ∧ w' = wA) := rc_any op K wA hKi
 have HRL : Hid (Calls Tryd.prog 58 #[.agg #[.int .i64 op, .slice ca cn cc, .slice pa K pc]] wA fun e w' => e = .returned (.bool (rclB op n.cl)) ∧ Below wA.heap.size wA w') := by
  rw [hcn]; exact rcl_any op n.cl ca pa cc K pc wA (hrd.later HA0.out) hcl
 rw [← hop, ← hcn, ← hK, ← hT]
 rw [← hop, ← hK] at hOK
 have HOK : Hid (okN (d + 1) n = (rcB op K && rclB op n.cl && (toL n.kids).all (okN d))) := hOK
 have HK : Hid (K = (toL n.kids).length) := hK
 have HCN : Hid (1 ≤ n.cnt) := by rw [HCNT.out]; show 1 ≤ _; omega
 have hci : (c : Int) ≤ 1000 := by omega
 have HBB : Hid (w0.heap.size ≤ bn ∧ bn < w.heap.size ∧ H = w.heap.size ∧ Below w0.heap.size w0 w) := ⟨hbn, hbl, hH, hb0⟩
 clear HP hin hb0 hbn hbc hbd hrd hcl hop hcn hK hT hbx hbcA hbl hOK hc
 go_enter Tryd.func39, Tryd.ntmps39
 go_upto_region 1 with fail
 rw [← hH, ← hwA]
 clear hH hwA
 by_cases hc0 : c = 0
 ·have HFN : Hid (RnPost (d + 1) n c bn w (.returned (.bool false)) wA) := HFALSE.out wA HG0.out HBC.out (fun h => by have := h.2; have := HCN.out; omega)
  have hcb : ((c : Int) == 0) = true := by rw [hc0]; rfl
  have hci0 : (c : Int) = 0 := by omega
  subst hc0
  go_wp2
  go_ret
  exact HFN.out
 have hcb : ((c : Int) == 0) = false := by rw [beq_eq_false_iff_ne]; omega
 have hci0 : ¬ (c : Int) = 0 := by omega
 go_wp2_with fail
 refine HRC.out.mono ?_
 rintro e w1 ⟨rfl, hw1⟩
 obtain rfl : wA = w1 := hw1.symm
 clear HRC
 obtain ⟨x, hx⟩ : ∃ x, x = rcB op K := ⟨_, rfl⟩
 rw [← hx]
 rw [← hx] at HOK
 cases x with
 | false =>
   have HFN : Hid (RnPost (d + 1) n c bn w (.returned (.bool false)) wA) := HFALSE.out wA HG0.out HBC.out (fun h => by rw [HOK.out] at h; cases h.1)
   clear hx
   go_wp2
   go_ret
   exact HFN.out
 | true =>
   clear hx
   go_wp2_with fail
   refine HRL.out.mono ?_
   rintro e w1 ⟨rfl, hb1⟩
   obtain ⟨y, hy⟩ : ∃ y, y = rclB op n.cl := ⟨_, rfl⟩
   rw [← hy]
   rw [← hy] at HOK
   have HB1 : Hid (Below wA.heap.size wA w1) := hb1
   have HG1 : Hid (w.grownBy w1 (some bn)) := grown_all HG0.out ⟨hb1.os, hb1.tape, hb1.output, hb1.size, fun k hk _ => hb1.block k hk⟩
   have HBC1 : Hid (w1.heap[bn]? = some (.cells #[nI c] 3)) := (hb1.block bn (Array.getElem?_eq_some_iff.1 HBC.out).1).trans HBC.out
   have HBX1 : Hid (w1.heap[H]? = some (.cells #[.int .i64 op, .slice ca cn cc, .slice pa K pc] 56)) := (hb1.block H (Array.getElem?_eq_some_iff.1 HBX.out).1).trans HBX.out
   clear hb1 HRL e0 e1 e2 eb
   cases y with
   | false =>
     have HFN : Hid (RnPost (d + 1) n c bn w (.returned (.bool false)) w1) := HFALSE.out w1 HG1.out HBC1.out (fun h => by rw [HOK.out] at h; cases h.1)
     clear hy
     go_wp2
     go_ret
     exact HFN.out
   | true =>
     clear hy
     have eb : w1.cell? ⟨bn, 0, none⟩ = some (.int .i64 (c : Int)) := cell_of_row w1 bn 0 _ _ _ HBC1.out
     have ef : w1.frozen? ⟨bn, 0, none⟩ = false := Lib.frozen_of_heap HBC1.out 0
     obtain ⟨c1, hc1⟩ : ∃ c1 : Nat, c1 + 1 = c := ⟨c - 1, by omega⟩
     have hcw : IntKind.i64.wrap ((c : Int) - 1) = (c1 : Int) := by rw [IntKind.wrap_i64]; omega
     have hcs : (c : Int) - 1 = (c1 : Int) := by omega
     obtain ⟨w2, hw2⟩ : ∃ w2, w2 = w1.setCell ⟨bn, 0, none⟩ (.int .i64 (c1 : Int)) := ⟨_, rfl⟩
     have HB2 : Hid (w2.heap[bn]? = some (.cells #[nI c1] 3)) := by rw [hw2]; exact heap_setCell_same w1 bn 0 _ _ _ HBC1.out
     have HG12 : Hid (w1.grownBy w2 (some bn)) := by rw [hw2]; exact grown_cell w1 bn 0 _
     have HG2 : Hid (w.grownBy w2 (some bn)) := grown_all HG1.out HG12.out
     have hneH : bn ≠ H := by have := HBB.out; omega
     have HBX2 : Hid (w2.heap[H]? = some (.cells #[.int .i64 op, .slice ca cn cc, .slice pa K pc] 56)) := (HG12.out.block H (Array.getElem?_eq_some_iff.1 HBX1.out).1 (fun e => hneH (Option.some.inj e).symm)).trans HBX1.out
     have HC1 : Hid (c1 + 1 = c) := hc1
     clear hc1
     go_upto_region 4 with fail
     rw [← hw2]
     clear hw2 eb ef hcw hcs
     have f2 : w2.cell? ⟨H, 2, none⟩ = some (.slice pa K pc) := cell_of_row w2 H 2 _ _ _ HBX2.out
     go_wp2
     go_loopw [39] (fun x39 wr => ∃ k ck : Nat, k ≤ K ∧ x39 = .int .i64 k ∧ w.grownBy wr (some bn) ∧ wr.heap[bn]? = some (.cells #[nI ck] 3) ∧ ck + 1 + cntL ((toL n.kids).take k) = c ∧ ((toL n.kids).take k).all (okN d) = true) (fun x39 _ => K - (intOf x39).toNat)
     case atStart => exact ⟨0, c1, by omega, rfl, HG2.out, HB2.out, by have := HC1.out; simp [cntL]; omega, rfl⟩
     case round =>
      obtain ⟨k, ck, hk, hx39, hg, hbk, hck, hall⟩ := hrel
      subst hx39
      have HG : Hid (w.grownBy wr (some bn)) := hg
      have HBK : Hid (wr.heap[bn]? = some (.cells #[nI ck] 3)) := hbk
      have HCK : Hid (ck + 1 + cntL ((toL n.kids).take k) = c) := hck
      have HALL : Hid (((toL n.kids).take k).all (okN d) = true) := hall
      clear hg hbk hck hall f2
      by_cases hlt : k < K
      ·have hkn : k < (toL n.kids).length := by rw [← HK.out]; exact hlt
       have HW0 : Hid (Below w0.heap.size w0 wr) := by
        obtain ⟨q1, q2, q3, q4⟩ := HBB.out
        exact q4.grown HG.out q4.size (fun k hk => by cases hk; exact q1)
       obtain ⟨b, off, xa, xc, ya, yc, d', hpa, hkid, _, c0', c1', c2'⟩ := HIN.out.kid k hkn
       subst hpa
       have c0 := upC HW0.out c0'
       have c1 := upC HW0.out c1'
       have c2 := upC HW0.out c2'
       have HV : Hid (∀ W1 : World, Below wr.heap.size wr W1 → Calls Tryd.prog 39 #[.agg #[.int .i64 (toL n.kids)[k].op, .slice xa (toL n.kids)[k].cl.length xc, .slice ya (toL (toL n.kids)[k].kids).length yc], .int .i64 (T - 1), .pointer (some ⟨bn, 0, none⟩)] W1 (RnPost d (toL n.kids)[k] ck bn W1)) := by
        intro W1 hW1
        rw [HT.out]
        refine HPC.out d' (toL n.kids)[k] xa ya xc yc ck bn w0 W1 hkid (HW0.out.trans (hW1.mono HW0.out.size)) HBB.out.1 ((hW1.block bn (Array.getElem?_eq_some_iff.1 HBK.out).1).trans HBK.out) ?_
        have := HCK.out
        omega
       obtain ⟨xo, hxo⟩ : ∃ xo, xo = (toL n.kids)[k].op := ⟨_, rfl⟩
       obtain ⟨xn, hxn⟩ : ∃ xn, xn = (toL n.kids)[k].cl.length := ⟨_, rfl⟩
       obtain ⟨xk, hxk⟩ : ∃ xk, xk = (toL (toL n.kids)[k].kids).length := ⟨_, rfl⟩
       rw [← hxo] at c0 HV
       rw [← hxn] at c1 HV
       rw [← hxk] at c2 HV
       obtain ⟨W1, hW1⟩ : ∃ W1, W1 = wr.alloc (.cells #[.int .i64 xo, .slice xa xn xc, .slice ya xk yc] 56) := ⟨_, rfl⟩
       have HBW : Hid (Below wr.heap.size wr W1) := by rw [hW1]; exact (Below.refl _ wr).alloc (Nat.le_refl _) _
       have HCC := HV.out W1 HBW.out
       have HC : Hid (Calls Tryd.prog 39 #[.agg #[.int .i64 xo, .slice xa xn xc, .slice ya xk yc], .int .i64 (T - 1), .pointer (some ⟨bn, 0, none⟩)] W1 (RnPost d (toL n.kids)[k] ck bn W1)) := HCC
       clear HCC HV hkid c0' c1' c2' hxo hxn hxk
       go_wp2_with fail
       rw [← hW1]
       clear hW1 c0 c1 c2
       refine HC.out.mono ?_
       rintro e w3 ⟨b3, c3, rfl, hg3, hb3, hc3, hi3, ht3⟩
       have HG3 : Hid (w.grownBy w3 (some bn)) := grown_all (grown_all HG.out ⟨HBW.out.os, HBW.out.tape, HBW.out.output, HBW.out.size, fun k hk _ => HBW.out.block k hk⟩) hg3
       have HB3 : Hid (w3.heap[bn]? = some (.cells #[nI c3] 3)) := hb3
       have HI3 : Hid ((b3 = true ↔ (okN d (toL n.kids)[k] = true ∧ (toL n.kids)[k].cnt ≤ ck)) ∧ (b3 = true → c3 + (toL n.kids)[k].cnt = ck) ∧ c3 ≤ ck) := ⟨hi3, ht3, hc3⟩
       clear hg3 hb3 hc3 hi3 ht3 HC
       cases b3 with
       | false =>
         have HFN : Hid (RnPost (d + 1) n c bn w (.returned (.bool false)) w3) := by
          refine ⟨false, c3, rfl, HG3.out, HB3.out, by have := HI3.out.2.2; have := HCK.out; omega, ⟨fun h => (by cases h), fun h => ?_⟩, fun h => (by cases h)⟩
          exfalso
          have h1 := h.1
          rw [HOK.out] at h1
          simp only [Bool.true_and, List.all_eq_true] at h1
          have h2 := h1 _ (List.getElem_mem hkn)
          have h3 := cntL_take (toL n.kids) k hkn
          have h4 := HCNT.out
          have h5 := HCK.out
          have h6 := h.2
          have h7 := HI3.out.1.2 ⟨h2, by omega⟩
          cases h7
         go_wp2
         go_ret
         exact HFN.out
       | true =>
         have HNX : Hid (c3 + 1 + cntL ((toL n.kids).take (k + 1)) = c ∧ ((toL n.kids).take (k + 1)).all (okN d) = true) := by
          have h1 := HI3.out.2.1 rfl
          have h2 := HCK.out
          refine ⟨?_, ?_⟩
          ·rw [take_snoc _ k hkn, cntL_snoc]; omega
          ·rw [take_snoc _ k hkn, List.all_append, HALL.out]
           simp [(HI3.out.1.1 rfl).1]
         go_wp2
         go_roundw
         case rel => exact ⟨k + 1, c3, by omega, by go_num, HG3.out, HB3.out, HNX.out.1, HNX.out.2⟩
         case measure => simp [intOf]; omega
      ·obtain rfl : k = K := by omega
       have HFN : Hid (RnPost (d + 1) n c bn w (.returned (.bool true)) wr) := by
        have ht : (toL n.kids).take k = toL n.kids := List.take_of_length_le (by rw [← HK.out]; exact Nat.le_refl _)
        have h1 := HCK.out
        have h2 := HALL.out
        rw [ht] at h1 h2
        have h3 := HCNT.out
        refine ⟨true, ck, rfl, HG.out, HBK.out, by omega, ⟨fun _ => ⟨by rw [HOK.out, h2]; rfl, by omega⟩, fun _ => rfl⟩, fun _ => by omega⟩
       go_wp2
       go_ret
       exact HFN.out
theorem rn_zero : RnC 0 := by
 intro D n ca pa cc pc c bn w0 w hin hb0 hbn hbc hc
 have HFN : Hid (∀ V, Below w.heap.size w V → RnPost 0 n c bn w (.returned (.bool false)) V) := fun V hV => ⟨false, c, rfl, ⟨hV.os, hV.tape, hV.output, hV.size, fun k hk _ => hV.block k hk⟩, (hV.block bn (Array.getElem?_eq_some_iff.1 hbc).1).trans hbc, Nat.le_refl _, ⟨fun h => (by cases h), fun h => (by simp [okN] at h)⟩, fun h => (by cases h)⟩
 clear hin hb0 hbn hbc hc
 go_enter Tryd.func39, Tryd.ntmps39
 go_wp2
 go_ret
 exact HFN.out _ ((Below.refl _ w).alloc (Nat.le_refl _) _)
theorem rn_any : (d : Nat) → d ≤ 1000 → RnC d
 | 0, _ => rn_zero
 | d + 1, h => rn_up d (by omega) (rn_any d (by omega))
set_option maxHeartbeats 2000000 in
theorem right_any (D : Nat) (n : Nd) (ca pa : Option Addr) (cc pc : Nat) (w : World) (hin : InV w.heap.size w D n [.int .i64 n.op, .slice ca n.cl.length cc, .slice pa (toL n.kids).length pc]) :
 Calls Tryd.prog 23 #[.agg #[.int .i64 n.op, .slice ca n.cl.length cc, .slice pa (toL n.kids).length pc]] w fun e w' => e = .returned (.bool n.ok) ∧ Below w.heap.size w w' := by
 obtain ⟨op, hop⟩ : ∃ op, op = n.op := ⟨_, rfl⟩
 obtain ⟨cn, hcn⟩ : ∃ cn, cn = n.cl.length := ⟨_, rfl⟩
 obtain ⟨K, hK⟩ : ∃ K, K = (toL n.kids).length := ⟨_, rfl⟩
 obtain ⟨W0, hW0⟩ : ∃ W0, W0 = (w.alloc (.cells #[.int .i64 op, .slice ca cn cc, .slice pa K pc] 56)).alloc (.cells #[.int .i64 400] 3) := ⟨_, rfl⟩
 obtain ⟨H, hH⟩ : ∃ H, H = w.heap.size := ⟨_, rfl⟩
 have HB0 : Hid (Below w.heap.size w W0) := by rw [hW0]; exact ((Below.refl _ w).alloc (Nat.le_refl _) _).alloc (by simp) _
 have hax : W0.heap[H]? = some (.cells #[.int .i64 op, .slice ca cn cc, .slice pa K pc] 56) := by
  rw [hW0, hH]
  exact (((Below.refl _ (w.alloc _)).alloc (Nat.le_refl _) _).block w.heap.size (by simp)).trans (heap_alloc_new w _)
 have hbx : W0.heap[H + 1]? = some (.cells #[nI 400] 3) := by
  have := heap_alloc_new (w.alloc (.cells #[.int .i64 op, .slice ca cn cc, .slice pa K pc] 56)) (.cells #[.int .i64 400] 3)
  rw [show (w.alloc (.cells #[.int .i64 op, .slice ca cn cc, .slice pa K pc] 56)).heap.size = w.heap.size + 1 by simp] at this
  rw [hW0, hH]
  exact this
 have HC : Hid (Calls Tryd.prog 39 #[.agg #[.int .i64 op, .slice ca cn cc, .slice pa K pc], .int .i64 32, .pointer (some ⟨H + 1, 0, none⟩)] W0 (RnPost 32 n 400 (H + 1) W0)) := by
  rw [hop, hcn, hK]
  exact rn_any 32 (by omega) D n ca pa cc pc 400 (H + 1) w W0 hin HB0.out (by omega) hbx (by omega)
 have e0 : W0.cell? ⟨H, 0, none⟩ = some (.int .i64 op) := cell_of_row W0 H 0 _ _ _ hax
 have e1 : W0.cell? ⟨H, 1, none⟩ = some (.slice ca cn cc) := cell_of_row W0 H 1 _ _ _ hax
 have e2 : W0.cell? ⟨H, 2, none⟩ = some (.slice pa K pc) := cell_of_row W0 H 2 _ _ _ hax
 have HFIN : Hid (∀ (b : Bool) (w' : World), W0.grownBy w' (some (H + 1)) → Below w.heap.size w w') := fun b w' hg => HB0.out.grown hg HB0.out.size (fun k hk => by cases hk; omega)
 rw [← hop, ← hcn, ← hK]
 clear hin hop hcn hK hax hbx
 go_enter Tryd.func23, Tryd.ntmps23
 go_upto_region 2 with fail
 rw [← hH, ← hW0]
 clear hH hW0
 go_wp2_with fail
 refine HC.out.mono ?_
 rintro e w1 ⟨b, c', rfl, hg, _, _, hi, _⟩
 have HE : Hid (b = n.ok ∧ Below w.heap.size w w1) := ⟨by rw [Bool.eq_iff_iff, hi]; unfold Nd.ok; simp, HFIN.out b w1 hg⟩
 clear hg hi e0 e1 e2 HC
 go_wp2
 go_ret
 exact ⟨by rw [HE.out.1]; rfl, HE.out.2⟩
end Go.Proofs.YtclogekfdmikpaaDoor
