/- The walk of the library's Replace of numbers in a row of the caller's own: whole. -/
import Derived.Test.YtclogekfdmikpaaDoorJ02
namespace Go.Proofs.YtclogekfdmikpaaDoor
open Go.RowKit
set_option linter.unusedVariables false

set_option maxHeartbeats 4000000 in
set_option maxRecDepth 100000 in
theorem repI_endB (rs vs : List Int) (B g cap : Nat) (vb vo vc m i : Nat) (w : World) (hown : w.ownsRow B 3 1 (.slice (some ⟨g, 0, none⟩) rs.length cap) rs.length (jv rs)) (hB : B ≤ w.heap.size) (hi : i < rs.length) (him : rs.length ≤ i + m) (hv : SrcI w vb vo m vs) (hl : i + m ≤ 1000000) :
 Calls Tryd.prog 28 #[.slice (some ⟨g, 0, none⟩) rs.length cap, .int .i64 i, .int .i64 rs.length, .slice (some ⟨vb, vo, none⟩) m vc] w (RepP B (rs.take i ++ vs) (.slice (some ⟨g, 0, none⟩) rs.length cap) w) := by
 obtain ⟨i0, ii, hz0, hz1, hz2⟩ := info_parts info_I
 have HI : Hid (Tryd.prog.info? 3 = some i0 ∧ i0.zero = some (.int .i64 0) ∧ i0.size = 1 ∧ i0.bytes = 8) := ⟨ii, hz0, hz1, hz2⟩
 obtain ⟨n, hn⟩ : ∃ n, n = rs.length := ⟨_, rfl⟩
 rw [← hn] at hown hi him ⊢
 obtain ⟨cur, hg, hs, hnc, hmx, hbg, ht⟩ := own_blkI hown
 have hm' : cap ≤ 9223372036854775807 := by simpa [maxLen] using hmx
 have HPR : Hid (w.ownsRow B 3 1 (.slice (some ⟨g, 0, none⟩) i cap) i (jv (rs.take i))) := own_pre (i := i) hown (by omega)
 have HVL : Hid ((jv vs).length = m * 1) := by show (jv vs).length = m * 1; simp [hv.1]
 have HN : Hid (∀ j u, (jv vs)[j]? = some u → w.cell? ((⟨vb, vo, none⟩ : Addr).add j) = some u) := hv.2
 have HFIN : Hid (∀ g' cap' w', w'.ownsRow B 3 1 (.slice (some ⟨g', 0, none⟩) (i + m) cap') (i + m) (jv (rs.take i) ++ jv vs) → w.grownBy w' (some g) → (some g = some g' ∨ g' = w.heap.size) → RepP B (rs.take i ++ vs) (.slice (some ⟨g, 0, none⟩) n cap) w (.returned (.slice (some ⟨g', 0, none⟩) (i + m) cap')) w') := by
  intro g' cap' w' h1 h2 h3
  have hlen : (rs.take i ++ vs).length = i + m := by have := hv.1; simp; omega
  exact ⟨_, rfl, by rw [hlen]; simpa [jv] using h1, h2, atB_or w _ _ _ _ h3⟩
 have c2 := ct_to (some ⟨g, 0, none⟩) n cap i (by omega) (i : Int) rfl
 have hz3 : ((i : Int) == (n : Int)) = false := beq_false_of_ne (by omega)
 have h1 : (i : Int) ≤ (n : Int) := by omega
 have h2 : (n : Int) ≤ (cap : Int) := by omega
 have h4 : ¬ (i : Int) + (m : Int) < (n : Int) := by omega
 have hm0 : 0 < m := by omega
 obtain ⟨H, hH⟩ : ∃ H, H = w.heap.size := ⟨_, rfl⟩
 clear hn hown ii hz0 hz1 hz2 hv hg hs ht hmx hbg
 go_enter Tryd.func28, Tryd.ntmps28
 go_wp2_with (at_builtin; refine wpList_append_lies _ rfl _ _ 26 rfl B 3 i0 _ 1 8 Tryd.underlying26 HI.out.1 HI.out.2.1 HI.out.2.2.1 HI.out.2.2.2 rfl (by decide) (.slice (some ⟨g, 0, none⟩) i cap) i (jv (rs.take i)) rfl HPR.out ⟨vb, vo, none⟩ m vc (jv vs) rfl HVL.out HN.out (jv_one vs) hm0 (by unfold maxLen; omega) (by omega) hB H hH.symm (fun g4 cap4 w4 q1 q2 q3 q4 => ?_); have HF : Hid (RepP B (rs.take i ++ vs) (.slice (some ⟨g, 0, none⟩) n cap) w (.returned (.slice (some ⟨g4, 0, none⟩) (i + m) cap4)) w4) := HFIN.out g4 cap4 w4 q1 q2 (by rw [← hH]; exact q3); clear q1 q2 q3 q4)
 go_ret
 exact HF.out
set_option maxHeartbeats 4000000 in
set_option maxRecDepth 100000 in
theorem repI_grow (rs vs : List Int) (B g cap : Nat) (vb vo vc m i j : Nat) (w : World) (hown : w.ownsRow B 3 1 (.slice (some ⟨g, 0, none⟩) rs.length cap) rs.length (jv rs)) (hB : B ≤ w.heap.size) (hij : i < j) (hj : j < rs.length) (hroom : cap < i + m + (rs.length - j)) (hv : SrcI w vb vo m vs) (hm : 0 < m) (hl : rs.length + m ≤ 1000000) :
 Calls Tryd.prog 28 #[.slice (some ⟨g, 0, none⟩) rs.length cap, .int .i64 i, .int .i64 j, .slice (some ⟨vb, vo, none⟩) m vc] w (RepP B (rs.take i ++ vs ++ rs.drop j) (.slice (some ⟨g, 0, none⟩) rs.length cap) w) := by
 obtain ⟨n, hn⟩ : ∃ n, n = rs.length := ⟨_, rfl⟩
 rw [← hn] at hown hj hroom hl ⊢
 obtain ⟨cur, hg, hs, hnc, hmx, hbg, ht⟩ := own_blkI hown
 have hm' : cap ≤ 9223372036854775807 := by simpa [maxLen] using hmx
 obtain ⟨tot, htot⟩ : ∃ tot, tot = i + m + (n - j) := ⟨_, rfl⟩
 have HGR : Hid (∀ V : World, V.heap = w.heap → ∃ G W1 W2 W3, tot ≤ G ∧ G ≤ 9223372036854775807 ∧
  (∀ ty x, x = ((tot - i : Nat) : Int) → (Builtin.append_ #[26, 3] ty #[.slice (some ⟨g, 0, none⟩) i cap, .int .i64 x]).run Tryd.prog V = .ok (.slice (some ⟨V.heap.size, 0, none⟩) tot G) W1) ∧
  (∀ ty dc, (Builtin.copy_ #[26, 26] ty #[.slice (some ⟨V.heap.size, i, none⟩) (tot - i) dc, .slice (some ⟨vb, vo, none⟩) m vc]).run Tryd.prog W1 = .ok (goInt (m : Int)) W2) ∧
  (∀ ty dc sc, (Builtin.copy_ #[26, 26] ty #[.slice (some ⟨V.heap.size, i + m, none⟩) (n - j) dc, .slice (some ⟨g, j, none⟩) (n - j) sc]).run Tryd.prog W2.drew = .ok (goInt ((n - j : Nat) : Int)) W3) ∧
  RepP B (rs.take i ++ vs ++ rs.drop j) (.slice (some ⟨g, 0, none⟩) n cap) V (.returned (.slice (some ⟨V.heap.size, 0, none⟩) tot G)) W3) := fun V hV =>
  growI rs vs B g cap cur vb vo vc m i j n tot V (by rw [hV]; exact hB) (by rw [hV]; exact hg) hnc hs hn ht (by omega) hj htot (by omega) (by omega) (hv.kept (by rw [hV])) hm
 have c2 := ct_to (some ⟨g, 0, none⟩) n cap i (by omega) (i : Int) rfl
 have c5 := ct_from g 0 n cap j (by omega) hnc (by omega) (j : Int) rfl
 rw [Nat.zero_add] at c5
 have hz3 : ((i : Int) == (j : Int)) = false := beq_false_of_ne (by omega)
 have hz4 : ((j : Int) == (n : Int)) = false := beq_false_of_ne (by omega)
 have h1 : (i : Int) ≤ (j : Int) := by omega
 have h2 : (j : Int) ≤ (cap : Int) := by omega
 have hw0 : IntKind.i64.wrap ((i : Int) + (m : Int)) = (i : Int) + (m : Int) := by rw [IntKind.wrap_i64]; omega
 have hnj : ((n - j : Nat) : Int) = (n : Int) - (j : Int) := by omega
 have hw1 : (i : Int) + (m : Int) + ((n - j : Nat) : Int) = (tot : Int) := by omega
 have hwt : IntKind.i64.wrap ((i : Int) + (m : Int) + ((n - j : Nat) : Int)) = (tot : Int) := by rw [hw1, IntKind.wrap_i64]; omega
 have hbig : (cap : Int) < (tot : Int) := by omega
 have hsub : IntKind.i64.wrap ((tot : Int) - (i : Int)) = (tot : Int) - (i : Int) := by rw [IntKind.wrap_i64]; omega
 have HTI : Hid ((tot : Int) - (i : Int) = ((tot - i : Nat) : Int)) := by show (tot : Int) - (i : Int) = ((tot - i : Nat) : Int); omega
 have HT : Hid (tot = i + m + (n - j)) := htot
 have mixed : Tryd.prog.follows .mixedOrders = true := by kernel_rfl
 clear hn hown hg hs ht hmx hbg hv htot hw1 hnj hB
 go_enter Tryd.func28, Tryd.ntmps28
 go_upto_region 9 with fail
 go_quiet (fail)
 obtain ⟨G, W1, W2, W3, g1, g2, hA, hBc, hC, hfin⟩ := HGR.out (w.drewN nq) rfl
 have HFIN : Hid (RepP B (rs.take i ++ vs ++ rs.drop j) (.slice (some ⟨g, 0, none⟩) n cap) w (.returned (.slice (some ⟨(w.drewN nq).heap.size, 0, none⟩) tot G)) W3) := rep_drew hfin
 have hA' := fun ty => hA ty ((tot : Int) - (i : Int)) HTI.out
 generalize w.drewN nq = V at hA' hBc hC HFIN ⊢
 generalize V.heap.size = N at hA' hBc hC HFIN
 have hit : i ≤ tot := by have := HT.out; omega
 have c3 := ct_from N 0 tot G i hit g1 (by have := HT.out; omega) (i : Int) rfl
 have c4 := ct_from N 0 tot G (i + m) (by have := HT.out; omega) g1 (by have := HT.out; omega) ((i : Int) + (m : Int)) (by omega)
 rw [Nat.zero_add] at c3 c4
 rw [show tot - (i + m) = n - j by have := HT.out; omega] at c4
 clear hA hfin
 go_wp2_with (first
  | (at_builtin; refine Lib.wpList_append_run _ rfl _ _ _ _ rfl _ _ rfl rfl _ _ (hA' _) ?_)
  | (at_builtin; refine wpList_copy_runI _ rfl _ _ 26 26 rfl _ _ rfl rfl (hBc _ _) ?_))
 go_region_law (refine step_copy_runI rfl _ _ 26 26 rfl _ _ (by simp [Act.eval, Act.put]) (by simp [Act.eval, Act.put]) (hC _ _ _) ?_)
 go_wp2
 go_ret
 exact HFIN.out
end Go.Proofs.YtclogekfdmikpaaDoor
