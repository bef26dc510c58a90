/- In one text: DfaRd, DfaRe, DfaRf. -/
import Derived.Test.YtpmmmgjiekikeaaDoorJ18
/- The walk of Equal. -/
namespace Go.Proofs.YtpmmmgjiekikeaaDoor
open Go.RowKit Go.Shelf Go.Maps
set_option linter.unusedVariables false
set_option linter.unusedSimpArgs false

set_option maxRecDepth 100000 in
set_option maxHeartbeats 8000000 in
theorem equal_any (w : World) (p q K1 K2 : Nat) (nx1 nx2 : List (List Nat)) (ou1 ou2 : List Nat) (h1 : MchAt w p K1 nx1 ou1) (h2 : MchAt w q K2 nx2 ou2) :
    Calls Tryd.prog 24 #[.pointer (some ⟨p, 0, none⟩), .pointer (some ⟨q, 0, none⟩)] w fun e w' => e = .returned (.bool (decide (K1 = K2 ∧ ou1 = ou2 ∧ nx1 = nx2))) ∧ Below w.heap.size w w' := by
  obtain ⟨na, nc, oa, oc, m1, r1, o1, ln1, lo1, lk1, lr1⟩ := h1
  obtain ⟨nb, nd, ob, od, m2, r2, o2, ln2, lo2, lk2, lr2⟩ := h2
  obtain ⟨n1, hn1⟩ : ∃ n1, n1 = nx1.length := ⟨_, rfl⟩
  obtain ⟨n2, hn2⟩ : ∃ n2, n2 = nx2.length := ⟨_, rfl⟩
  obtain ⟨l1, hl1⟩ : ∃ l1, l1 = ou1.length := ⟨_, rfl⟩
  obtain ⟨l2, hl2⟩ : ∃ l2, l2 = ou2.length := ⟨_, rfl⟩
  have c0' : w.cell? ⟨p, 0, none⟩ = some (.int .i64 (K1 : Int)) := cell_of_row w p 0 _ _ _ m1
  have c1' : w.cell? ⟨p, 1, none⟩ = some (.slice na n1 nc) := by rw [hn1]; exact cell_of_row w p 1 _ _ _ m1
  have c2' : w.cell? ⟨p, 2, none⟩ = some (.slice oa l1 oc) := by rw [hl1]; exact cell_of_row w p 2 _ _ _ m1
  have d0' : w.cell? ⟨q, 0, none⟩ = some (.int .i64 (K2 : Int)) := cell_of_row w q 0 _ _ _ m2
  have d1' : w.cell? ⟨q, 1, none⟩ = some (.slice nb n2 nd) := by rw [hn2]; exact cell_of_row w q 1 _ _ _ m2
  have d2' : w.cell? ⟨q, 2, none⟩ = some (.slice ob l2 od) := by rw [hl2]; exact cell_of_row w q 2 _ _ _ m2
  have HE1 : Hid (∀ V : World, Below w.heap.size w V → Calls Tryd.prog 38 #[.slice oa l1 oc, .slice ob l2 od] V fun e w' => e = .returned (.bool (decide (ou1 = ou2))) ∧ Below V.heap.size V w') := fun V hV => by
    have h1 := eq_u64 (intsN ou1) (intsN ou2) oa ob oc od V (by rw [show (intsN ou1).length = ou1.length by simp [intsN]]; exact o1.later hV) (by rw [show (intsN ou2).length = ou2.length by simp [intsN]]; exact o2.later hV) (by simp [intsN]; exact lo1) (by simp [intsN]; exact lo2)
    rw [show (intsN ou1).length = ou1.length by simp [intsN], show (intsN ou2).length = ou2.length by simp [intsN], ← hl1, ← hl2] at h1
    have h2 : decide (intsN ou1 = intsN ou2) = decide (ou1 = ou2) := by
      by_cases he : ou1 = ou2
      · rw [he]; simp
      · rw [decide_eq_false he, decide_eq_false (fun e => he (intsN_inj e))]
    rw [h2] at h1
    exact h1
  have HE2 : Hid (∀ V : World, Below w.heap.size w V → Calls Tryd.prog 39 #[.slice na n1 nc, .slice nb n2 nd, .func (.func 40) #[] #[]] V fun e w' => e = .returned (.bool (decide (nx1 = nx2))) ∧ Below V.heap.size V w') := fun V hV => by
    have h1 := eqf_any nx1 nx2 na nb nc nd V (r1.later hV) (r2.later hV) ln1 ln2 lr1 lr2
    rw [← hn1, ← hn2] at h1
    exact h1
  have HBD : Hid (Below w.heap.size w w.drew) := (Below.refl _ w).drew
  clear m1 r1 o1 ln1 lo1 lk1 lr1 m2 r2 o2 ln2 lo2 lk2 lr2 hn1 hn2 hl1 hl2
  by_cases hK : (K1 : Int) = (K2 : Int)
  · obtain rfl : K1 = K2 := by omega
    clear hK
    by_cases ho : ou1 = ou2
    · rw [decide_eq_true ho] at HE1
      obtain ⟨Z, hZ⟩ : ∃ Z, Z = decide (nx1 = nx2) := ⟨_, rfl⟩
      have HZ : Hid (decide (K1 = K1 ∧ ou1 = ou2 ∧ nx1 = nx2) = Z) := by show _ = _; rw [hZ]; simp [ho]
      rw [← hZ] at HE2
      rw [HZ.out]
      clear hZ ho
      go_enter Tryd.func24, Tryd.ntmps24
      go_wp2_with fail
      refine wp_region_noPanic ?_
      refine wp_region_held_drew (S := (fun w' => Below w.heap.size w w')) (by kernel_rfl) HBD.out (fun hHeld => ?_)
      refine wpAnyH_take (i := 0) (v := ?_) rfl (by kernel_rfl) (by kernel_rfl) (by kernel_rfl) (fun _ _ _ h => h) (Or.inl ⟨by rfl, ?_⟩) (by assumption) ?_
      rotate_left
      · intro wS hSw; have c0 := upC hSw c0'; have c1 := upC hSw c1'; have c2 := upC hSw c2'; have d0 := upC hSw d0'; have d1 := upC hSw d1'; have d2 := upC hSw d2'; clear hSw; go_simp; try with_reducible rfl
      try simp only [Act.put, List.getElem_toArray, List.getElem_cons_succ, List.getElem_cons_zero, List.setIfInBounds_toArray, List.set_cons_zero, List.set_cons_succ]
      refine wpAnyH_take (i := 1) (v := ?_) rfl (by kernel_rfl) (by kernel_rfl) (by kernel_rfl) (fun _ _ _ h => h) (Or.inl ⟨by rfl, ?_⟩) (by assumption) ?_
      rotate_left
      · intro wS hSw; have c0 := upC hSw c0'; have c1 := upC hSw c1'; have c2 := upC hSw c2'; have d0 := upC hSw d0'; have d1 := upC hSw d1'; have d2 := upC hSw d2'; clear hSw; go_simp; try with_reducible rfl
      try simp only [Act.put, List.getElem_toArray, List.getElem_cons_succ, List.getElem_cons_zero, List.setIfInBounds_toArray, List.set_cons_zero, List.set_cons_succ]
      refine wpAnyH_take (i := 2) (v := ?_) rfl (by kernel_rfl) (by kernel_rfl) (by kernel_rfl) (fun _ _ _ h => h) (Or.inl ⟨by rfl, ?_⟩) (by assumption) ?_
      rotate_left
      · intro wS hSw; have c0 := upC hSw c0'; have c1 := upC hSw c1'; have c2 := upC hSw c2'; have d0 := upC hSw d0'; have d1 := upC hSw d1'; have d2 := upC hSw d2'; clear hSw; go_simp; try with_reducible rfl
      try simp only [Act.put, List.getElem_toArray, List.getElem_cons_succ, List.getElem_cons_zero, List.setIfInBounds_toArray, List.set_cons_zero, List.set_cons_succ]
      refine wpAnyH_take (i := 3) (v := ?_) rfl (by kernel_rfl) (by kernel_rfl) (by kernel_rfl) (fun _ _ _ h => h) (Or.inl ⟨by rfl, ?_⟩) (by assumption) ?_
      rotate_left
      · intro wS hSw; have c0 := upC hSw c0'; have c1 := upC hSw c1'; have c2 := upC hSw c2'; have d0 := upC hSw d0'; have d1 := upC hSw d1'; have d2 := upC hSw d2'; clear hSw; go_simp; try with_reducible rfl
      try simp only [Act.put, List.getElem_toArray, List.getElem_cons_succ, List.getElem_cons_zero, List.setIfInBounds_toArray, List.set_cons_zero, List.set_cons_succ]
      refine wpAnyH_take (i := 4) (v := ?_) rfl (by kernel_rfl) (by kernel_rfl) (by kernel_rfl) (fun _ _ _ h => h) (Or.inl ⟨by rfl, ?_⟩) (by assumption) ?_
      rotate_left
      · intro wS hSw; have c0 := upC hSw c0'; have c1 := upC hSw c1'; have c2 := upC hSw c2'; have d0 := upC hSw d0'; have d1 := upC hSw d1'; have d2 := upC hSw d2'; clear hSw; go_simp; try with_reducible rfl
      try simp only [Act.put, List.getElem_toArray, List.getElem_cons_succ, List.getElem_cons_zero, List.setIfInBounds_toArray, List.set_cons_zero, List.set_cons_succ]
      refine wpAnyH_take (i := 5) (v := ?_) rfl (by kernel_rfl) (by kernel_rfl) (by kernel_rfl) (fun _ _ _ h => h) (Or.inl ⟨by rfl, ?_⟩) (by assumption) ?_
      rotate_left
      · intro wS hSw; have c0 := upC hSw c0'; have c1 := upC hSw c1'; have c2 := upC hSw c2'; have d0 := upC hSw d0'; have d1 := upC hSw d1'; have d2 := upC hSw d2'; clear hSw; go_simp; try with_reducible rfl
      try simp only [Act.put, List.getElem_toArray, List.getElem_cons_succ, List.getElem_cons_zero, List.setIfInBounds_toArray, List.set_cons_zero, List.set_cons_succ]
      refine wpAnyH_take (i := 6) (v := ?_) rfl (by kernel_rfl) (by kernel_rfl) (by kernel_rfl) (fun _ _ _ h => h) (Or.inl ⟨by rfl, ?_⟩) (by assumption) ?_
      rotate_left
      · intro wS hSw; have c0 := upC hSw c0'; have c1 := upC hSw c1'; have c2 := upC hSw c2'; have d0 := upC hSw d0'; have d1 := upC hSw d1'; have d2 := upC hSw d2'; clear hSw; go_simp; try with_reducible rfl
      try simp only [Act.put, List.getElem_toArray, List.getElem_cons_succ, List.getElem_cons_zero, List.setIfInBounds_toArray, List.set_cons_zero, List.set_cons_succ]
      refine wpAnyH_take (i := 7) (v := ?_) rfl (by kernel_rfl) (by kernel_rfl) (by kernel_rfl) (fun _ _ _ h => h) (Or.inl ⟨by rfl, ?_⟩) (by assumption) ?_
      rotate_left
      · intro wS hSw; have c0 := upC hSw c0'; have c1 := upC hSw c1'; have c2 := upC hSw c2'; have d0 := upC hSw d0'; have d1 := upC hSw d1'; have d2 := upC hSw d2'; clear hSw; go_simp; try with_reducible rfl
      try simp only [Act.put, List.getElem_toArray, List.getElem_cons_succ, List.getElem_cons_zero, List.setIfInBounds_toArray, List.set_cons_zero, List.set_cons_succ]
      refine wpAnyH_take (i := 8) (v := ?_) rfl (by kernel_rfl) (by kernel_rfl) (by kernel_rfl) (fun _ _ _ h => h) (Or.inl ⟨by rfl, ?_⟩) (by assumption) ?_
      rotate_left
      · intro wS hSw; have c0 := upC hSw c0'; have c1 := upC hSw c1'; have c2 := upC hSw c2'; have d0 := upC hSw d0'; have d1 := upC hSw d1'; have d2 := upC hSw d2'; clear hSw; go_simp; try with_reducible rfl
      try simp only [Act.put, List.getElem_toArray, List.getElem_cons_succ, List.getElem_cons_zero, List.setIfInBounds_toArray, List.set_cons_zero, List.set_cons_succ]
      refine wpAnyH_take (i := 9) (v := ?_) rfl (by kernel_rfl) (by kernel_rfl) (by kernel_rfl) (fun _ _ _ h => h) (Or.inl ⟨by rfl, ?_⟩) (by assumption) ?_
      rotate_left
      · intro wS hSw; have c0 := upC hSw c0'; have c1 := upC hSw c1'; have c2 := upC hSw c2'; have d0 := upC hSw d0'; have d1 := upC hSw d1'; have d2 := upC hSw d2'; clear hSw; go_simp; try with_reducible rfl
      try simp only [Act.put, List.getElem_toArray, List.getElem_cons_succ, List.getElem_cons_zero, List.setIfInBounds_toArray, List.set_cons_zero, List.set_cons_succ]
      refine wpAnyH_take (i := 10) (v := ?_) rfl (by kernel_rfl) (by kernel_rfl) (by kernel_rfl) (fun _ _ _ h => h) (Or.inl ⟨by rfl, ?_⟩) (by assumption) ?_
      rotate_left
      · intro wS hSw; have c0 := upC hSw c0'; have c1 := upC hSw c1'; have c2 := upC hSw c2'; have d0 := upC hSw d0'; have d1 := upC hSw d1'; have d2 := upC hSw d2'; clear hSw; go_simp; try with_reducible rfl
      try simp only [Act.put, List.getElem_toArray, List.getElem_cons_succ, List.getElem_cons_zero, List.setIfInBounds_toArray, List.set_cons_zero, List.set_cons_succ]
      refine wpAnyH_take (i := 11) (v := ?_) rfl (by kernel_rfl) (by kernel_rfl) (by kernel_rfl) (fun _ _ _ h => h) (Or.inl ⟨by rfl, ?_⟩) (by assumption) ?_
      rotate_left
      · intro wS hSw; have c0 := upC hSw c0'; have c1 := upC hSw c1'; have c2 := upC hSw c2'; have d0 := upC hSw d0'; have d1 := upC hSw d1'; have d2 := upC hSw d2'; clear hSw; go_simp; try with_reducible rfl
      try simp only [Act.put, List.getElem_toArray, List.getElem_cons_succ, List.getElem_cons_zero, List.setIfInBounds_toArray, List.set_cons_zero, List.set_cons_succ]
      refine wpAnyH_take (i := 12) (v := ?_) rfl (by kernel_rfl) (by kernel_rfl) (by kernel_rfl) (fun _ _ _ h => h) (Or.inl ⟨by rfl, ?_⟩) (by assumption) ?_
      rotate_left
      · intro wS hSw; have c0 := upC hSw c0'; have c1 := upC hSw c1'; have c2 := upC hSw c2'; have d0 := upC hSw d0'; have d1 := upC hSw d1'; have d2 := upC hSw d2'; clear hSw; go_simp; try with_reducible rfl
      try simp only [Act.put, List.getElem_toArray, List.getElem_cons_succ, List.getElem_cons_zero, List.setIfInBounds_toArray, List.set_cons_zero, List.set_cons_succ]
      refine wpAnyH_take (i := 13) (v := ?_) rfl (by kernel_rfl) (by kernel_rfl) (by kernel_rfl) (fun _ _ _ h => h) (Or.inl ⟨by rfl, ?_⟩) (by assumption) ?_
      rotate_left
      · intro wS hSw; have c0 := upC hSw c0'; have c1 := upC hSw c1'; have c2 := upC hSw c2'; have d0 := upC hSw d0'; have d1 := upC hSw d1'; have d2 := upC hSw d2'; clear hSw; go_simp; try with_reducible rfl
      try simp only [Act.put, List.getElem_toArray, List.getElem_cons_succ, List.getElem_cons_zero, List.setIfInBounds_toArray, List.set_cons_zero, List.set_cons_succ]
      refine wpAnyH_take (i := 14) (v := ?_) rfl (by kernel_rfl) (by kernel_rfl) (by kernel_rfl) (fun _ _ _ h => h) (Or.inl ⟨by rfl, ?_⟩) (by assumption) ?_
      rotate_left
      · intro wS hSw; have c0 := upC hSw c0'; have c1 := upC hSw c1'; have c2 := upC hSw c2'; have d0 := upC hSw d0'; have d1 := upC hSw d1'; have d2 := upC hSw d2'; clear hSw; go_simp; try with_reducible rfl
      try simp only [Act.put, List.getElem_toArray, List.getElem_cons_succ, List.getElem_cons_zero, List.setIfInBounds_toArray, List.set_cons_zero, List.set_cons_succ]
      refine wpAnyH_take (i := 15) (v := ?_) rfl (by kernel_rfl) (by kernel_rfl) (by kernel_rfl) (fun _ _ _ h => h) (Or.inl ⟨by rfl, ?_⟩) (by assumption) ?_
      rotate_left
      · intro wS hSw; have c0 := upC hSw c0'; have c1 := upC hSw c1'; have c2 := upC hSw c2'; have d0 := upC hSw d0'; have d1 := upC hSw d1'; have d2 := upC hSw d2'; clear hSw; go_simp; try with_reducible rfl
      try simp only [Act.put, List.getElem_toArray, List.getElem_cons_succ, List.getElem_cons_zero, List.setIfInBounds_toArray, List.set_cons_zero, List.set_cons_succ]
      refine wpAnyH_take (i := 16) (v := ?_) rfl (by kernel_rfl) (by kernel_rfl) (by kernel_rfl) (fun _ _ _ h => h) (Or.inl ⟨by rfl, ?_⟩) (by assumption) ?_
      rotate_left
      · intro wS hSw; have c0 := upC hSw c0'; have c1 := upC hSw c1'; have c2 := upC hSw c2'; have d0 := upC hSw d0'; have d1 := upC hSw d1'; have d2 := upC hSw d2'; clear hSw; go_simp; try with_reducible rfl
      try simp only [Act.put, List.getElem_toArray, List.getElem_cons_succ, List.getElem_cons_zero, List.setIfInBounds_toArray, List.set_cons_zero, List.set_cons_succ]
      refine wpAnyH_take (i := 17) (v := ?_) rfl (by kernel_rfl) (by kernel_rfl) (by kernel_rfl) (fun _ _ _ h => h) (Or.inl ⟨by rfl, ?_⟩) (by assumption) ?_
      rotate_left
      · intro wS hSw; have c0 := upC hSw c0'; have c1 := upC hSw c1'; have c2 := upC hSw c2'; have d0 := upC hSw d0'; have d1 := upC hSw d1'; have d2 := upC hSw d2'; clear hSw; go_simp; try with_reducible rfl
      try simp only [Act.put, List.getElem_toArray, List.getElem_cons_succ, List.getElem_cons_zero, List.setIfInBounds_toArray, List.set_cons_zero, List.set_cons_succ]
      refine wpAnyH_ready (rs := [18]) (by kernel_rfl) (by simp) ?_
      refine AllReadyH.cons rfl (fun KK hK => ?_) AllReadyH.nil
      go_simp
      refine (HE1.out _ HBD.out).mono ?_
      rintro e w1 ⟨rfl, hbx⟩
      have HB1 : Hid (Below w.heap.size w w1) := HBD.out.trans (hbx.mono HBD.out.size)
      clear hbx
      go_simp
      refine hK.out _ _ HB1.out (fun hHeld => ?_)
      clear hK KK
      try simp only [Act.put, List.getElem_toArray, List.getElem_cons_succ, List.getElem_cons_zero, List.setIfInBounds_toArray, List.set_cons_zero, List.set_cons_succ]
      refine wpAnyH_take (i := 19) (v := ?_) rfl (by kernel_rfl) (by kernel_rfl) (by kernel_rfl) (fun _ _ _ h => h) (Or.inl ⟨by rfl, ?_⟩) (by assumption) ?_
      rotate_left
      · intro wS hSw; have c0 := upC hSw c0'; have c1 := upC hSw c1'; have c2 := upC hSw c2'; have d0 := upC hSw d0'; have d1 := upC hSw d1'; have d2 := upC hSw d2'; clear hSw; go_simp; try with_reducible rfl
      try simp only [Act.put, List.getElem_toArray, List.getElem_cons_succ, List.getElem_cons_zero, List.setIfInBounds_toArray, List.set_cons_zero, List.set_cons_succ]
      refine wpAnyH_take (i := 20) (v := ?_) rfl (by kernel_rfl) (by kernel_rfl) (by kernel_rfl) (fun _ _ _ h => h) (Or.inl ⟨by rfl, ?_⟩) (by assumption) ?_
      rotate_left
      · intro wS hSw; have c0 := upC hSw c0'; have c1 := upC hSw c1'; have c2 := upC hSw c2'; have d0 := upC hSw d0'; have d1 := upC hSw d1'; have d2 := upC hSw d2'; clear hSw; go_simp; try with_reducible rfl
      try simp only [Act.put, List.getElem_toArray, List.getElem_cons_succ, List.getElem_cons_zero, List.setIfInBounds_toArray, List.set_cons_zero, List.set_cons_succ]
      refine wpAnyH_take (i := 21) (v := ?_) rfl (by kernel_rfl) (by kernel_rfl) (by kernel_rfl) (fun _ _ _ h => h) (Or.inl ⟨by rfl, ?_⟩) (by assumption) ?_
      rotate_left
      · intro wS hSw; have c0 := upC hSw c0'; have c1 := upC hSw c1'; have c2 := upC hSw c2'; have d0 := upC hSw d0'; have d1 := upC hSw d1'; have d2 := upC hSw d2'; clear hSw; go_simp; try with_reducible rfl
      try simp only [Act.put, List.getElem_toArray, List.getElem_cons_succ, List.getElem_cons_zero, List.setIfInBounds_toArray, List.set_cons_zero, List.set_cons_succ]
      refine wpAnyH_take (i := 22) (v := ?_) rfl (by kernel_rfl) (by kernel_rfl) (by kernel_rfl) (fun _ _ _ h => h) (Or.inl ⟨by rfl, ?_⟩) (by assumption) ?_
      rotate_left
      · intro wS hSw; have c0 := upC hSw c0'; have c1 := upC hSw c1'; have c2 := upC hSw c2'; have d0 := upC hSw d0'; have d1 := upC hSw d1'; have d2 := upC hSw d2'; clear hSw; go_simp; try with_reducible rfl
      try simp only [Act.put, List.getElem_toArray, List.getElem_cons_succ, List.getElem_cons_zero, List.setIfInBounds_toArray, List.set_cons_zero, List.set_cons_succ]
      refine wpAnyH_take (i := 23) (v := ?_) rfl (by kernel_rfl) (by kernel_rfl) (by kernel_rfl) (fun _ _ _ h => h) (Or.inl ⟨by rfl, ?_⟩) (by assumption) ?_
      rotate_left
      · intro wS hSw; have c0 := upC hSw c0'; have c1 := upC hSw c1'; have c2 := upC hSw c2'; have d0 := upC hSw d0'; have d1 := upC hSw d1'; have d2 := upC hSw d2'; clear hSw; go_simp; try with_reducible rfl
      try simp only [Act.put, List.getElem_toArray, List.getElem_cons_succ, List.getElem_cons_zero, List.setIfInBounds_toArray, List.set_cons_zero, List.set_cons_succ]
      refine wpAnyH_take (i := 24) (v := ?_) rfl (by kernel_rfl) (by kernel_rfl) (by kernel_rfl) (fun _ _ _ h => h) (Or.inl ⟨by rfl, ?_⟩) (by assumption) ?_
      rotate_left
      · intro wS hSw; have c0 := upC hSw c0'; have c1 := upC hSw c1'; have c2 := upC hSw c2'; have d0 := upC hSw d0'; have d1 := upC hSw d1'; have d2 := upC hSw d2'; clear hSw; go_simp; try with_reducible rfl
      try simp only [Act.put, List.getElem_toArray, List.getElem_cons_succ, List.getElem_cons_zero, List.setIfInBounds_toArray, List.set_cons_zero, List.set_cons_succ]
      refine wpAnyH_take (i := 25) (v := ?_) rfl (by kernel_rfl) (by kernel_rfl) (by kernel_rfl) (fun _ _ _ h => h) (Or.inl ⟨by rfl, ?_⟩) (by assumption) ?_
      rotate_left
      · intro wS hSw; have c0 := upC hSw c0'; have c1 := upC hSw c1'; have c2 := upC hSw c2'; have d0 := upC hSw d0'; have d1 := upC hSw d1'; have d2 := upC hSw d2'; clear hSw; go_simp; try with_reducible rfl
      try simp only [Act.put, List.getElem_toArray, List.getElem_cons_succ, List.getElem_cons_zero, List.setIfInBounds_toArray, List.set_cons_zero, List.set_cons_succ]
      refine wpAnyH_take (i := 26) (v := ?_) rfl (by kernel_rfl) (by kernel_rfl) (by kernel_rfl) (fun _ _ _ h => h) (Or.inl ⟨by rfl, ?_⟩) (by assumption) ?_
      rotate_left
      · intro wS hSw; have c0 := upC hSw c0'; have c1 := upC hSw c1'; have c2 := upC hSw c2'; have d0 := upC hSw d0'; have d1 := upC hSw d1'; have d2 := upC hSw d2'; clear hSw; go_simp; try with_reducible rfl
      try simp only [Act.put, List.getElem_toArray, List.getElem_cons_succ, List.getElem_cons_zero, List.setIfInBounds_toArray, List.set_cons_zero, List.set_cons_succ]
      refine wpAnyH_take (i := 27) (v := ?_) rfl (by kernel_rfl) (by kernel_rfl) (by kernel_rfl) (fun _ _ _ h => h) (Or.inl ⟨by rfl, ?_⟩) (by assumption) ?_
      rotate_left
      · intro wS hSw; have c0 := upC hSw c0'; have c1 := upC hSw c1'; have c2 := upC hSw c2'; have d0 := upC hSw d0'; have d1 := upC hSw d1'; have d2 := upC hSw d2'; clear hSw; go_simp; try with_reducible rfl
      try simp only [Act.put, List.getElem_toArray, List.getElem_cons_succ, List.getElem_cons_zero, List.setIfInBounds_toArray, List.set_cons_zero, List.set_cons_succ]
      refine wpAnyH_take (i := 28) (v := ?_) rfl (by kernel_rfl) (by kernel_rfl) (by kernel_rfl) (fun _ _ _ h => h) (Or.inl ⟨by rfl, ?_⟩) (by assumption) ?_
      rotate_left
      · intro wS hSw; have c0 := upC hSw c0'; have c1 := upC hSw c1'; have c2 := upC hSw c2'; have d0 := upC hSw d0'; have d1 := upC hSw d1'; have d2 := upC hSw d2'; clear hSw; go_simp; try with_reducible rfl
      try simp only [Act.put, List.getElem_toArray, List.getElem_cons_succ, List.getElem_cons_zero, List.setIfInBounds_toArray, List.set_cons_zero, List.set_cons_succ]
      refine wpAnyH_ready (rs := [29]) (by kernel_rfl) (by simp) ?_
      refine AllReadyH.cons rfl (fun KK hK => ?_) AllReadyH.nil
      go_simp
      refine (HE2.out _ HB1.out).mono ?_
      rintro e w2 ⟨rfl, hbx⟩
      have HB2 : Hid (Below w.heap.size w w2) := HB1.out.trans (hbx.mono HB1.out.size)
      clear hbx
      go_simp
      refine hK.out _ _ HB2.out (fun hHeld => ?_)
      clear hK KK
      try simp only [Act.put, List.getElem_toArray, List.getElem_cons_succ, List.getElem_cons_zero, List.setIfInBounds_toArray, List.set_cons_zero, List.set_cons_succ]
      cases Z
      all_goals
        refine wpAnyH_take (i := 30) (v := ?_) rfl (by kernel_rfl) (by kernel_rfl) (by kernel_rfl) (fun _ _ _ h => h) (Or.inl ⟨by rfl, ?_⟩) (by assumption) ?_
        rotate_left
        · intro wS hSw; have c0 := upC hSw c0'; have c1 := upC hSw c1'; have c2 := upC hSw c2'; have d0 := upC hSw d0'; have d1 := upC hSw d1'; have d2 := upC hSw d2'; clear hSw; go_simp; try with_reducible rfl
        try simp only [Act.put, List.getElem_toArray, List.getElem_cons_succ, List.getElem_cons_zero, List.setIfInBounds_toArray, List.set_cons_zero, List.set_cons_succ]
        refine wpAnyH_ready (rs := [31]) (by kernel_rfl) (by simp) ?_
        refine AllReadyH.cons rfl (fun KK hK => ?_) AllReadyH.nil
        go_simp
        refine hK.out _ _ HB2.out (fun hHeld => ?_)
        clear hK KK
        try simp only [Act.put, List.getElem_toArray, List.getElem_cons_succ, List.getElem_cons_zero, List.setIfInBounds_toArray, List.set_cons_zero, List.set_cons_succ]
        refine wpAnyH_done (by kernel_rfl) ?_ _
        refine NoPanic.normal ?_
        go_wp2_with fail
        go_ret
        exact ⟨rfl, HB2.out⟩
    · have HZ : Hid (decide (K1 = K1 ∧ ou1 = ou2 ∧ nx1 = nx2) = false) := by show _ = _; simp [ho]
      rw [decide_eq_false ho] at HE1
      rw [HZ.out]
      clear ho
      go_enter Tryd.func24, Tryd.ntmps24
      go_wp2_with fail
      refine wp_region_noPanic ?_
      refine wp_region_held_drew (S := (fun w' => Below w.heap.size w w')) (by kernel_rfl) HBD.out (fun hHeld => ?_)
      refine wpAnyH_take (i := 0) (v := ?_) rfl (by kernel_rfl) (by kernel_rfl) (by kernel_rfl) (fun _ _ _ h => h) (Or.inl ⟨by rfl, ?_⟩) (by assumption) ?_
      rotate_left
      · intro wS hSw; have c0 := upC hSw c0'; have c1 := upC hSw c1'; have c2 := upC hSw c2'; have d0 := upC hSw d0'; have d1 := upC hSw d1'; have d2 := upC hSw d2'; clear hSw; go_simp; try with_reducible rfl
      try simp only [Act.put, List.getElem_toArray, List.getElem_cons_succ, List.getElem_cons_zero, List.setIfInBounds_toArray, List.set_cons_zero, List.set_cons_succ]
      refine wpAnyH_take (i := 1) (v := ?_) rfl (by kernel_rfl) (by kernel_rfl) (by kernel_rfl) (fun _ _ _ h => h) (Or.inl ⟨by rfl, ?_⟩) (by assumption) ?_
      rotate_left
      · intro wS hSw; have c0 := upC hSw c0'; have c1 := upC hSw c1'; have c2 := upC hSw c2'; have d0 := upC hSw d0'; have d1 := upC hSw d1'; have d2 := upC hSw d2'; clear hSw; go_simp; try with_reducible rfl
      try simp only [Act.put, List.getElem_toArray, List.getElem_cons_succ, List.getElem_cons_zero, List.setIfInBounds_toArray, List.set_cons_zero, List.set_cons_succ]
      refine wpAnyH_take (i := 2) (v := ?_) rfl (by kernel_rfl) (by kernel_rfl) (by kernel_rfl) (fun _ _ _ h => h) (Or.inl ⟨by rfl, ?_⟩) (by assumption) ?_
      rotate_left
      · intro wS hSw; have c0 := upC hSw c0'; have c1 := upC hSw c1'; have c2 := upC hSw c2'; have d0 := upC hSw d0'; have d1 := upC hSw d1'; have d2 := upC hSw d2'; clear hSw; go_simp; try with_reducible rfl
      try simp only [Act.put, List.getElem_toArray, List.getElem_cons_succ, List.getElem_cons_zero, List.setIfInBounds_toArray, List.set_cons_zero, List.set_cons_succ]
      refine wpAnyH_take (i := 3) (v := ?_) rfl (by kernel_rfl) (by kernel_rfl) (by kernel_rfl) (fun _ _ _ h => h) (Or.inl ⟨by rfl, ?_⟩) (by assumption) ?_
      rotate_left
      · intro wS hSw; have c0 := upC hSw c0'; have c1 := upC hSw c1'; have c2 := upC hSw c2'; have d0 := upC hSw d0'; have d1 := upC hSw d1'; have d2 := upC hSw d2'; clear hSw; go_simp; try with_reducible rfl
      try simp only [Act.put, List.getElem_toArray, List.getElem_cons_succ, List.getElem_cons_zero, List.setIfInBounds_toArray, List.set_cons_zero, List.set_cons_succ]
      refine wpAnyH_take (i := 4) (v := ?_) rfl (by kernel_rfl) (by kernel_rfl) (by kernel_rfl) (fun _ _ _ h => h) (Or.inl ⟨by rfl, ?_⟩) (by assumption) ?_
      rotate_left
      · intro wS hSw; have c0 := upC hSw c0'; have c1 := upC hSw c1'; have c2 := upC hSw c2'; have d0 := upC hSw d0'; have d1 := upC hSw d1'; have d2 := upC hSw d2'; clear hSw; go_simp; try with_reducible rfl
      try simp only [Act.put, List.getElem_toArray, List.getElem_cons_succ, List.getElem_cons_zero, List.setIfInBounds_toArray, List.set_cons_zero, List.set_cons_succ]
      refine wpAnyH_take (i := 5) (v := ?_) rfl (by kernel_rfl) (by kernel_rfl) (by kernel_rfl) (fun _ _ _ h => h) (Or.inl ⟨by rfl, ?_⟩) (by assumption) ?_
      rotate_left
      · intro wS hSw; have c0 := upC hSw c0'; have c1 := upC hSw c1'; have c2 := upC hSw c2'; have d0 := upC hSw d0'; have d1 := upC hSw d1'; have d2 := upC hSw d2'; clear hSw; go_simp; try with_reducible rfl
      try simp only [Act.put, List.getElem_toArray, List.getElem_cons_succ, List.getElem_cons_zero, List.setIfInBounds_toArray, List.set_cons_zero, List.set_cons_succ]
      refine wpAnyH_take (i := 6) (v := ?_) rfl (by kernel_rfl) (by kernel_rfl) (by kernel_rfl) (fun _ _ _ h => h) (Or.inl ⟨by rfl, ?_⟩) (by assumption) ?_
      rotate_left
      · intro wS hSw; have c0 := upC hSw c0'; have c1 := upC hSw c1'; have c2 := upC hSw c2'; have d0 := upC hSw d0'; have d1 := upC hSw d1'; have d2 := upC hSw d2'; clear hSw; go_simp; try with_reducible rfl
      try simp only [Act.put, List.getElem_toArray, List.getElem_cons_succ, List.getElem_cons_zero, List.setIfInBounds_toArray, List.set_cons_zero, List.set_cons_succ]
      refine wpAnyH_take (i := 7) (v := ?_) rfl (by kernel_rfl) (by kernel_rfl) (by kernel_rfl) (fun _ _ _ h => h) (Or.inl ⟨by rfl, ?_⟩) (by assumption) ?_
      rotate_left
      · intro wS hSw; have c0 := upC hSw c0'; have c1 := upC hSw c1'; have c2 := upC hSw c2'; have d0 := upC hSw d0'; have d1 := upC hSw d1'; have d2 := upC hSw d2'; clear hSw; go_simp; try with_reducible rfl
      try simp only [Act.put, List.getElem_toArray, List.getElem_cons_succ, List.getElem_cons_zero, List.setIfInBounds_toArray, List.set_cons_zero, List.set_cons_succ]
      refine wpAnyH_take (i := 8) (v := ?_) rfl (by kernel_rfl) (by kernel_rfl) (by kernel_rfl) (fun _ _ _ h => h) (Or.inl ⟨by rfl, ?_⟩) (by assumption) ?_
      rotate_left
      · intro wS hSw; have c0 := upC hSw c0'; have c1 := upC hSw c1'; have c2 := upC hSw c2'; have d0 := upC hSw d0'; have d1 := upC hSw d1'; have d2 := upC hSw d2'; clear hSw; go_simp; try with_reducible rfl
      try simp only [Act.put, List.getElem_toArray, List.getElem_cons_succ, List.getElem_cons_zero, List.setIfInBounds_toArray, List.set_cons_zero, List.set_cons_succ]
      refine wpAnyH_take (i := 9) (v := ?_) rfl (by kernel_rfl) (by kernel_rfl) (by kernel_rfl) (fun _ _ _ h => h) (Or.inl ⟨by rfl, ?_⟩) (by assumption) ?_
      rotate_left
      · intro wS hSw; have c0 := upC hSw c0'; have c1 := upC hSw c1'; have c2 := upC hSw c2'; have d0 := upC hSw d0'; have d1 := upC hSw d1'; have d2 := upC hSw d2'; clear hSw; go_simp; try with_reducible rfl
      try simp only [Act.put, List.getElem_toArray, List.getElem_cons_succ, List.getElem_cons_zero, List.setIfInBounds_toArray, List.set_cons_zero, List.set_cons_succ]
      refine wpAnyH_take (i := 10) (v := ?_) rfl (by kernel_rfl) (by kernel_rfl) (by kernel_rfl) (fun _ _ _ h => h) (Or.inl ⟨by rfl, ?_⟩) (by assumption) ?_
      rotate_left
      · intro wS hSw; have c0 := upC hSw c0'; have c1 := upC hSw c1'; have c2 := upC hSw c2'; have d0 := upC hSw d0'; have d1 := upC hSw d1'; have d2 := upC hSw d2'; clear hSw; go_simp; try with_reducible rfl
      try simp only [Act.put, List.getElem_toArray, List.getElem_cons_succ, List.getElem_cons_zero, List.setIfInBounds_toArray, List.set_cons_zero, List.set_cons_succ]
      refine wpAnyH_take (i := 11) (v := ?_) rfl (by kernel_rfl) (by kernel_rfl) (by kernel_rfl) (fun _ _ _ h => h) (Or.inl ⟨by rfl, ?_⟩) (by assumption) ?_
      rotate_left
      · intro wS hSw; have c0 := upC hSw c0'; have c1 := upC hSw c1'; have c2 := upC hSw c2'; have d0 := upC hSw d0'; have d1 := upC hSw d1'; have d2 := upC hSw d2'; clear hSw; go_simp; try with_reducible rfl
      try simp only [Act.put, List.getElem_toArray, List.getElem_cons_succ, List.getElem_cons_zero, List.setIfInBounds_toArray, List.set_cons_zero, List.set_cons_succ]
      refine wpAnyH_take (i := 12) (v := ?_) rfl (by kernel_rfl) (by kernel_rfl) (by kernel_rfl) (fun _ _ _ h => h) (Or.inl ⟨by rfl, ?_⟩) (by assumption) ?_
      rotate_left
      · intro wS hSw; have c0 := upC hSw c0'; have c1 := upC hSw c1'; have c2 := upC hSw c2'; have d0 := upC hSw d0'; have d1 := upC hSw d1'; have d2 := upC hSw d2'; clear hSw; go_simp; try with_reducible rfl
      try simp only [Act.put, List.getElem_toArray, List.getElem_cons_succ, List.getElem_cons_zero, List.setIfInBounds_toArray, List.set_cons_zero, List.set_cons_succ]
      refine wpAnyH_take (i := 13) (v := ?_) rfl (by kernel_rfl) (by kernel_rfl) (by kernel_rfl) (fun _ _ _ h => h) (Or.inl ⟨by rfl, ?_⟩) (by assumption) ?_
      rotate_left
      · intro wS hSw; have c0 := upC hSw c0'; have c1 := upC hSw c1'; have c2 := upC hSw c2'; have d0 := upC hSw d0'; have d1 := upC hSw d1'; have d2 := upC hSw d2'; clear hSw; go_simp; try with_reducible rfl
      try simp only [Act.put, List.getElem_toArray, List.getElem_cons_succ, List.getElem_cons_zero, List.setIfInBounds_toArray, List.set_cons_zero, List.set_cons_succ]
      refine wpAnyH_take (i := 14) (v := ?_) rfl (by kernel_rfl) (by kernel_rfl) (by kernel_rfl) (fun _ _ _ h => h) (Or.inl ⟨by rfl, ?_⟩) (by assumption) ?_
      rotate_left
      · intro wS hSw; have c0 := upC hSw c0'; have c1 := upC hSw c1'; have c2 := upC hSw c2'; have d0 := upC hSw d0'; have d1 := upC hSw d1'; have d2 := upC hSw d2'; clear hSw; go_simp; try with_reducible rfl
      try simp only [Act.put, List.getElem_toArray, List.getElem_cons_succ, List.getElem_cons_zero, List.setIfInBounds_toArray, List.set_cons_zero, List.set_cons_succ]
      refine wpAnyH_take (i := 15) (v := ?_) rfl (by kernel_rfl) (by kernel_rfl) (by kernel_rfl) (fun _ _ _ h => h) (Or.inl ⟨by rfl, ?_⟩) (by assumption) ?_
      rotate_left
      · intro wS hSw; have c0 := upC hSw c0'; have c1 := upC hSw c1'; have c2 := upC hSw c2'; have d0 := upC hSw d0'; have d1 := upC hSw d1'; have d2 := upC hSw d2'; clear hSw; go_simp; try with_reducible rfl
      try simp only [Act.put, List.getElem_toArray, List.getElem_cons_succ, List.getElem_cons_zero, List.setIfInBounds_toArray, List.set_cons_zero, List.set_cons_succ]
      refine wpAnyH_take (i := 16) (v := ?_) rfl (by kernel_rfl) (by kernel_rfl) (by kernel_rfl) (fun _ _ _ h => h) (Or.inl ⟨by rfl, ?_⟩) (by assumption) ?_
      rotate_left
      · intro wS hSw; have c0 := upC hSw c0'; have c1 := upC hSw c1'; have c2 := upC hSw c2'; have d0 := upC hSw d0'; have d1 := upC hSw d1'; have d2 := upC hSw d2'; clear hSw; go_simp; try with_reducible rfl
      try simp only [Act.put, List.getElem_toArray, List.getElem_cons_succ, List.getElem_cons_zero, List.setIfInBounds_toArray, List.set_cons_zero, List.set_cons_succ]
      refine wpAnyH_take (i := 17) (v := ?_) rfl (by kernel_rfl) (by kernel_rfl) (by kernel_rfl) (fun _ _ _ h => h) (Or.inl ⟨by rfl, ?_⟩) (by assumption) ?_
      rotate_left
      · intro wS hSw; have c0 := upC hSw c0'; have c1 := upC hSw c1'; have c2 := upC hSw c2'; have d0 := upC hSw d0'; have d1 := upC hSw d1'; have d2 := upC hSw d2'; clear hSw; go_simp; try with_reducible rfl
      try simp only [Act.put, List.getElem_toArray, List.getElem_cons_succ, List.getElem_cons_zero, List.setIfInBounds_toArray, List.set_cons_zero, List.set_cons_succ]
      refine wpAnyH_ready (rs := [18]) (by kernel_rfl) (by simp) ?_
      refine AllReadyH.cons rfl (fun KK hK => ?_) AllReadyH.nil
      go_simp
      refine (HE1.out _ HBD.out).mono ?_
      rintro e w1 ⟨rfl, hbx⟩
      have HB1 : Hid (Below w.heap.size w w1) := HBD.out.trans (hbx.mono HBD.out.size)
      clear hbx
      go_simp
      refine hK.out _ _ HB1.out (fun hHeld => ?_)
      clear hK KK
      try simp only [Act.put, List.getElem_toArray, List.getElem_cons_succ, List.getElem_cons_zero, List.setIfInBounds_toArray, List.set_cons_zero, List.set_cons_succ]
      refine wpAnyH_take (i := 19) (v := ?_) rfl (by kernel_rfl) (by kernel_rfl) (by kernel_rfl) (fun _ _ _ h => h) (Or.inl ⟨by rfl, ?_⟩) (by assumption) ?_
      rotate_left
      · intro wS hSw; have c0 := upC hSw c0'; have c1 := upC hSw c1'; have c2 := upC hSw c2'; have d0 := upC hSw d0'; have d1 := upC hSw d1'; have d2 := upC hSw d2'; clear hSw; go_simp; try with_reducible rfl
      try simp only [Act.put, List.getElem_toArray, List.getElem_cons_succ, List.getElem_cons_zero, List.setIfInBounds_toArray, List.set_cons_zero, List.set_cons_succ]
      refine wpAnyH_take (i := 20) (v := ?_) rfl (by kernel_rfl) (by kernel_rfl) (by kernel_rfl) (fun _ _ _ h => h) (Or.inl ⟨by rfl, ?_⟩) (by assumption) ?_
      rotate_left
      · intro wS hSw; have c0 := upC hSw c0'; have c1 := upC hSw c1'; have c2 := upC hSw c2'; have d0 := upC hSw d0'; have d1 := upC hSw d1'; have d2 := upC hSw d2'; clear hSw; go_simp; try with_reducible rfl
      try simp only [Act.put, List.getElem_toArray, List.getElem_cons_succ, List.getElem_cons_zero, List.setIfInBounds_toArray, List.set_cons_zero, List.set_cons_succ]
      refine wpAnyH_take (i := 21) (v := undef) rfl (by kernel_rfl) (by kernel_rfl) (by kernel_rfl) (fun _ _ _ h => h) (Or.inr ⟨by rfl, rfl⟩) (by assumption) ?_
      try simp only [Act.put, List.getElem_toArray, List.getElem_cons_succ, List.getElem_cons_zero, List.setIfInBounds_toArray, List.set_cons_zero, List.set_cons_succ]
      refine wpAnyH_take (i := 22) (v := undef) rfl (by kernel_rfl) (by kernel_rfl) (by kernel_rfl) (fun _ _ _ h => h) (Or.inr ⟨by rfl, rfl⟩) (by assumption) ?_
      try simp only [Act.put, List.getElem_toArray, List.getElem_cons_succ, List.getElem_cons_zero, List.setIfInBounds_toArray, List.set_cons_zero, List.set_cons_succ]
      refine wpAnyH_take (i := 23) (v := undef) rfl (by kernel_rfl) (by kernel_rfl) (by kernel_rfl) (fun _ _ _ h => h) (Or.inr ⟨by rfl, rfl⟩) (by assumption) ?_
      try simp only [Act.put, List.getElem_toArray, List.getElem_cons_succ, List.getElem_cons_zero, List.setIfInBounds_toArray, List.set_cons_zero, List.set_cons_succ]
      refine wpAnyH_take (i := 24) (v := undef) rfl (by kernel_rfl) (by kernel_rfl) (by kernel_rfl) (fun _ _ _ h => h) (Or.inr ⟨by rfl, rfl⟩) (by assumption) ?_
      try simp only [Act.put, List.getElem_toArray, List.getElem_cons_succ, List.getElem_cons_zero, List.setIfInBounds_toArray, List.set_cons_zero, List.set_cons_succ]
      refine wpAnyH_take (i := 25) (v := undef) rfl (by kernel_rfl) (by kernel_rfl) (by kernel_rfl) (fun _ _ _ h => h) (Or.inr ⟨by rfl, rfl⟩) (by assumption) ?_
      try simp only [Act.put, List.getElem_toArray, List.getElem_cons_succ, List.getElem_cons_zero, List.setIfInBounds_toArray, List.set_cons_zero, List.set_cons_succ]
      refine wpAnyH_take (i := 26) (v := undef) rfl (by kernel_rfl) (by kernel_rfl) (by kernel_rfl) (fun _ _ _ h => h) (Or.inr ⟨by rfl, rfl⟩) (by assumption) ?_
      try simp only [Act.put, List.getElem_toArray, List.getElem_cons_succ, List.getElem_cons_zero, List.setIfInBounds_toArray, List.set_cons_zero, List.set_cons_succ]
      refine wpAnyH_take (i := 27) (v := undef) rfl (by kernel_rfl) (by kernel_rfl) (by kernel_rfl) (fun _ _ _ h => h) (Or.inr ⟨by rfl, rfl⟩) (by assumption) ?_
      try simp only [Act.put, List.getElem_toArray, List.getElem_cons_succ, List.getElem_cons_zero, List.setIfInBounds_toArray, List.set_cons_zero, List.set_cons_succ]
      refine wpAnyH_take (i := 28) (v := undef) rfl (by kernel_rfl) (by kernel_rfl) (by kernel_rfl) (fun _ _ _ h => h) (Or.inr ⟨by rfl, rfl⟩) (by assumption) ?_
      try simp only [Act.put, List.getElem_toArray, List.getElem_cons_succ, List.getElem_cons_zero, List.setIfInBounds_toArray, List.set_cons_zero, List.set_cons_succ]
      refine wpAnyH_take (i := 29) (v := undef) rfl (by kernel_rfl) (by kernel_rfl) (by kernel_rfl) (fun _ _ _ h => h) (Or.inr ⟨by rfl, rfl⟩) (by assumption) ?_
      try simp only [Act.put, List.getElem_toArray, List.getElem_cons_succ, List.getElem_cons_zero, List.setIfInBounds_toArray, List.set_cons_zero, List.set_cons_succ]
      refine wpAnyH_take (i := 30) (v := ?_) rfl (by kernel_rfl) (by kernel_rfl) (by kernel_rfl) (fun _ _ _ h => h) (Or.inl ⟨by rfl, ?_⟩) (by assumption) ?_
      rotate_left
      · intro wS hSw; have c0 := upC hSw c0'; have c1 := upC hSw c1'; have c2 := upC hSw c2'; have d0 := upC hSw d0'; have d1 := upC hSw d1'; have d2 := upC hSw d2'; clear hSw; go_simp; try with_reducible rfl
      try simp only [Act.put, List.getElem_toArray, List.getElem_cons_succ, List.getElem_cons_zero, List.setIfInBounds_toArray, List.set_cons_zero, List.set_cons_succ]
      refine wpAnyH_ready (rs := [31]) (by kernel_rfl) (by simp) ?_
      refine AllReadyH.cons rfl (fun KK hK => ?_) AllReadyH.nil
      go_simp
      refine hK.out _ _ HB1.out (fun hHeld => ?_)
      clear hK KK
      try simp only [Act.put, List.getElem_toArray, List.getElem_cons_succ, List.getElem_cons_zero, List.setIfInBounds_toArray, List.set_cons_zero, List.set_cons_succ]
      refine wpAnyH_done (by kernel_rfl) ?_ _
      refine NoPanic.normal ?_
      go_wp2_with fail
      go_ret
      exact ⟨rfl, HB1.out⟩
  · have HZ : Hid (decide (K1 = K2 ∧ ou1 = ou2 ∧ nx1 = nx2) = false) := by show _ = _; rw [decide_eq_false]; rintro ⟨rfl, _⟩; exact hK rfl
    rw [HZ.out]
    go_enter Tryd.func24, Tryd.ntmps24
    go_wp2_with fail
    refine wp_region_noPanic ?_
    refine wp_region_held_drew (S := (fun w' => Below w.heap.size w w')) (by kernel_rfl) HBD.out (fun hHeld => ?_)
    have hKb : ((K1 : Int) == (K2 : Int)) = false := by simpa using hK
    refine wpAnyH_take (i := 0) (v := ?_) rfl (by kernel_rfl) (by kernel_rfl) (by kernel_rfl) (fun _ _ _ h => h) (Or.inl ⟨by rfl, ?_⟩) (by assumption) ?_
    rotate_left
    · intro wS hSw; have c0 := upC hSw c0'; have c1 := upC hSw c1'; have c2 := upC hSw c2'; have d0 := upC hSw d0'; have d1 := upC hSw d1'; have d2 := upC hSw d2'; clear hSw; go_simp; try with_reducible rfl
    try simp only [Act.put, List.getElem_toArray, List.getElem_cons_succ, List.getElem_cons_zero, List.setIfInBounds_toArray, List.set_cons_zero, List.set_cons_succ]
    refine wpAnyH_take (i := 1) (v := ?_) rfl (by kernel_rfl) (by kernel_rfl) (by kernel_rfl) (fun _ _ _ h => h) (Or.inl ⟨by rfl, ?_⟩) (by assumption) ?_
    rotate_left
    · intro wS hSw; have c0 := upC hSw c0'; have c1 := upC hSw c1'; have c2 := upC hSw c2'; have d0 := upC hSw d0'; have d1 := upC hSw d1'; have d2 := upC hSw d2'; clear hSw; go_simp; try with_reducible rfl
    try simp only [Act.put, List.getElem_toArray, List.getElem_cons_succ, List.getElem_cons_zero, List.setIfInBounds_toArray, List.set_cons_zero, List.set_cons_succ]
    refine wpAnyH_take (i := 2) (v := ?_) rfl (by kernel_rfl) (by kernel_rfl) (by kernel_rfl) (fun _ _ _ h => h) (Or.inl ⟨by rfl, ?_⟩) (by assumption) ?_
    rotate_left
    · intro wS hSw; have c0 := upC hSw c0'; have c1 := upC hSw c1'; have c2 := upC hSw c2'; have d0 := upC hSw d0'; have d1 := upC hSw d1'; have d2 := upC hSw d2'; clear hSw; go_simp; try with_reducible rfl
    try simp only [Act.put, List.getElem_toArray, List.getElem_cons_succ, List.getElem_cons_zero, List.setIfInBounds_toArray, List.set_cons_zero, List.set_cons_succ]
    refine wpAnyH_take (i := 3) (v := ?_) rfl (by kernel_rfl) (by kernel_rfl) (by kernel_rfl) (fun _ _ _ h => h) (Or.inl ⟨by rfl, ?_⟩) (by assumption) ?_
    rotate_left
    · intro wS hSw; have c0 := upC hSw c0'; have c1 := upC hSw c1'; have c2 := upC hSw c2'; have d0 := upC hSw d0'; have d1 := upC hSw d1'; have d2 := upC hSw d2'; clear hSw; go_simp; try with_reducible rfl
    try simp only [Act.put, List.getElem_toArray, List.getElem_cons_succ, List.getElem_cons_zero, List.setIfInBounds_toArray, List.set_cons_zero, List.set_cons_succ]
    refine wpAnyH_take (i := 4) (v := ?_) rfl (by kernel_rfl) (by kernel_rfl) (by kernel_rfl) (fun _ _ _ h => h) (Or.inl ⟨by rfl, ?_⟩) (by assumption) ?_
    rotate_left
    · intro wS hSw; have c0 := upC hSw c0'; have c1 := upC hSw c1'; have c2 := upC hSw c2'; have d0 := upC hSw d0'; have d1 := upC hSw d1'; have d2 := upC hSw d2'; clear hSw; go_simp; try with_reducible rfl
    try simp only [Act.put, List.getElem_toArray, List.getElem_cons_succ, List.getElem_cons_zero, List.setIfInBounds_toArray, List.set_cons_zero, List.set_cons_succ]
    refine wpAnyH_take (i := 5) (v := ?_) rfl (by kernel_rfl) (by kernel_rfl) (by kernel_rfl) (fun _ _ _ h => h) (Or.inl ⟨by rfl, ?_⟩) (by assumption) ?_
    rotate_left
    · intro wS hSw; have c0 := upC hSw c0'; have c1 := upC hSw c1'; have c2 := upC hSw c2'; have d0 := upC hSw d0'; have d1 := upC hSw d1'; have d2 := upC hSw d2'; clear hSw; go_simp; try with_reducible rfl
    try simp only [Act.put, List.getElem_toArray, List.getElem_cons_succ, List.getElem_cons_zero, List.setIfInBounds_toArray, List.set_cons_zero, List.set_cons_succ]
    refine wpAnyH_take (i := 6) (v := ?_) rfl (by kernel_rfl) (by kernel_rfl) (by kernel_rfl) (fun _ _ _ h => h) (Or.inl ⟨by rfl, ?_⟩) (by assumption) ?_
    rotate_left
    · intro wS hSw; have c0 := upC hSw c0'; have c1 := upC hSw c1'; have c2 := upC hSw c2'; have d0 := upC hSw d0'; have d1 := upC hSw d1'; have d2 := upC hSw d2'; clear hSw; go_simp; try with_reducible rfl
    try simp only [Act.put, List.getElem_toArray, List.getElem_cons_succ, List.getElem_cons_zero, List.setIfInBounds_toArray, List.set_cons_zero, List.set_cons_succ]
    refine wpAnyH_take (i := 7) (v := ?_) rfl (by kernel_rfl) (by kernel_rfl) (by kernel_rfl) (fun _ _ _ h => h) (Or.inl ⟨by rfl, ?_⟩) (by assumption) ?_
    rotate_left
    · intro wS hSw; have c0 := upC hSw c0'; have c1 := upC hSw c1'; have c2 := upC hSw c2'; have d0 := upC hSw d0'; have d1 := upC hSw d1'; have d2 := upC hSw d2'; clear hSw; go_simp; try with_reducible rfl
    try simp only [Act.put, List.getElem_toArray, List.getElem_cons_succ, List.getElem_cons_zero, List.setIfInBounds_toArray, List.set_cons_zero, List.set_cons_succ]
    refine wpAnyH_take (i := 8) (v := ?_) rfl (by kernel_rfl) (by kernel_rfl) (by kernel_rfl) (fun _ _ _ h => h) (Or.inl ⟨by rfl, ?_⟩) (by assumption) ?_
    rotate_left
    · intro wS hSw; have c0 := upC hSw c0'; have c1 := upC hSw c1'; have c2 := upC hSw c2'; have d0 := upC hSw d0'; have d1 := upC hSw d1'; have d2 := upC hSw d2'; clear hSw; go_simp; try with_reducible rfl
    try simp only [Act.put, List.getElem_toArray, List.getElem_cons_succ, List.getElem_cons_zero, List.setIfInBounds_toArray, List.set_cons_zero, List.set_cons_succ]
    refine wpAnyH_take (i := 9) (v := ?_) rfl (by kernel_rfl) (by kernel_rfl) (by kernel_rfl) (fun _ _ _ h => h) (Or.inl ⟨by rfl, ?_⟩) (by assumption) ?_
    rotate_left
    · intro wS hSw; have c0 := upC hSw c0'; have c1 := upC hSw c1'; have c2 := upC hSw c2'; have d0 := upC hSw d0'; have d1 := upC hSw d1'; have d2 := upC hSw d2'; clear hSw; go_simp; try with_reducible rfl
    try simp only [Act.put, List.getElem_toArray, List.getElem_cons_succ, List.getElem_cons_zero, List.setIfInBounds_toArray, List.set_cons_zero, List.set_cons_succ]
    try simp only [hKb]
    refine wpAnyH_take (i := 10) (v := undef) rfl (by kernel_rfl) (by kernel_rfl) (by kernel_rfl) (fun _ _ _ h => h) (Or.inr ⟨by rfl, rfl⟩) (by assumption) ?_
    try simp only [Act.put, List.getElem_toArray, List.getElem_cons_succ, List.getElem_cons_zero, List.setIfInBounds_toArray, List.set_cons_zero, List.set_cons_succ]
    refine wpAnyH_take (i := 11) (v := undef) rfl (by kernel_rfl) (by kernel_rfl) (by kernel_rfl) (fun _ _ _ h => h) (Or.inr ⟨by rfl, rfl⟩) (by assumption) ?_
    try simp only [Act.put, List.getElem_toArray, List.getElem_cons_succ, List.getElem_cons_zero, List.setIfInBounds_toArray, List.set_cons_zero, List.set_cons_succ]
    refine wpAnyH_take (i := 12) (v := undef) rfl (by kernel_rfl) (by kernel_rfl) (by kernel_rfl) (fun _ _ _ h => h) (Or.inr ⟨by rfl, rfl⟩) (by assumption) ?_
    try simp only [Act.put, List.getElem_toArray, List.getElem_cons_succ, List.getElem_cons_zero, List.setIfInBounds_toArray, List.set_cons_zero, List.set_cons_succ]
    refine wpAnyH_take (i := 13) (v := undef) rfl (by kernel_rfl) (by kernel_rfl) (by kernel_rfl) (fun _ _ _ h => h) (Or.inr ⟨by rfl, rfl⟩) (by assumption) ?_
    try simp only [Act.put, List.getElem_toArray, List.getElem_cons_succ, List.getElem_cons_zero, List.setIfInBounds_toArray, List.set_cons_zero, List.set_cons_succ]
    refine wpAnyH_take (i := 14) (v := undef) rfl (by kernel_rfl) (by kernel_rfl) (by kernel_rfl) (fun _ _ _ h => h) (Or.inr ⟨by rfl, rfl⟩) (by assumption) ?_
    try simp only [Act.put, List.getElem_toArray, List.getElem_cons_succ, List.getElem_cons_zero, List.setIfInBounds_toArray, List.set_cons_zero, List.set_cons_succ]
    refine wpAnyH_take (i := 15) (v := undef) rfl (by kernel_rfl) (by kernel_rfl) (by kernel_rfl) (fun _ _ _ h => h) (Or.inr ⟨by rfl, rfl⟩) (by assumption) ?_
    try simp only [Act.put, List.getElem_toArray, List.getElem_cons_succ, List.getElem_cons_zero, List.setIfInBounds_toArray, List.set_cons_zero, List.set_cons_succ]
    refine wpAnyH_take (i := 16) (v := undef) rfl (by kernel_rfl) (by kernel_rfl) (by kernel_rfl) (fun _ _ _ h => h) (Or.inr ⟨by rfl, rfl⟩) (by assumption) ?_
    try simp only [Act.put, List.getElem_toArray, List.getElem_cons_succ, List.getElem_cons_zero, List.setIfInBounds_toArray, List.set_cons_zero, List.set_cons_succ]
    refine wpAnyH_take (i := 17) (v := undef) rfl (by kernel_rfl) (by kernel_rfl) (by kernel_rfl) (fun _ _ _ h => h) (Or.inr ⟨by rfl, rfl⟩) (by assumption) ?_
    try simp only [Act.put, List.getElem_toArray, List.getElem_cons_succ, List.getElem_cons_zero, List.setIfInBounds_toArray, List.set_cons_zero, List.set_cons_succ]
    refine wpAnyH_take (i := 18) (v := undef) rfl (by kernel_rfl) (by kernel_rfl) (by kernel_rfl) (fun _ _ _ h => h) (Or.inr ⟨by rfl, rfl⟩) (by assumption) ?_
    try simp only [Act.put, List.getElem_toArray, List.getElem_cons_succ, List.getElem_cons_zero, List.setIfInBounds_toArray, List.set_cons_zero, List.set_cons_succ]
    refine wpAnyH_take (i := 19) (v := ?_) rfl (by kernel_rfl) (by kernel_rfl) (by kernel_rfl) (fun _ _ _ h => h) (Or.inl ⟨by rfl, ?_⟩) (by assumption) ?_
    rotate_left
    · intro wS hSw; have c0 := upC hSw c0'; have c1 := upC hSw c1'; have c2 := upC hSw c2'; have d0 := upC hSw d0'; have d1 := upC hSw d1'; have d2 := upC hSw d2'; clear hSw; go_simp; try with_reducible rfl
    try simp only [Act.put, List.getElem_toArray, List.getElem_cons_succ, List.getElem_cons_zero, List.setIfInBounds_toArray, List.set_cons_zero, List.set_cons_succ]
    refine wpAnyH_take (i := 20) (v := ?_) rfl (by kernel_rfl) (by kernel_rfl) (by kernel_rfl) (fun _ _ _ h => h) (Or.inl ⟨by rfl, ?_⟩) (by assumption) ?_
    rotate_left
    · intro wS hSw; have c0 := upC hSw c0'; have c1 := upC hSw c1'; have c2 := upC hSw c2'; have d0 := upC hSw d0'; have d1 := upC hSw d1'; have d2 := upC hSw d2'; clear hSw; go_simp; try with_reducible rfl
    try simp only [Act.put, List.getElem_toArray, List.getElem_cons_succ, List.getElem_cons_zero, List.setIfInBounds_toArray, List.set_cons_zero, List.set_cons_succ]
    refine wpAnyH_take (i := 21) (v := undef) rfl (by kernel_rfl) (by kernel_rfl) (by kernel_rfl) (fun _ _ _ h => h) (Or.inr ⟨by rfl, rfl⟩) (by assumption) ?_
    try simp only [Act.put, List.getElem_toArray, List.getElem_cons_succ, List.getElem_cons_zero, List.setIfInBounds_toArray, List.set_cons_zero, List.set_cons_succ]
    refine wpAnyH_take (i := 22) (v := undef) rfl (by kernel_rfl) (by kernel_rfl) (by kernel_rfl) (fun _ _ _ h => h) (Or.inr ⟨by rfl, rfl⟩) (by assumption) ?_
    try simp only [Act.put, List.getElem_toArray, List.getElem_cons_succ, List.getElem_cons_zero, List.setIfInBounds_toArray, List.set_cons_zero, List.set_cons_succ]
    refine wpAnyH_take (i := 23) (v := undef) rfl (by kernel_rfl) (by kernel_rfl) (by kernel_rfl) (fun _ _ _ h => h) (Or.inr ⟨by rfl, rfl⟩) (by assumption) ?_
    try simp only [Act.put, List.getElem_toArray, List.getElem_cons_succ, List.getElem_cons_zero, List.setIfInBounds_toArray, List.set_cons_zero, List.set_cons_succ]
    refine wpAnyH_take (i := 24) (v := undef) rfl (by kernel_rfl) (by kernel_rfl) (by kernel_rfl) (fun _ _ _ h => h) (Or.inr ⟨by rfl, rfl⟩) (by assumption) ?_
    try simp only [Act.put, List.getElem_toArray, List.getElem_cons_succ, List.getElem_cons_zero, List.setIfInBounds_toArray, List.set_cons_zero, List.set_cons_succ]
    refine wpAnyH_take (i := 25) (v := undef) rfl (by kernel_rfl) (by kernel_rfl) (by kernel_rfl) (fun _ _ _ h => h) (Or.inr ⟨by rfl, rfl⟩) (by assumption) ?_
    try simp only [Act.put, List.getElem_toArray, List.getElem_cons_succ, List.getElem_cons_zero, List.setIfInBounds_toArray, List.set_cons_zero, List.set_cons_succ]
    refine wpAnyH_take (i := 26) (v := undef) rfl (by kernel_rfl) (by kernel_rfl) (by kernel_rfl) (fun _ _ _ h => h) (Or.inr ⟨by rfl, rfl⟩) (by assumption) ?_
    try simp only [Act.put, List.getElem_toArray, List.getElem_cons_succ, List.getElem_cons_zero, List.setIfInBounds_toArray, List.set_cons_zero, List.set_cons_succ]
    refine wpAnyH_take (i := 27) (v := undef) rfl (by kernel_rfl) (by kernel_rfl) (by kernel_rfl) (fun _ _ _ h => h) (Or.inr ⟨by rfl, rfl⟩) (by assumption) ?_
    try simp only [Act.put, List.getElem_toArray, List.getElem_cons_succ, List.getElem_cons_zero, List.setIfInBounds_toArray, List.set_cons_zero, List.set_cons_succ]
    refine wpAnyH_take (i := 28) (v := undef) rfl (by kernel_rfl) (by kernel_rfl) (by kernel_rfl) (fun _ _ _ h => h) (Or.inr ⟨by rfl, rfl⟩) (by assumption) ?_
    try simp only [Act.put, List.getElem_toArray, List.getElem_cons_succ, List.getElem_cons_zero, List.setIfInBounds_toArray, List.set_cons_zero, List.set_cons_succ]
    refine wpAnyH_take (i := 29) (v := undef) rfl (by kernel_rfl) (by kernel_rfl) (by kernel_rfl) (fun _ _ _ h => h) (Or.inr ⟨by rfl, rfl⟩) (by assumption) ?_
    try simp only [Act.put, List.getElem_toArray, List.getElem_cons_succ, List.getElem_cons_zero, List.setIfInBounds_toArray, List.set_cons_zero, List.set_cons_succ]
    refine wpAnyH_take (i := 30) (v := ?_) rfl (by kernel_rfl) (by kernel_rfl) (by kernel_rfl) (fun _ _ _ h => h) (Or.inl ⟨by rfl, ?_⟩) (by assumption) ?_
    rotate_left
    · intro wS hSw; have c0 := upC hSw c0'; have c1 := upC hSw c1'; have c2 := upC hSw c2'; have d0 := upC hSw d0'; have d1 := upC hSw d1'; have d2 := upC hSw d2'; clear hSw; go_simp; try with_reducible rfl
    try simp only [Act.put, List.getElem_toArray, List.getElem_cons_succ, List.getElem_cons_zero, List.setIfInBounds_toArray, List.set_cons_zero, List.set_cons_succ]
    refine wpAnyH_ready (rs := [31]) (by kernel_rfl) (by simp) ?_
    refine AllReadyH.cons rfl (fun KK hK => ?_) AllReadyH.nil
    go_simp
    refine hK.out _ _ HBD.out (fun hHeld => ?_)
    clear hK KK
    try simp only [Act.put, List.getElem_toArray, List.getElem_cons_succ, List.getElem_cons_zero, List.setIfInBounds_toArray, List.set_cons_zero, List.set_cons_succ]
    refine wpAnyH_done (by kernel_rfl) ?_ _
    refine NoPanic.normal ?_
    go_wp2_with fail
    go_ret
    exact ⟨rfl, HBD.out⟩
end Go.Proofs.YtpmmmgjiekikeaaDoor

/- A small expression has a small machine; the machine of one character. -/
namespace Go.Proofs.YtpmmmgjiekikeaaDoor
open Go.RowKit Go.Shelf Go.Maps
set_option linter.unusedVariables false
set_option linter.unusedSimpArgs false

/-- What is closed under steps holds all that is met. -/
theorem rch_in {S : Type} {K : Nat} {step : S → Nat → S} {first : S} {L : List S} (h0 : first ∈ L) (hs : ∀ x, x ∈ L → ∀ c, c < K → step x c ∈ L) : ∀ x, Rch K step first x → x ∈ L := by
  rintro x ⟨w, hw, rfl⟩
  have : ∀ (w : List Nat) (y : S), (∀ c, c ∈ w → c < K) → y ∈ L → w.foldl step y ∈ L := by
    intro w
    induction w with
    | nil => exact fun y _ hy => hy
    | cons c w ih => exact fun y hc hy => ih _ (fun d hd => hc d (List.mem_cons_of_mem _ hd)) (hs y hy c (hc c List.mem_cons_self))
  exact this w first hw h0
theorem few_in {S : Type} {K : Nat} {step : S → Nat → S} {first : S} {L : List S} (h : ∀ x, Rch K step first x → x ∈ L) {M : List S} (hn : M.Nodup) (hm : ∀ x, x ∈ M → Rch K step first x) : M.length ≤ L.length :=
  List.Nodup.length_le_of_subset hn (fun x hx => h x (hm x hx))
theorem meet_rch {S : Type} {K : Nat} {step : S → Nat → S} {first : S} {met : List S} {nx : List (List Nat)} (h : MeetP K step first met nx) (hl : nx.length = met.length) : ∀ x, x ∈ met → Rch K step first x := by
  intro x hx
  obtain ⟨i, hi, rfl⟩ := List.getElem_of_mem hx
  obtain ⟨w, hw, he⟩ := table_met (meet_asMet h hl) h.wide i (by rw [hl]; exact hi)
  have := meet_run h hl w hw 0 _ h.one
  rw [he, List.getElem?_eq_getElem hi] at this
  exact ⟨w, hw, Option.some.inj this⟩
/-- One expression of few spots. -/
theorem small_one {K : Nat} {x : Nd × Bool} {L : List (Nat × Bool)} (h : ∀ y, Rch K (stO x) (fiO x) y → y ∈ L) (hL : L.length ≤ 400) : ¬ TooBig K [x] := by
  have hM : ∀ (Ms : List (List (Nat × Bool))) (nxs : List (List (List Nat))), Ms.length = [x].length → nxs.length = [x].length → SpotsA K [x] Ms nxs → ∀ y, Rch K (stepAll nxs) (List.replicate [x].length 0) y → y ∈ (List.range L.length).map (fun i => [i]) := by
    intro Ms nxs h1 h2 hs y hy
    obtain ⟨hy1, hy2⟩ := rch_all h1 h2 hs y hy
    obtain ⟨m, rfl⟩ : ∃ m, Ms = [m] := List.length_eq_one_iff.1 h1
    obtain ⟨N, rfl⟩ : ∃ N, nxs = [N] := List.length_eq_one_iff.1 h2
    obtain ⟨hp, _, hr⟩ := hs 0 x m N rfl rfl rfl
    have hml := few_in h hp.meet.nodup hr
    obtain ⟨s, rfl⟩ : ∃ s, y = [s] := List.length_eq_one_iff.1 hy1
    have := hy2 0 (by simp) (by simp)
    simp only [List.getElem_cons_zero] at this
    rw [hp.all] at this
    exact List.mem_map.2 ⟨s, by simp; omega, rfl⟩
  rintro ((⟨y, hy, M, hn, hl, hm⟩ | ⟨Ms, nxs, h1, h2, hs, M, hn, hl, hm⟩) | ⟨Ms, nxs, met, nx, ou, kd, cnt, ⟨h1, h2, hs, hme, hnl⟩, _, _, _, _, hk, hc⟩)
  · rw [List.mem_singleton.1 hy] at hm
    have := few_in h hn hm
    omega
  · have := few_in (hM Ms nxs h1 h2 hs) hn hm
    simp at this
    omega
  · have h3 := few_in (hM Ms nxs h1 h2 hs) hme.nodup (meet_rch hme hnl)
    have h4 := hk.few
    simp at h3
    omega
/-- A character of the first class. -/
def oneX : Nd × Bool := (⟨1, [0], .nil⟩, false)
def oneA : Nat × Bool := fiO oneX
def oneB : Nat × Bool := stO oneX oneA 0
theorem one_steps : oneA ≠ oneB ∧ stO oneX oneA 0 = oneB ∧ stO oneX oneA 1 = oneA ∧ stO oneX oneB 0 = oneB ∧ stO oneX oneB 1 = oneA ∧ oneA.2 = false ∧ oneB.2 = true := by decide
theorem one_small : ¬ TooBig 2 [oneX] := by
  obtain ⟨_, s1, s2, s3, s4, _⟩ := one_steps
  refine small_one (L := [oneA, oneB]) (rch_in (by simp [oneA]) fun x hx c hc => ?_) (by simp)
  have hc2 : c = 0 ∨ c = 1 := by omega
  rcases List.mem_cons.1 hx with rfl | hx
  · rcases hc2 with rfl | rfl
    · rw [s1]; simp
    · rw [s2]; simp
  · rw [List.mem_singleton.1 hx]
    rcases hc2 with rfl | rfl
    · rw [s3]; simp
    · rw [s4]; simp
def oneN : List (List Nat) := [[1, 0], [1, 0]]
theorem one_meet : MeetP 2 (stO oneX) (fiO oneX) [oneA, oneB] oneN := by
  obtain ⟨s0, s1, s2, s3, s4, _⟩ := one_steps
  refine ⟨rfl, by simp [s0], rfl, fun r hr => by simp [oneN] at hr; rw [hr]; rfl, fun i x hi hx c hc => ?_⟩
  have hi2 : i = 0 ∨ i = 1 := by simp [oneN] at hi; omega
  have hc2 : c = 0 ∨ c = 1 := by omega
  rcases hi2 with rfl | rfl <;> rcases hc2 with rfl | rfl <;> simp at hx <;> subst hx
  · rw [s1]; rfl
  · rw [s2]; rfl
  · rw [s3]; rfl
  · rw [s4]; rfl
theorem one_least : LeastOf 2 [oneX] oneN [0, 1] := by
  obtain ⟨s0, s1, s2, s3, s4, s5, s6⟩ := one_steps
  refine ⟨rfl, fun r hr => by simp [oneN] at hr; rw [hr]; rfl, fun i j hi hj h => ?_, rfl, fun w hw i => ?_⟩
  · have := h [] (by simp)
    simp only [runM_nil] at this
    have hi2 : i = 0 ∨ i = 1 := by simp [oneN] at hi; omega
    have hj2 : j = 0 ∨ j = 1 := by simp [oneN] at hj; omega
    rcases hi2 with rfl | rfl <;> rcases hj2 with rfl | rfl <;> simp at this <;> rfl
  · refine situ_tells (K := 2) (xs := [oneX]) (mets := [[oneA, oneB]]) (nxs := [oneN]) (met := [[0], [1]]) (nx := oneN) (ou := [0, 1]) (fun x hx => ?_) rfl rfl ?_ ?_ rfl ?_ w hw i
    · rw [List.mem_singleton.1 hx]
      exact (Nd.ok_right (n := oneX.1) (by decide)).1
    · intro i x m N h1 h2 h3
      match i, h1, h2, h3 with
      | 0, h1, h2, h3 =>
        simp at h1 h2 h3
        subst h1 h2 h3
        exact ⟨one_meet, rfl⟩
      | i + 1, h1, h2, h3 => simp at h1
    · refine ⟨rfl, by simp, rfl, fun r hr => by simp [oneN] at hr; rw [hr]; rfl, fun i x hi hx c hc => ?_⟩
      have hi2 : i = 0 ∨ i = 1 := by simp [oneN] at hi; omega
      have hc2 : c = 0 ∨ c = 1 := by omega
      rcases hi2 with rfl | rfl <;> rcases hc2 with rfl | rfl <;> simp at hx <;> subst hx <;> rfl
    · simp [bitsN, s5, s6]
end Go.Proofs.YtpmmmgjiekikeaaDoor

/- Step where there is no way; the walk of shown. -/
namespace Go.Proofs.YtpmmmgjiekikeaaDoor
open Go.RowKit Go.Shelf Go.Maps
set_option linter.unusedVariables false
set_option linter.unusedSimpArgs false

theorem step_bad (w : World) (bm K : Nat) (nx : List (List Nat)) (ou : List Nat) (s c : Int) (h : MchAt w bm K nx ou) (hc : ¬ (0 ≤ c ∧ c < (K : Int))) : Calls Tryd.prog 19 #[.pointer (some ⟨bm, 0, none⟩), .int .i64 s, .int .i64 c] w fun e w' => e = .returned (.int .i64 0) ∧ w' = w := by
  have HR : Hid (Calls Tryd.prog 35 #[.pointer (some ⟨bm, 0, none⟩), .int .i64 c] w fun e w' => e = .returned (.bool (decide (0 ≤ c) && decide (c < (K : Int)))) ∧ w' = w) := reads_any w bm K nx ou c h
  have hdec : (decide (0 ≤ c) && decide (c < (K : Int))) = false := by simp; omega
  rw [hdec] at HR
  clear h hc hdec
  go_enter Tryd.func19, Tryd.ntmps19
  go_wp2_with fail
  refine HR.out.mono ?_
  rintro e w1 ⟨rfl, hw1⟩
  subst hw1
  go_wp2
  go_ret
  exact ⟨rfl, rfl⟩
theorem step_far (w : World) (bm K : Nat) (nx : List (List Nat)) (ou : List Nat) (s c : Nat) (h : MchAt w bm K nx ou) (hs : nx.length ≤ s) (hc : c < K) : Calls Tryd.prog 19 #[.pointer (some ⟨bm, 0, none⟩), .int .i64 (s : Int), .int .i64 (c : Int)] w fun e w' => e = .returned (.int .i64 0) ∧ w' = w := by
  have HR : Hid (Calls Tryd.prog 35 #[.pointer (some ⟨bm, 0, none⟩), .int .i64 (c : Int)] w fun e w' => e = .returned (.bool (decide (0 ≤ (c : Int)) && decide ((c : Int) < (K : Int)))) ∧ w' = w) := reads_any w bm K nx ou c h
  obtain ⟨na, nc, oa, oc, hm, hnr, _, hnl, _⟩ := h
  obtain ⟨n, hn⟩ : ∃ n, n = nx.length := ⟨_, rfl⟩
  have hni : (n : Int) ≤ 1000000 := by omega
  have hsi : (n : Int) ≤ (s : Int) := by omega
  have hs0 : (0 : Int) ≤ (s : Int) := by omega
  have hdec : (decide (0 ≤ (c : Int)) && decide ((c : Int) < (K : Int))) = true := by simp; omega
  rw [hdec] at HR
  rw [← hn] at hm
  have c1 : w.cell? ⟨bm, 1, none⟩ = some (.slice na n nc) := cell_of_row w bm 1 _ _ _ hm
  clear hm hnr hn hnl hdec hs hc
  go_enter Tryd.func19, Tryd.ntmps19
  go_wp2_with fail
  refine HR.out.mono ?_
  rintro e w1 ⟨rfl, hw1⟩
  subst hw1
  go_wp2
  go_ret
  exact ⟨rfl, rfl⟩
end Go.Proofs.YtpmmmgjiekikeaaDoor
