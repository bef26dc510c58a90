/- The walk of IdentOrder: IDs are in one order. -/
import Derived.Test.YtfagmcgcdlboiaaIdS
namespace Go.Proofs.Ytfagmcgcdlboiaa
open Go.RowKit Go.Sort
set_option linter.unusedVariables false

theorem eql_ids (a1 a2 b1 b2 : Int) (z : Bool) (hz : z = (decide (a1 = b1) && decide (a2 = b2))) (W : World) : (binOp .eql 23 (.agg #[.int .i64 a1, .int .i64 a2]) (.agg #[.int .i64 b1, .int .i64 b2])).run Try.prog W = .ok (.bool z) W := by
  subst hz
  by_cases h1 : a1 = b1 <;> by_cases h2 : a2 = b2 <;> go_simp
theorem ls_iff (a1 a2 b1 b2 : Int) : lsB a1 a2 b1 b2 = true ↔ a1 < b1 ∨ (a1 = b1 ∧ a2 < b2) := by unfold lsB; simp
set_option maxHeartbeats 1000000 in
theorem identOrder_walk (a1 a2 b1 b2 c1 c2 : Int) (w : World) :
    Calls Try.prog 5 #[.agg #[.int .i64 a1, .int .i64 a2], .agg #[.int .i64 b1, .int .i64 b2], .agg #[.int .i64 c1, .int .i64 c2]] w fun e w' => e = .returned (.bool true) ∧ Below w.heap.size w w' := by
  have HS : Hid (∀ W : World, Calls Try.prog 10 #[] W fun e w' => e = .returned (.bool true) ∧ Below W.heap.size W w') := shown_any
  have HAB : Hid (∀ W : World, Calls Try.prog 15 #[.agg #[.int .i64 a1, .int .i64 a2], .agg #[.int .i64 b1, .int .i64 b2]] W fun e w' => e = .returned (.bool (lsB a1 a2 b1 b2)) ∧ Gw W w') := fun W => less_any a1 a2 b1 b2 W
  have HBA : Hid (∀ W : World, Calls Try.prog 15 #[.agg #[.int .i64 b1, .int .i64 b2], .agg #[.int .i64 a1, .int .i64 a2]] W fun e w' => e = .returned (.bool (lsB b1 b2 a1 a2)) ∧ Gw W w') := fun W => less_any b1 b2 a1 a2 W
  have HBC : Hid (∀ W : World, Calls Try.prog 15 #[.agg #[.int .i64 b1, .int .i64 b2], .agg #[.int .i64 c1, .int .i64 c2]] W fun e w' => e = .returned (.bool (lsB b1 b2 c1 c2)) ∧ Gw W w') := fun W => less_any b1 b2 c1 c2 W
  have HAC : Hid (∀ W : World, Calls Try.prog 15 #[.agg #[.int .i64 a1, .int .i64 a2], .agg #[.int .i64 c1, .int .i64 c2]] W fun e w' => e = .returned (.bool (lsB a1 a2 c1 c2)) ∧ Gw W w') := fun W => less_any a1 a2 c1 c2 W
  obtain ⟨z, hz⟩ : ∃ z, z = (decide (a1 = b1) && decide (a2 = b2)) := ⟨_, rfl⟩
  have hq := eql_ids a1 a2 b1 b2 z hz
  have k1 := ls_iff a1 a2 b1 b2
  have k2 := ls_iff b1 b2 a1 a2
  have k3 := ls_iff b1 b2 c1 c2
  have k4 := ls_iff a1 a2 c1 c2
  have k5 : z = true ↔ a1 = b1 ∧ a2 = b2 := by rw [hz]; simp
  generalize lsB a1 a2 b1 b2 = x1 at HAB k1
  generalize lsB b1 b2 a1 a2 = x2 at HBA k2
  generalize lsB b1 b2 c1 c2 = x3 at HBC k3
  generalize lsB a1 a2 c1 c2 = x4 at HAC k4
  clear hz
  obtain ⟨N, hN⟩ : ∃ N, N = w.heap.size := ⟨_, rfl⟩
  obtain ⟨W0, hW0⟩ : ∃ W0, W0 = ((w.alloc (.cells #[.int .i64 a1, .int .i64 a2] 23)).alloc (.cells #[.int .i64 b1, .int .i64 b2] 23)).alloc (.cells #[.int .i64 c1, .int .i64 c2] 23) := ⟨_, rfl⟩
  have HB0 : Hid (Below w.heap.size w W0) := by
    show Below w.heap.size w W0
    rw [hW0]
    exact (((Below.refl _ w).alloc (Nat.le_refl _) _).alloc (by simp) _).alloc (by simp; omega) _
  have HK : Hid (∀ w2, Below W0.heap.size W0 w2 → (w2.cell? ⟨N, 0, none⟩ = some (.int .i64 a1) ∧ w2.cell? ⟨N, 1, none⟩ = some (.int .i64 a2)) ∧ (w2.cell? ⟨N + 1, 0, none⟩ = some (.int .i64 b1) ∧ w2.cell? ⟨N + 1, 1, none⟩ = some (.int .i64 b2)) ∧ w2.cell? ⟨N + 2, 0, none⟩ = some (.int .i64 c1) ∧ w2.cell? ⟨N + 2, 1, none⟩ = some (.int .i64 c2)) := by
    intro w2 hb
    have e0 : W0.heap[N]? = some (.cells #[.int .i64 a1, .int .i64 a2] 23) := by
      rw [hW0, hN, Below.heap_alloc _ _ _ (by simp; omega), Below.heap_alloc _ _ _ (by simp)]
      exact heap_alloc_new w _
    have e1 : W0.heap[N + 1]? = some (.cells #[.int .i64 b1, .int .i64 b2] 23) := by
      have := heap_alloc_new (w.alloc (.cells #[.int .i64 a1, .int .i64 a2] 23)) (.cells #[.int .i64 b1, .int .i64 b2] 23)
      rw [hW0, hN, Below.heap_alloc _ _ _ (by simp)]
      simpa using this
    have e2 : W0.heap[N + 2]? = some (.cells #[.int .i64 c1, .int .i64 c2] 23) := by
      have := heap_alloc_new ((w.alloc (.cells #[.int .i64 a1, .int .i64 a2] 23)).alloc (.cells #[.int .i64 b1, .int .i64 b2] 23)) (.cells #[.int .i64 c1, .int .i64 c2] 23)
      rw [hW0, hN]
      simpa using this
    rw [← hb.block _ (Array.getElem?_eq_some_iff.1 e0).1] at e0
    rw [← hb.block _ (Array.getElem?_eq_some_iff.1 e1).1] at e1
    rw [← hb.block _ (Array.getElem?_eq_some_iff.1 e2).1] at e2
    exact ⟨box2 e0, box2 e1, box2 e2⟩
  go_enter Try.func5, Try.ntmps5
  go_upto_region 1 with fail
  rw [← hW0, ← hN]
  clear hW0 hN
  go_upto_region 2 with (first | (go_at_call 10; refine (HS.out _).mono ?_; rintro e w1 ⟨rfl, hb⟩; have HB1 : Hid (Below W0.heap.size W0 w1) := hb; obtain ⟨⟨p0, p1⟩, ⟨q0, q1⟩, r0, r1⟩ := HK.out w1 hb; clear hb))
  go_upto_region 3 with (first | (go_at_call 15; refine (HAB.out _).mono ?_; rintro e w2 ⟨rfl, hg⟩; have HB2 : Hid (Below W0.heap.size W0 w2) := HB1.out.trans (hg.below.mono HB1.out.size); clear hg p0 p1 q0 q1 r0 r1; obtain ⟨⟨p0, p1⟩, ⟨q0, q1⟩, r0, r1⟩ := HK.out w2 HB2.out))
  go_upto_region 4 with (first | (go_at_call 15; refine (HBA.out _).mono ?_; rintro e w3 ⟨rfl, hg⟩; have HB3 : Hid (Below W0.heap.size W0 w3) := HB2.out.trans (hg.below.mono HB2.out.size); clear hg p0 p1 q0 q1 r0 r1; obtain ⟨⟨p0, p1⟩, ⟨q0, q1⟩, r0, r1⟩ := HK.out w3 HB3.out))
  have HFIN : Hid (∀ w', Below W0.heap.size W0 w' → Below w.heap.size w w') := fun w' h => HB0.out.trans (h.mono HB0.out.size)
  have htri : (x1 = true ∧ x2 = false ∧ z = false ∧ (x3 = true → x4 = true)) ∨ (x1 = false ∧ x2 = false ∧ z = true) ∨ (x1 = false ∧ x2 = true ∧ z = false) := by
    by_cases e1 : a1 < b1 ∨ (a1 = b1 ∧ a2 < b2)
    · left
      refine ⟨k1.2 e1, ?_, ?_, fun h => k4.2 ?_⟩
      · cases x2
        · rfl
        · have := k2.1 rfl; omega
      · cases z
        · rfl
        · have := k5.1 rfl; omega
      · have := k3.1 h; omega
    · right
      have f1 : x1 = false := by
        cases x1
        · rfl
        · exact absurd (k1.1 rfl) e1
      by_cases e2 : b1 < a1 ∨ (b1 = a1 ∧ b2 < a2)
      · right
        refine ⟨f1, k2.2 e2, ?_⟩
        cases z
        · rfl
        · have := k5.1 rfl; omega
      · left
        refine ⟨f1, ?_, k5.2 (by omega)⟩
        cases x2
        · rfl
        · exact absurd (k2.1 rfl) e2
  clear k1 k2 k3 k4 k5
  rcases htri with ⟨rfl, rfl, rfl, h34⟩ | ⟨rfl, rfl, rfl⟩ | ⟨rfl, rfl, rfl⟩
  · cases x3
    · clear h34
      go_wp2_with (first | (go_at_call 15; refine (HBC.out _).mono ?_; rintro e w4 ⟨rfl, hg⟩; have HB4 : Hid (Below W0.heap.size W0 w4) := HB3.out.trans (hg.below.mono HB3.out.size); clear hg))
      go_ret
      exact ⟨rfl, HFIN.out _ HB4.out⟩
    · obtain rfl := h34 rfl
      clear h34
      go_wp2_with (first | (go_at_call_of 15 (Value.agg #[Value.int IntKind.i64 b1, Value.int IntKind.i64 b2]); refine (HBC.out _).mono ?_; rintro e w4 ⟨rfl, hg⟩; have HB4 : Hid (Below W0.heap.size W0 w4) := HB3.out.trans (hg.below.mono HB3.out.size); clear hg p0 p1 q0 q1 r0 r1; obtain ⟨⟨p0, p1⟩, ⟨q0, q1⟩, r0, r1⟩ := HK.out w4 HB4.out) | (go_at_call 15; refine (HAC.out _).mono ?_; rintro e w5 ⟨rfl, hg⟩; have HB5 : Hid (Below W0.heap.size W0 w5) := HB4.out.trans (hg.below.mono HB4.out.size); clear hg))
      go_ret
      exact ⟨rfl, HFIN.out _ HB5.out⟩
  · go_wp2
    go_ret
    exact ⟨rfl, HFIN.out _ HB3.out⟩
  · go_wp2
    go_ret
    exact ⟨rfl, HFIN.out _ HB3.out⟩
end Go.Proofs.Ytfagmcgcdlboiaa
