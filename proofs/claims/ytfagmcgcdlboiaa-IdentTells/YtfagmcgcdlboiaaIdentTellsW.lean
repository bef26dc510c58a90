/- The walk of IdentTells: authors, IDs and operations are what the document says. -/
import Derived.Test.YtfagmcgcdlboiaaIdS
import Derived.Test.YtfagmcgcdlboiaaIdRr
namespace Go.Proofs.Ytfagmcgcdlboiaa
open Go.RowKit Go.Sort
set_option linter.unusedVariables false

set_option maxHeartbeats 4000000 in
theorem identTells_walk (r k a1 a2 b1 b2 : Int) (o : Opn) (w : World) (_ : -9223372036854775808 ≤ r) (_ : r ≤ 9223372036854775807) (_ : -9223372036854775808 ≤ k) (_ : k ≤ 9223372036854775807) :
    Calls Try.prog 3 #[.int .i64 r, .int .i64 k, .agg #[.int .i64 a1, .int .i64 a2], .agg #[.int .i64 b1, .int .i64 b2], o.val] w fun e w' => e = .returned (.bool true) ∧ Below w.heap.size w w' := by
  have HS : Hid (∀ W : World, Calls Try.prog 10 #[] W fun e w' => e = .returned (.bool true) ∧ Below W.heap.size W w') := shown_any
  have H1 : Hid (∀ W : World, Calls Try.prog 11 #[.int .i64 r, .int .i64 k] W fun e w' => e = .returned (.tuple #[.int .i64 (auN r k), .bool (auOk r k)]) ∧ w' = W) := fun W => author_any r k W
  have H2 : Hid (∀ W : World, Calls Try.prog 12 #[.int .i64 r, .int .i64 k] W fun e w' => e = .returned (.tuple #[.int .i64 (auN r k), .bool (auOk r k)]) ∧ w' = W) := fun W => refAuthor_any r k W
  have H3 : Hid (∀ W : World, Calls Try.prog 13 #[.int .i64 k] W fun e w' => e = .returned (.tuple #[.int .i64 (paR k), .int .i64 (paK k), .bool (auB k)]) ∧ w' = W) := fun W => parts_any k W
  have H4 : Hid (∀ W : World, Calls Try.prog 14 #[.int .i64 k] W fun e w' => e = .returned (.tuple #[.int .i64 (paR k), .int .i64 (paK k), .bool (auB k)]) ∧ w' = W) := fun W => refParts_any k W
  have H5 : Hid (∀ W : World, Calls Try.prog 15 #[.agg #[.int .i64 a1, .int .i64 a2], .agg #[.int .i64 b1, .int .i64 b2]] W fun e w' => e = .returned (.bool (lsB a1 a2 b1 b2)) ∧ ∃ q os', w' = grow (W.drewN q) os') := fun W => less_any a1 a2 b1 b2 W
  have H6 : Hid (∀ W : World, Calls Try.prog 16 #[.agg #[.int .i64 a1, .int .i64 a2], .agg #[.int .i64 b1, .int .i64 b2]] W fun e w' => e = .returned (.bool (lsB a1 a2 b1 b2)) ∧ ∃ q os', w' = grow (W.drewN q) os') := fun W => refLess_any a1 a2 b1 b2 W
  have H7 : Hid (∀ W : World, Calls Try.prog 17 #[o.val] W fun e w' => e = .returned (.bool (opB o)) ∧ ∃ q os', w' = grow (W.drewN q) os') := fun W => right_any o W
  have H8 : Hid (∀ W : World, Calls Try.prog 18 #[o.val] W fun e w' => e = .returned (.bool (opB o)) ∧ ∃ q os', w' = grow (W.drewN q) os') := fun W => refRight_any o W
  generalize auN r k = X at H1 H2
  generalize auOk r k = P at H1 H2
  generalize paR k = R at H3 H4
  generalize paK k = K at H3 H4
  generalize auB k = Q at H3 H4
  generalize lsB a1 a2 b1 b2 = L at H5 H6
  generalize opB o = G at H7 H8
  obtain ⟨c, a, s, ins, rc, ra, ch⟩ := o
  simp only [Opn.val] at H7 H8 ⊢
  obtain ⟨N, hN⟩ : ∃ N, N = w.heap.size := ⟨_, rfl⟩
  obtain ⟨W0, hW0⟩ : ∃ W0, W0 = ((w.alloc (.cells #[.int .i64 a1, .int .i64 a2] 23)).alloc (.cells #[.int .i64 b1, .int .i64 b2] 23)).alloc (.cells #[.int .i64 c, .int .i64 a, .int .i64 s, .bool ins, .int .i64 rc, .int .i64 ra, .int .i32 ch] 25) := ⟨_, rfl⟩
  have HB0 : Hid (Below w.heap.size w W0) := by
    show Below w.heap.size w W0
    rw [hW0]
    exact (((Below.refl _ w).alloc (Nat.le_refl _) _).alloc (by simp) _).alloc (by simp; omega) _
  have HK : Hid (∀ w2, Below W0.heap.size W0 w2 → (w2.cell? ⟨N, 0, none⟩ = some (.int .i64 a1) ∧ w2.cell? ⟨N, 1, none⟩ = some (.int .i64 a2)) ∧ (w2.cell? ⟨N + 1, 0, none⟩ = some (.int .i64 b1) ∧ w2.cell? ⟨N + 1, 1, none⟩ = some (.int .i64 b2)) ∧ (w2.cell? ⟨N + 2, 0, none⟩ = some (.int .i64 c) ∧ w2.cell? ⟨N + 2, 1, none⟩ = some (.int .i64 a) ∧ w2.cell? ⟨N + 2, 2, none⟩ = some (.int .i64 s) ∧ w2.cell? ⟨N + 2, 3, none⟩ = some (.bool ins) ∧ w2.cell? ⟨N + 2, 4, none⟩ = some (.int .i64 rc) ∧ w2.cell? ⟨N + 2, 5, none⟩ = some (.int .i64 ra) ∧ w2.cell? ⟨N + 2, 6, none⟩ = some (.int .i32 ch))) := by
    intro w2 hb
    have e0 : W0.heap[N]? = some (.cells #[.int .i64 a1, .int .i64 a2] 23) := by
      rw [hW0, hN, Below.heap_alloc _ _ _ (by simp; omega), Below.heap_alloc _ _ _ (by simp)]
      exact heap_alloc_new w _
    have e1 : W0.heap[N + 1]? = some (.cells #[.int .i64 b1, .int .i64 b2] 23) := by
      have := heap_alloc_new (w.alloc (.cells #[.int .i64 a1, .int .i64 a2] 23)) (.cells #[.int .i64 b1, .int .i64 b2] 23)
      rw [hW0, hN, Below.heap_alloc _ _ _ (by simp)]
      simpa using this
    have e2 : W0.heap[N + 2]? = some (.cells #[.int .i64 c, .int .i64 a, .int .i64 s, .bool ins, .int .i64 rc, .int .i64 ra, .int .i32 ch] 25) := by
      have := heap_alloc_new ((w.alloc (.cells #[.int .i64 a1, .int .i64 a2] 23)).alloc (.cells #[.int .i64 b1, .int .i64 b2] 23)) (.cells #[.int .i64 c, .int .i64 a, .int .i64 s, .bool ins, .int .i64 rc, .int .i64 ra, .int .i32 ch] 25)
      rw [hW0, hN]
      simpa using this
    rw [← hb.block _ (Array.getElem?_eq_some_iff.1 e0).1] at e0
    rw [← hb.block _ (Array.getElem?_eq_some_iff.1 e1).1] at e1
    rw [← hb.block _ (Array.getElem?_eq_some_iff.1 e2).1] at e2
    exact ⟨box2 e0, box2 e1, cell_of_row w2 (N + 2) 0 _ _ _ e2, cell_of_row w2 (N + 2) 1 _ _ _ e2, cell_of_row w2 (N + 2) 2 _ _ _ e2, cell_of_row w2 (N + 2) 3 _ _ _ e2, cell_of_row w2 (N + 2) 4 _ _ _ e2, cell_of_row w2 (N + 2) 5 _ _ _ e2, cell_of_row w2 (N + 2) 6 _ _ _ e2⟩
  have mixed : Try.prog.follows .mixedOrders = true := by kernel_rfl
  have HFIN : Hid (∀ w', Below W0.heap.size W0 w' → Below w.heap.size w w') := fun w' h => HB0.out.trans (h.mono HB0.out.size)
  go_enter Try.func3, Try.ntmps3
  go_upto_region 1 with fail
  rw [← hW0, ← hN]
  clear hW0 hN HB0
  go_upto_region 2 with (first | (go_at_call 10; refine (HS.out _).mono ?_; rintro e w1 ⟨rfl, hb⟩; have HB1 : Hid (Below W0.heap.size W0 w1) := hb; clear hb))
  go_upto_region 6 with (first
    | (go_at_call 11; refine (H1.out _).mono ?_; rintro e w' ⟨rfl, hw'⟩; obtain rfl := hw'.symm; clear hw')
    | (go_at_call 12; refine (H2.out _).mono ?_; rintro e w' ⟨rfl, hw'⟩; obtain rfl := hw'.symm; clear hw')
    | (go_at_call 13; refine (H3.out _).mono ?_; rintro e w' ⟨rfl, hw'⟩; obtain rfl := hw'.symm; clear hw')
    | (go_at_call 14; refine (H4.out _).mono ?_; rintro e w' ⟨rfl, hw'⟩; obtain rfl := hw'.symm; clear hw'))
  obtain ⟨⟨p0, p1⟩, ⟨q0, q1⟩, r0, r1, r2, r3, r4, r5, r6⟩ := HK.out w1 HB1.out
  replace p0 := cell_g p0; replace p1 := cell_g p1; replace q0 := cell_g q0; replace q1 := cell_g q1
  replace r0 := cell_g r0; replace r1 := cell_g r1; replace r2 := cell_g r2; replace r3 := cell_g r3; replace r4 := cell_g r4; replace r5 := cell_g r5; replace r6 := cell_g r6
  go_quiet_grown (first
    | (go_at_call 15; exact Calls.grown_of (H5.out _))
    | (go_at_call 16; exact Calls.grown_of (H6.out _))
    | (go_at_call 17; exact Calls.grown_of (H7.out _))
    | (go_at_call 18; exact Calls.grown_of (H8.out _)))
  go_wp2
  go_ret
  exact ⟨by first | rfl | simp, HFIN.out _ (HB1.out.trans ((Gw.below ⟨_, _, rfl⟩).mono HB1.out.size))⟩
end Go.Proofs.Ytfagmcgcdlboiaa
