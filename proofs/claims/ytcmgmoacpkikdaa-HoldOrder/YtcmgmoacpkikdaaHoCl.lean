/- The walks of the statements' closures, and what they answer. -/
import Derived.Test.YtcmgmoacpkikdaaHoK
import Derived.Test.YtcmgmoacpkikdaaHoN
namespace Go.Proofs.Ytcmgmoacpkikdaa
open Go.RowKit Go.Sort
set_option linter.unusedVariables false
set_option linter.unusedSimpArgs false

/-- A number's box. -/
abbrev bxI (v : Int) : Obj := .cells #[.int .i64 v] 3 (0, 0)
theorem cl_no (o : Opn) (W : World) : Calls Try.prog 31 #[o.val] W fun e w' => e = .returned (.bool false) ∧ Below W.heap.size W w' := by
  have HB : Hid (∀ x : Obj, Below W.heap.size W (W.alloc x)) := fun x => (Below.refl _ W).alloc (Nat.le_refl _) x
  obtain ⟨oc, oa, os, oi, orc, ora, och⟩ := o
  simp only [Opn.val]
  go_enter Try.func31, Try.ntmps31
  go_wp2
  go_ret
  exact ⟨rfl, HB.out _⟩
theorem ask_no (w : World) : Ask 31 #[] (fun _ => false) w :=
  ⟨fun x W => enter_of Try.func31 (by kernel_rfl) (by kernel_rfl) x W, fun o W _ => cl_no o W⟩
set_option maxHeartbeats 1000000 in
theorem cl_is (N : Nat) (v : Int) (o : Opn) (W : World) (hN : W.heap[N]? = some (bxI v)) : Calls Try.prog 32 #[o.val, .pointer (some ⟨N, 0, none⟩)] W fun e w' => e = .returned (.bool (o.a == v)) ∧ Below W.heap.size W w' := by
  obtain ⟨W0, hW0⟩ : ∃ W0, W0 = W.alloc (bxP o) := ⟨_, rfl⟩
  obtain ⟨M, hM⟩ : ∃ M, M = W.heap.size := ⟨_, rfl⟩
  have hb0 : Below W.heap.size W W0 := by rw [hW0]; exact (Below.refl _ W).alloc (Nat.le_refl _) _
  have hbx : W0.heap[M]? = some (bxP o) := by rw [hW0, hM]; exact heap_alloc_new W _
  have hs : W0.cell? ⟨N, 0, none⟩ = some (.int .i64 v) := cell_of_row W0 N 0 _ _ _ (bel_heap hb0 hN)
  obtain ⟨q0, q1, q2, q3, q4, q5, q6⟩ := opAt_box hbx
  have HB : Hid (Below W.heap.size W W0) := hb0
  clear hN hbx hb0
  obtain ⟨oc, oa, os, oi, orc, ora, och⟩ := o
  simp only [Opn.val] at q0 q1 q2 q3 q4 q5 q6 ⊢
  go_enter Try.func32, Try.ntmps32
  go_upto_region 1 with fail
  rw [← hM, ← hW0]
  clear hM hW0
  go_wp2
  go_ret
  exact ⟨rfl, HB.out⟩
theorem ask_is (N : Nat) (v : Int) (w : World) (hN : w.heap[N]? = some (bxI v)) : Ask 32 #[.pointer (some ⟨N, 0, none⟩)] (fun o => o.a == v) w :=
  ⟨fun x W => enter_of Try.func32 (by kernel_rfl) (by kernel_rfl) x W, fun o W hW => cl_is N v o W (bel_heap hW hN)⟩
set_option maxHeartbeats 1000000 in
theorem cl_bit (N : Nat) (v : Int) (o : Opn) (W : World) (hN : W.heap[N]? = some (bxI v)) : Calls Try.prog 28 #[o.val, .pointer (some ⟨N, 0, none⟩)] W fun e w' => e = .returned (.bool (bits .and .i64 o.s v != 0)) ∧ Below W.heap.size W w' := by
  obtain ⟨W0, hW0⟩ : ∃ W0, W0 = W.alloc (bxP o) := ⟨_, rfl⟩
  obtain ⟨M, hM⟩ : ∃ M, M = W.heap.size := ⟨_, rfl⟩
  have hb0 : Below W.heap.size W W0 := by rw [hW0]; exact (Below.refl _ W).alloc (Nat.le_refl _) _
  have hbx : W0.heap[M]? = some (bxP o) := by rw [hW0, hM]; exact heap_alloc_new W _
  have hs : W0.cell? ⟨N, 0, none⟩ = some (.int .i64 v) := cell_of_row W0 N 0 _ _ _ (bel_heap hb0 hN)
  obtain ⟨q0, q1, q2, q3, q4, q5, q6⟩ := opAt_box hbx
  have HB : Hid (Below W.heap.size W W0) := hb0
  clear hN hbx hb0
  obtain ⟨oc, oa, os, oi, orc, ora, och⟩ := o
  simp only [Opn.val] at q0 q1 q2 q3 q4 q5 q6 ⊢
  go_enter Try.func28, Try.ntmps28
  go_upto_region 1 with fail
  rw [← hM, ← hW0]
  clear hM hW0
  go_wp2
  go_ret
  exact ⟨rfl, HB.out⟩
theorem ask_bit (N : Nat) (v : Int) (w : World) (hN : w.heap[N]? = some (bxI v)) : Ask 28 #[.pointer (some ⟨N, 0, none⟩)] (fun o => bits .and .i64 o.s v != 0) w :=
  ⟨fun x W => enter_of Try.func28 (by kernel_rfl) (by kernel_rfl) x W, fun o W hW => cl_bit N v o W (bel_heap hW hN)⟩
set_option maxHeartbeats 1000000 in
theorem cl_le (N : Nat) (v : Int) (o : Opn) (W : World) (hN : W.heap[N]? = some (bxI v)) : Calls Try.prog 29 #[o.val, .pointer (some ⟨N, 0, none⟩)] W fun e w' => e = .returned (.bool (decide (o.a ≤ v))) ∧ Below W.heap.size W w' := by
  obtain ⟨W0, hW0⟩ : ∃ W0, W0 = W.alloc (bxP o) := ⟨_, rfl⟩
  obtain ⟨M, hM⟩ : ∃ M, M = W.heap.size := ⟨_, rfl⟩
  have hb0 : Below W.heap.size W W0 := by rw [hW0]; exact (Below.refl _ W).alloc (Nat.le_refl _) _
  have hbx : W0.heap[M]? = some (bxP o) := by rw [hW0, hM]; exact heap_alloc_new W _
  have hs : W0.cell? ⟨N, 0, none⟩ = some (.int .i64 v) := cell_of_row W0 N 0 _ _ _ (bel_heap hb0 hN)
  obtain ⟨q0, q1, q2, q3, q4, q5, q6⟩ := opAt_box hbx
  have HB : Hid (Below W.heap.size W W0) := hb0
  clear hN hbx hb0
  obtain ⟨oc, oa, os, oi, orc, ora, och⟩ := o
  simp only [Opn.val] at q0 q1 q2 q3 q4 q5 q6 ⊢
  go_enter Try.func29, Try.ntmps29
  go_upto_region 1 with fail
  rw [← hM, ← hW0]
  clear hM hW0
  go_wp2
  go_ret
  exact ⟨rfl, HB.out⟩
theorem ask_le (N : Nat) (v : Int) (w : World) (hN : w.heap[N]? = some (bxI v)) : Ask 29 #[.pointer (some ⟨N, 0, none⟩)] (fun o => decide (o.a ≤ v)) w :=
  ⟨fun x W => enter_of Try.func29 (by kernel_rfl) (by kernel_rfl) x W, fun o W hW => cl_le N v o W (bel_heap hW hN)⟩
end Go.Proofs.Ytcmgmoacpkikdaa
