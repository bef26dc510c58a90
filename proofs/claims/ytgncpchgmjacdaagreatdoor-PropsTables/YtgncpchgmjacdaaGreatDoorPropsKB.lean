/- The walks of errno and Line: the line of the *Fault that an error wraps, and the Errno in it. -/
import Derived.Test.YtgncpchgmjacdaaGreatDoorPropsKA
namespace Go.Proofs.YtgncpchgmjacdaaGreatDoor
open Go.RowKit
set_option linter.unusedVariables false

theorem below_hit {w : World} (o1 o2 o3 o4 o5 : Obj) (v : Value) : Below w.heap.size w ((((((w.alloc o1).alloc o2).alloc o3).alloc o4).alloc o5).setCell ⟨w.heap.size, 0, none⟩ v) :=
  ((((((Below.refl _ w).alloc (Nat.le_refl _) o1).alloc (by simp) o2).alloc (by simp; omega) o3).alloc (by simp; omega) o4).alloc (by simp; omega) o5).setCell (p := ⟨w.heap.size, 0, none⟩) (Nat.le_refl _) v
theorem heap_hit {w : World} (c : Value) (ty : TypeId) (o2 o3 o4 o5 : Obj) (v : Value) : ((((((w.alloc (.cells #[c] ty)).alloc o2).alloc o3).alloc o4).alloc o5).setCell ⟨w.heap.size, 0, none⟩ v).heap[w.heap.size]? = some (.cells #[v] ty) := by
  refine (heap_setCell _ _ 0 v #[c] ty (0, 0) ?_).trans (by simp)
  rw [Below.heap_alloc _ _ _ (by simp; omega), Below.heap_alloc _ _ _ (by simp; omega), Below.heap_alloc _ _ _ (by simp; omega), Below.heap_alloc _ _ _ (by simp)]
  exact heap_alloc_new w _

set_option maxHeartbeats 1000000 in
theorem errno_nil (w : World) : Calls Tryz.prog 46 #[.nilIface] w fun e w' => e = .returned (.int .i64 0) ∧ Below w.heap.size w w' := by
  have HB0 : Hid (∀ o : Obj, Below w.heap.size w (w.alloc o)) := fun o => (Below.refl _ w).alloc (Nat.le_refl _) o
  go_enter Tryz.func46, Tryz.ntmps46
  go_wp2_with fail
  refine (as_nil _ _).mono ?_
  rintro e w' ⟨rfl, rfl⟩
  go_wp2
  go_ret
  exact ⟨rfl, HB0.out _⟩

set_option maxHeartbeats 1000000 in
theorem errno_fault (q : Nat) (ln en : Int) (w : World) (hg : Gl w) (hq : w.heap[q]? = some (.cells #[.int .i64 ln, .iface 28 (.int .i64 en)] 85)) :
    Calls Tryz.prog 46 #[.iface 83 (.pointer (some ⟨q, 0, none⟩))] w fun e w' => e = .returned (.int .i64 en) ∧ Below w.heap.size w w' := by
  obtain ⟨wa, hwa⟩ : ∃ wa, wa = w.alloc (.cells #[.int .i64 0] 28) := ⟨_, rfl⟩
  have hb0 : Below w.heap.size w wa := by rw [hwa]; exact (Below.refl _ w).alloc (Nat.le_refl _) _
  have HC : Hid (Calls Tryz.prog 45 #[.iface 83 (.pointer (some ⟨q, 0, none⟩)), .iface 140 (.pointer (some ⟨w.heap.size, 0, none⟩))] wa fun e w' => e = .returned (.bool true) ∧ Below w.heap.size w w' ∧ w'.cell? ⟨w.heap.size, 0, none⟩ = some (.int .i64 en)) := by
    have hbl : wa.heap[w.heap.size]? = some (.cells #[.int .i64 0] 28) := by rw [hwa]; exact heap_alloc_new w _
    refine (as_E q ln en ⟨w.heap.size, 0, none⟩ (.int .i64 0) wa (hg.later hb0) (by rw [hb0.block q (Array.getElem?_eq_some_iff.1 hq).1]; exact hq) (cell_of_row wa _ 0 _ _ _ hbl) (Lib.frozen_of_heap hbl 0)).mono ?_
    rintro e w' ⟨rfl, rfl⟩
    rw [hwa]
    exact ⟨rfl, below_hit _ _ _ _ _ _, cell_of_row _ _ 0 _ _ _ (heap_hit _ _ _ _ _ _ _)⟩
  rw [hwa] at HC
  clear hwa hb0 hg hq
  go_enter Tryz.func46, Tryz.ntmps46
  go_wp2_with fail
  refine HC.out.mono ?_
  rintro e w' ⟨rfl, hb, hc⟩
  have HB : Hid (Below w.heap.size w w') := hb
  clear hb
  go_wp2
  go_ret
  exact ⟨rfl, HB.out⟩

set_option maxHeartbeats 1000000 in
theorem line_nil (w : World) : Calls Tryz.prog 16 #[.nilIface] w fun e w' => e = .returned (.tuple #[.int .i64 0, .int .i64 0]) ∧ Below w.heap.size w w' := by
  have HB0 : Hid (∀ (o : Obj) (w' : World), Below (w.alloc o).heap.size (w.alloc o) w' → Below w.heap.size w w') := fun o w' h => ((Below.refl _ w).alloc (Nat.le_refl _) o).trans (h.mono (by simp))
  go_enter Tryz.func16, Tryz.ntmps16
  go_wp2_with fail
  refine (as_nil _ _).mono ?_
  rintro e w' ⟨rfl, rfl⟩
  go_wp2_with fail
  refine (errno_nil _).mono ?_
  rintro e w' ⟨rfl, hb⟩
  have HB := HB0.out _ _ hb
  have HBB : Hid _ := HB
  clear hb HB
  go_wp2
  go_ret2
  exact ⟨rfl, HBB.out⟩

set_option maxHeartbeats 2000000 in
theorem line_err (ev : Value) (ln : Nat) (en : Int) (w : World) (hg : Gl w) (he : ErrAt w ev ln en) :
    Calls Tryz.prog 16 #[ev] w fun e w' => e = .returned (.tuple #[.int .i64 ln, .int .i64 en]) ∧ Below w.heap.size w w' := by
  obtain ⟨p, q, rfl, hp, hq⟩ := he
  obtain ⟨wa, hwa⟩ : ∃ wa, wa = w.alloc (.cells #[.pointer none] 83) := ⟨_, rfl⟩
  have hb0 : Below w.heap.size w wa := by rw [hwa]; exact (Below.refl _ w).alloc (Nat.le_refl _) _
  have HC : Hid (Calls Tryz.prog 45 #[.iface 82 (.pointer (some ⟨p, 0, none⟩)), .iface 93 (.pointer (some ⟨w.heap.size, 0, none⟩))] wa fun e w' => e = .returned (.bool true) ∧ Below w.heap.size w w' ∧ w'.cell? ⟨w.heap.size, 0, none⟩ = some (.pointer (some ⟨q, 0, none⟩))) := by
    have hbl : wa.heap[w.heap.size]? = some (.cells #[.pointer none] 83) := by rw [hwa]; exact heap_alloc_new w _
    refine (as_F p q ⟨w.heap.size, 0, none⟩ (.pointer none) wa (hg.later hb0) (by rw [hb0.block p (Array.getElem?_eq_some_iff.1 hp).1]; exact hp) (cell_of_row wa _ 0 _ _ _ hbl) (Lib.frozen_of_heap hbl 0)).mono ?_
    rintro e w' ⟨rfl, rfl⟩
    rw [hwa]
    exact ⟨rfl, below_hit _ _ _ _ _ _, cell_of_row _ _ 0 _ _ _ (heap_hit _ _ _ _ _ _ _)⟩
  rw [hwa] at HC
  have HG : Hid (Gl w) := hg
  have HQ : Hid (w.heap[q]? = some (.cells #[.int .i64 ln, .iface 28 (.int .i64 en)] 85)) := hq
  clear hwa hb0 hg hp hq
  go_enter Tryz.func16, Tryz.ntmps16
  go_wp2_with fail
  refine HC.out.mono ?_
  rintro e w1 ⟨rfl, hb, hc⟩
  have HB : Hid (Below w.heap.size w w1) := hb
  have hq1 : w1.heap[q]? = some (.cells #[.int .i64 ln, .iface 28 (.int .i64 en)] 85) := by rw [hb.block q (Array.getElem?_eq_some_iff.1 HQ.out).1]; exact HQ.out
  have hl1 : w1.cell? ⟨q, 0, none⟩ = some (.int .i64 ln) := cell_of_row w1 q 0 _ _ _ hq1
  have HEN : Hid (∀ W : World, Below w1.heap.size w1 W → Calls Tryz.prog 46 #[.iface 83 (.pointer (some ⟨q, 0, none⟩))] W fun e w' => e = .returned (.int .i64 en) ∧ Below w.heap.size w w' ∧ Below w1.heap.size w1 w') := by
    intro W hW
    refine (errno_fault q ln en W ((HG.out.later HB.out).later hW) (by rw [hW.block q (Array.getElem?_eq_some_iff.1 hq1).1]; exact hq1)).mono ?_
    rintro e w' ⟨he, hb'⟩
    exact ⟨he, (HB.out.trans (hW.mono HB.out.size)).trans (hb'.mono (Nat.le_trans HB.out.size hW.size)), hW.trans (hb'.mono hW.size)⟩
  have HDR : Hid (Below w1.heap.size w1 w1.drew) := (Below.refl _ w1).drew
  have HLAT : Hid (∀ w2 : World, Below w1.heap.size w1 w2 → w2.cell? ⟨w.heap.size, 0, none⟩ = some (.pointer (some ⟨q, 0, none⟩)) ∧ w2.cell? ⟨q, 0, none⟩ = some (.int .i64 ln)) := by
    intro w2 h2
    exact ⟨(h2.cell (p := ⟨w.heap.size, 0, none⟩) (World.block_lt_of_cell? w1 _ hc)).trans hc, (h2.cell (p := ⟨q, 0, none⟩) (World.block_lt_of_cell? w1 _ hl1)).trans hl1⟩
  clear hb hq1
  go_upto_region 3 with fail
  go_region_with (go_at_call 46; refine (HEN.out _ HDR.out).mono ?_; rintro e w2 ⟨rfl, hb2, hb3⟩; have hz := HLAT.out w2 hb3; have HB2 : Hid (Below w.heap.size w w2) := hb2; have hz1 := hz.1; have hz2 := hz.2; clear hb2 hb3 hz)
  all_goals
    go_wp2
    go_ret2
    exact ⟨rfl, HB2.out⟩
end Go.Proofs.YtgncpchgmjacdaaGreatDoor
