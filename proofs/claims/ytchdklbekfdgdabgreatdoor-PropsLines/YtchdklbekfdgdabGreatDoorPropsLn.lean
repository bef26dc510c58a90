/- The walk of Line at an error that is wrapped any number of times. -/
import Derived.Test.YtchdklbekfdgdabGreatDoorPropsAw
namespace Go.Proofs.YtchdklbekfdgdabGreatDoor
open Go.RowKit Go.Sort
set_option linter.unusedVariables false

theorem below_hitG (w : World) (o : Obj) (os : Array Obj) (v : Value) : RowKit.Below w.heap.size w ((grow (w.alloc o) os).setCell ⟨w.heap.size, 0, none⟩ v) :=
  RowKit.Below.setCell (p := ⟨w.heap.size, 0, none⟩) (((RowKit.Below.refl _ w).alloc (Nat.le_refl _) o).trans ((below_grow (w.alloc o) 0 os).mono (by simp))) (Nat.le_refl _) v
theorem below_missG (w : World) (o : Obj) (os : Array Obj) : RowKit.Below w.heap.size w (grow (w.alloc o) os) :=
  ((RowKit.Below.refl _ w).alloc (Nat.le_refl _) o).trans ((below_grow (w.alloc o) 0 os).mono (by simp))
theorem heap_hitG (w : World) (c : Value) (ty : TypeId) (os : Array Obj) (v : Value) : ((grow (w.alloc (.cells #[c] ty)) os).setCell ⟨w.heap.size, 0, none⟩ v).heap[w.heap.size]? = some (.cells #[v] ty) := by
  refine (heap_setCell _ _ 0 v #[c] ty (0, 0) ?_).trans (by simp)
  exact ((below_grow (w.alloc (.cells #[c] ty)) 0 os).block _ (by simp)).trans (heap_alloc_new w _)

set_option maxHeartbeats 1000000 in
theorem errno_wr (en : Int) (E : Value) (n : Nat) (w : World) (hg : Gl w) (hw : Wr (.iface 24 (.int .i64 en)) E n) :
    Calls Tryz.prog 18 #[E] w fun e w' => e = .returned (.int .i64 en) ∧ RowKit.Below w.heap.size w w' := by
  obtain ⟨wa, hwa⟩ : ∃ wa, wa = w.alloc (.cells #[.int .i64 0] 24) := ⟨_, rfl⟩
  have hb0 : RowKit.Below w.heap.size w wa := by rw [hwa]; exact (RowKit.Below.refl _ w).alloc (Nat.le_refl _) _
  have HC : Hid (Calls Tryz.prog 17 #[E, .iface 93 (.pointer (some ⟨w.heap.size, 0, none⟩))] wa fun e w' => e = .returned (.bool true) ∧ RowKit.Below w.heap.size w w' ∧ w'.cell? ⟨w.heap.size, 0, none⟩ = some (.int .i64 en)) := by
    have hbl : wa.heap[w.heap.size]? = some (.cells #[.int .i64 0] 24) := by rw [hwa]; exact heap_alloc_new w _
    refine (As_EE en E n ⟨w.heap.size, 0, none⟩ wa (hg.later hb0) (.int .i64 0) (cell_of_row wa _ 0 _ _ _ hbl) (Lib.frozen_of_heap hbl 0) hw).mono ?_
    rintro e w' ⟨rfl, os, rfl⟩
    rw [hwa]
    exact ⟨rfl, below_hitG _ _ _ _, cell_of_row _ _ 0 _ _ _ (heap_hitG _ _ _ _ _)⟩
  rw [hwa] at HC
  clear hwa hb0 hg hw
  go_enter Tryz.func18, Tryz.ntmps18
  go_wp2_with fail
  refine HC.out.mono ?_
  rintro e w' ⟨rfl, hb, hc⟩
  have HB : Hid (RowKit.Below w.heap.size w w') := hb
  clear hb
  go_wp2
  go_ret
  exact ⟨rfl, HB.out⟩

set_option maxHeartbeats 2000000 in
theorem line_alone (en : Int) (E : Value) (n : Nat) (w : World) (hg : Gl w) (hw : Wr (.iface 24 (.int .i64 en)) E n) :
    Calls Tryz.prog 11 #[E] w fun e w' => e = .returned (.tuple #[.int .i64 0, .int .i64 en]) ∧ RowKit.Below w.heap.size w w' := by
  obtain ⟨wa, hwa⟩ : ∃ wa, wa = w.alloc (.cells #[.pointer none] 23) := ⟨_, rfl⟩
  have hb0 : RowKit.Below w.heap.size w wa := by rw [hwa]; exact (RowKit.Below.refl _ w).alloc (Nat.le_refl _) _
  have HC : Hid (Calls Tryz.prog 17 #[E, .iface 53 (.pointer (some ⟨w.heap.size, 0, none⟩))] wa fun e w' => e = .returned (.bool false) ∧ RowKit.Below w.heap.size w w' ∧ w'.cell? ⟨w.heap.size, 0, none⟩ = some (.pointer none)) := by
    have hbl : wa.heap[w.heap.size]? = some (.cells #[.pointer none] 23) := by rw [hwa]; exact heap_alloc_new w _
    refine (As_EF en E n ⟨w.heap.size, 0, none⟩ wa (hg.later hb0) hw).mono ?_
    rintro e w' ⟨rfl, os, rfl⟩
    refine ⟨rfl, ?_, cell_g (cell_of_row wa _ 0 _ _ _ hbl) 0 os⟩
    rw [hwa]
    exact below_missG _ _ _
  rw [hwa] at HC
  have HE : Hid (∀ W, RowKit.Below w.heap.size w W → Calls Tryz.prog 18 #[E] W fun e w' => e = .returned (.int .i64 en) ∧ RowKit.Below w.heap.size w w') := by
    intro W hW
    refine (errno_wr en E n W (hg.later hW) hw).mono ?_
    rintro e w' ⟨rfl, hb⟩
    exact ⟨rfl, hW.trans (hb.mono hW.size)⟩
  clear hwa hb0 hg hw
  go_enter Tryz.func11, Tryz.ntmps11
  go_wp2_with fail
  refine HC.out.mono ?_
  rintro e w1 ⟨rfl, hb, hc⟩
  have HB : Hid (RowKit.Below w.heap.size w w1) := hb
  clear hb
  go_wp2_with fail
  refine (HE.out w1 HB.out).mono ?_
  rintro e w2 ⟨rfl, hb2⟩
  have HB2 : Hid (RowKit.Below w.heap.size w w2) := hb2
  clear hb2
  go_wp2
  go_ret2
  exact ⟨rfl, HB2.out⟩

set_option maxHeartbeats 2000000 in
theorem line_wr (q ln : Nat) (en : Int) (E : Value) (n : Nat) (w : World) (hg : Gl w) (hq : w.heap[q]? = some (.cells #[.int .i64 ln, .iface 24 (.int .i64 en)] 28)) (hw : Wr (.iface 23 (.pointer (some ⟨q, 0, none⟩))) E n) :
    Calls Tryz.prog 11 #[E] w fun e w' => e = .returned (.tuple #[.int .i64 ln, .int .i64 en]) ∧ RowKit.Below w.heap.size w w' := by
  obtain ⟨wa, hwa⟩ : ∃ wa, wa = w.alloc (.cells #[.pointer none] 23) := ⟨_, rfl⟩
  have hb0 : RowKit.Below w.heap.size w wa := by rw [hwa]; exact (RowKit.Below.refl _ w).alloc (Nat.le_refl _) _
  have HC : Hid (Calls Tryz.prog 17 #[E, .iface 53 (.pointer (some ⟨w.heap.size, 0, none⟩))] wa fun e w' => e = .returned (.bool true) ∧ RowKit.Below w.heap.size w w' ∧ w'.cell? ⟨w.heap.size, 0, none⟩ = some (.pointer (some ⟨q, 0, none⟩))) := by
    have hbl : wa.heap[w.heap.size]? = some (.cells #[.pointer none] 23) := by rw [hwa]; exact heap_alloc_new w _
    refine (As_FF q E n ⟨w.heap.size, 0, none⟩ wa (hg.later hb0) (.pointer none) (cell_of_row wa _ 0 _ _ _ hbl) (Lib.frozen_of_heap hbl 0) hw).mono ?_
    rintro e w' ⟨rfl, os, rfl⟩
    rw [hwa]
    exact ⟨rfl, below_hitG _ _ _ _, cell_of_row _ _ 0 _ _ _ (heap_hitG _ _ _ _ _)⟩
  rw [hwa] at HC
  have HG : Hid (Gl w) := hg
  have HQ : Hid (w.heap[q]? = some (.cells #[.int .i64 ln, .iface 24 (.int .i64 en)] 28)) := hq
  clear hwa hb0 hg hq hw
  go_enter Tryz.func11, Tryz.ntmps11
  go_wp2_with fail
  refine HC.out.mono ?_
  rintro e w1 ⟨rfl, hb, hc⟩
  have HB : Hid (RowKit.Below w.heap.size w w1) := hb
  have hq1 : w1.heap[q]? = some (.cells #[.int .i64 ln, .iface 24 (.int .i64 en)] 28) := by rw [hb.block q (Array.getElem?_eq_some_iff.1 HQ.out).1]; exact HQ.out
  have hl1 : w1.cell? ⟨q, 0, none⟩ = some (.int .i64 ln) := cell_of_row w1 q 0 _ _ _ hq1
  have HEN : Hid (∀ W : World, RowKit.Below w1.heap.size w1 W → Calls Tryz.prog 18 #[.iface 23 (.pointer (some ⟨q, 0, none⟩))] W fun e w' => e = .returned (.int .i64 en) ∧ RowKit.Below w.heap.size w w' ∧ RowKit.Below w1.heap.size w1 w') := by
    intro W hW
    refine (errno_fault q ln en W ((HG.out.later HB.out).later hW) (by rw [hW.block q (Array.getElem?_eq_some_iff.1 hq1).1]; exact hq1)).mono ?_
    rintro e w' ⟨he, hb'⟩
    exact ⟨he, (HB.out.trans (hW.mono HB.out.size)).trans (hb'.mono (Nat.le_trans HB.out.size hW.size)), hW.trans (hb'.mono hW.size)⟩
  have HDR : Hid (RowKit.Below w1.heap.size w1 w1.drew) := (RowKit.Below.refl _ w1).drew
  have HLAT : Hid (∀ w2 : World, RowKit.Below w1.heap.size w1 w2 → w2.cell? ⟨w.heap.size, 0, none⟩ = some (.pointer (some ⟨q, 0, none⟩)) ∧ w2.cell? ⟨q, 0, none⟩ = some (.int .i64 ln)) := by
    intro w2 h2
    exact ⟨(h2.cell (p := ⟨w.heap.size, 0, none⟩) (World.block_lt_of_cell? w1 _ hc)).trans hc, (h2.cell (p := ⟨q, 0, none⟩) (World.block_lt_of_cell? w1 _ hl1)).trans hl1⟩
  clear hb hq1
  go_upto_region 3 with fail
  go_region_with (go_at_call 18; refine (HEN.out _ HDR.out).mono ?_; rintro e w2 ⟨rfl, hb2, hb3⟩; have hz := HLAT.out w2 hb3; have HB2 : Hid (RowKit.Below w.heap.size w w2) := hb2; have hz1 := hz.1; have hz2 := hz.2; clear hb2 hb3 hz)
  all_goals
    go_wp2
    go_ret2
    exact ⟨rfl, HB2.out⟩
end Go.Proofs.YtchdklbekfdgdabGreatDoor
