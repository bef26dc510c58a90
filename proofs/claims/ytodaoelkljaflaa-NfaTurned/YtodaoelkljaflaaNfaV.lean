/- The walk of Reverse. -/
import Derived.Test.YtodaoelkljaflaaNfaU
namespace Go.Proofs.Ytodaoelkljaflaa
open Go.RowKit
set_option linter.unusedVariables false
set_option linter.unusedSimpArgs false

theorem new_at3 (w : World) (o1 o2 o3 : Obj) : ((w.alloc o1).alloc o2 |>.alloc o3).heap[w.heap.size]? = some o1 ∧ ((w.alloc o1).alloc o2 |>.alloc o3).heap[w.heap.size + 1]? = some o2 ∧ ((w.alloc o1).alloc o2 |>.alloc o3).heap[w.heap.size + 2]? = some o3 := by
  have b3 := (Below.refl _ ((w.alloc o1).alloc o2)).alloc (Nat.le_refl _) o3
  have b2 := (Below.refl _ (w.alloc o1)).alloc (Nat.le_refl _) o2
  refine ⟨(b3.block _ (by simp; omega)).trans ((b2.block _ (by simp)).trans (heap_alloc_new w o1)), (b3.block _ (by simp)).trans (new_at2 w o1 o2), ?_⟩
  have := heap_alloc_new ((w.alloc o1).alloc o2) o3
  rw [show ((w.alloc o1).alloc o2).heap.size = w.heap.size + 2 by simp] at this
  exact this
set_option maxHeartbeats 4000000 in
theorem rev_any (D : Nat) (n : Nd) (ca pa : Option Addr) (cc pc : Nat) (w : World) (hin : InV w.heap.size w D n [.int .i64 n.op, .slice ca n.cl.length cc, .slice pa (toL n.kids).length pc]) (hok : n.ok = true) :
    Calls Try.prog 17 #[.agg #[.int .i64 n.op, .slice ca n.cl.length cc, .slice pa (toL n.kids).length pc]] w (TuPost 32 n w) := by
  have hk := hok
  unfold Nd.ok at hk
  simp only [Bool.and_eq_true, decide_eq_true_eq] at hk
  obtain ⟨hk1, hk2⟩ := hk
  have hwd := wds_le 32 n hk1
  obtain ⟨op, hop⟩ : ∃ op, op = n.op := ⟨_, rfl⟩
  obtain ⟨cn, hcn⟩ : ∃ cn, cn = n.cl.length := ⟨_, rfl⟩
  obtain ⟨K, hK⟩ : ∃ K, K = (toL n.kids).length := ⟨_, rfl⟩
  obtain ⟨W0, hW0⟩ : ∃ W0, W0 = ((w.alloc (.cells #[.int .i64 op, .slice ca cn cc, .slice pa K pc] 25)).alloc (.cells #[.int .i64 0, .slice none 0 0, .slice none 0 0] 25)).alloc (.cells #[.int .i64 268435456] 3) := ⟨_, rfl⟩
  obtain ⟨H, hH⟩ : ∃ H, H = w.heap.size := ⟨_, rfl⟩
  have HB0 : Hid (Below w.heap.size w W0) := by rw [hW0]; exact (((Below.refl _ w).alloc (Nat.le_refl _) _).alloc (by simp) _).alloc (by simp; omega) _
  obtain ⟨b1, b2, b3⟩ := new_at3 w (.cells #[.int .i64 op, .slice ca cn cc, .slice pa K pc] 25) (.cells #[.int .i64 0, .slice none 0 0, .slice none 0 0] 25) (.cells #[.int .i64 268435456] 3)
  rw [← hW0, ← hH] at b1 b2 b3
  have HX : Hid (W0.heap[H]? = some (.cells #[.int .i64 op, .slice ca cn cc, .slice pa K pc] 25) ∧ W0.heap[H + 1]? = some (.cells #[.int .i64 0, .slice none 0 0, .slice none 0 0] 25) ∧ H = w.heap.size) := ⟨b1, b2, hH⟩
  have HC : Hid (Calls Try.prog 31 #[.agg #[.int .i64 op, .slice ca cn cc, .slice pa K pc], .int .i64 131072, .pointer (some ⟨H + 2, 0, none⟩)] W0 (BdPost n 268435456 (H + 2) W0)) := by
    rw [hop, hcn, hK]
    exact bd_any 32 D n ca pa cc pc 268435456 (H + 2) 131072 w W0 hin HB0.out (by omega) b3 hk1 (by omega) (by omega) (by omega) (by omega)
  have HT : Hid (∀ V : World, Below w.heap.size w V → Calls Try.prog 32 #[.agg #[.int .i64 op, .slice ca cn cc, .slice pa K pc]] V (TuPost 32 n V)) := fun V hV => by
    rw [hop, hcn, hK]
    exact tu_any 32 D n _ ca pa _ cc _ pc V ((hin.later hV D).base hV.size D) hk1 hk2
  have e0 : W0.cell? ⟨H, 0, none⟩ = some (.int .i64 op) := cell_of_row W0 H 0 _ _ _ b1
  have e1 : W0.cell? ⟨H, 1, none⟩ = some (.slice ca cn cc) := cell_of_row W0 H 1 _ _ _ b1
  have e2 : W0.cell? ⟨H, 2, none⟩ = some (.slice pa K pc) := cell_of_row W0 H 2 _ _ _ b1
  rw [← hop, ← hcn, ← hK]
  clear hin hok hk1 hk2 hwd hop hcn hK b1 b2 b3
  go_enter Try.func17, Try.ntmps17
  go_upto_region 2 with fail
  rw [← hH, ← hW0]
  clear hH hW0
  go_wp2_with fail
  refine HC.out.mono ?_
  rintro e w1 ⟨c', rfl, hg, _, _⟩
  have HB1 : Hid (Below w.heap.size w w1) := HB0.out.grown hg HB0.out.size (fun k hk => by cases hk; have := HX.out.2.2; omega)
  have HX1 : Hid (w1.heap[H]? = some (.cells #[.int .i64 op, .slice ca cn cc, .slice pa K pc] 25) ∧ w1.heap[H + 1]? = some (.cells #[.int .i64 0, .slice none 0 0, .slice none 0 0] 25)) :=
    ⟨(hg.block H (Array.getElem?_eq_some_iff.1 HX.out.1).1 (fun e => by simp at e)).trans HX.out.1, (hg.block (H + 1) (Array.getElem?_eq_some_iff.1 HX.out.2.1).1 (fun e => by simp at e)).trans HX.out.2.1⟩
  have f0 : w1.cell? ⟨H, 0, none⟩ = some (.int .i64 op) := cell_of_row w1 H 0 _ _ _ HX1.out.1
  have f1 : w1.cell? ⟨H, 1, none⟩ = some (.slice ca cn cc) := cell_of_row w1 H 1 _ _ _ HX1.out.1
  have f2 : w1.cell? ⟨H, 2, none⟩ = some (.slice pa K pc) := cell_of_row w1 H 2 _ _ _ HX1.out.1
  clear hg e0 e1 e2 HC
  go_wp2_with fail
  refine (HT.out w1 HB1.out).mono ?_
  rintro e w2 ⟨⟨yo, ya, yn, yc, yp, yk, yd⟩, rfl, hnw, hb2⟩
  have hx2 : w2.heap[H + 1]? = some (.cells #[.int .i64 0, .slice none 0 0, .slice none 0 0] 25) := (hb2.block (H + 1) (Array.getElem?_eq_some_iff.1 HX1.out.2).1).trans HX1.out.2
  obtain ⟨q1, q2, q3, q4, q5, q6⟩ := tz_cells hx2
  have HFN : Hid (TuPost 32 n w (.returned (.agg #[.int .i64 yo, .slice ya yn yc, .slice yp yk yd])) (F3 w2 (H + 1) 0 ⟨yo, ya, yn, yc, yp, yk, yd⟩)) := by
    have hl : H + 1 < w1.heap.size := (Array.getElem?_eq_some_iff.1 HX1.out.2).1
    have hh := HX.out.2.2
    refine ⟨⟨yo, ya, yn, yc, yp, yk, yd⟩, rfl, (hnw.grown (f3_grown w2 (H + 1) 0 _) (fun g hg => by cases hg; exact hl) 32).mono HB1.out.size 32, f3_below (HB1.out.trans (hb2.mono HB1.out.size)) (Nat.le_refl _) (by omega) 0 _⟩
  clear hnw hb2 hx2 f0 f1 f2
  go_wp2
  refine bodyPost_ret (v := .agg #[.int .i64 yo, .slice ya yn yc, .slice yp yk yd]) ?_ rfl HFN.out
  rw [results_cell_one rfl]
  go_simp
end Go.Proofs.Ytodaoelkljaflaa
