/- In one text: DfaPm, DfaV, DfaFa, DfaFb, DfaFc, DfaNa, DfaNb, DfaNc, DfaPo, DfaPn. -/
import Derived.Test.YtcafffohnokjgaaDoorJ11
import Derived.Maps.OwnSet
import Derived.Maps.Own
import Derived.Maps.OwnOps
import Derived.Laws.StructEq
import Derived.ChangeKeysEq
import Derived.Deep.CutBlock
/- The walk of planOf. -/
namespace Go.Proofs.YtcafffohnokjgaaDoor
open Go.RowKit Go.Shelf
set_option linter.unusedVariables false
set_option linter.unusedSimpArgs false

def isZ : Option Value → Bool
 | some (.int .u64 0) => true
 | _ => false
theorem isZ_eq {o : Option Value} (h : isZ o = true) : o = some (.int .u64 0) := by
 unfold isZ at h
 split at h
 ·rfl
 ·cases h
theorem zero_tk : (List.range 168).all (fun i => isZ Tryd.zeroCells125[16 + i]?) = true := by kernel_rfl
theorem zero_size : Tryd.zeroCells125.size = 185 := by kernel_rfl
theorem zero_beh : Tryd.zeroCells125[184]? = some (.slice none 0 0) := by kernel_rfl
def spanOn (cs : Array Value) (s : Sp) : Array Value := (((((((((((((((cs).setIfInBounds 0 (.bool s.em)).setIfInBounds 1 (nwV s.fi 0)).setIfInBounds 2 (nwV s.fi 1)).setIfInBounds 3 (nwV s.fi 2)).setIfInBounds 4 (nwV s.fi 3)).setIfInBounds 5 (nwV s.fi 4)).setIfInBounds 6 (nwV s.fi 5)).setIfInBounds 7 (nwV s.fi 6)).setIfInBounds 8 (nwV s.en 0)).setIfInBounds 9 (nwV s.en 1)).setIfInBounds 10 (nwV s.en 2)).setIfInBounds 11 (nwV s.en 3)).setIfInBounds 12 (nwV s.en 4)).setIfInBounds 13 (nwV s.en 5)).setIfInBounds 14 (nwV s.en 6)
theorem spanOn_size (cs : Array Value) (s : Sp) : (spanOn cs s).size = cs.size := by simp [spanOn]
theorem spanOn_rest (cs : Array Value) (s : Sp) (i : Nat) (h : 15 ≤ i) : (spanOn cs s)[i]? = cs[i]? := by
 unfold spanOn
 repeat rw [Array.getElem?_setIfInBounds_ne (by omega)]
theorem spanOn_at (cs : Array Value) (s : Sp) (hs : 15 ≤ cs.size) (i : Nat) (h : i < 15) : (spanOn cs s)[i]? = (spnA s)[i]? := by
 unfold spanOn
 match i, h with
 | 0, _ =>
   repeat rw [Array.getElem?_setIfInBounds_ne (by omega)]
   rw [Array.getElem?_setIfInBounds, if_pos rfl, if_pos (by first | omega | (simp only [Array.size_setIfInBounds]; omega))]
   rfl
 | 1, _ =>
   repeat rw [Array.getElem?_setIfInBounds_ne (by omega)]
   rw [Array.getElem?_setIfInBounds, if_pos rfl, if_pos (by first | omega | (simp only [Array.size_setIfInBounds]; omega))]
   rfl
 | 2, _ =>
   repeat rw [Array.getElem?_setIfInBounds_ne (by omega)]
   rw [Array.getElem?_setIfInBounds, if_pos rfl, if_pos (by first | omega | (simp only [Array.size_setIfInBounds]; omega))]
   rfl
 | 3, _ =>
   repeat rw [Array.getElem?_setIfInBounds_ne (by omega)]
   rw [Array.getElem?_setIfInBounds, if_pos rfl, if_pos (by first | omega | (simp only [Array.size_setIfInBounds]; omega))]
   rfl
 | 4, _ =>
   repeat rw [Array.getElem?_setIfInBounds_ne (by omega)]
   rw [Array.getElem?_setIfInBounds, if_pos rfl, if_pos (by first | omega | (simp only [Array.size_setIfInBounds]; omega))]
   rfl
 | 5, _ =>
   repeat rw [Array.getElem?_setIfInBounds_ne (by omega)]
   rw [Array.getElem?_setIfInBounds, if_pos rfl, if_pos (by first | omega | (simp only [Array.size_setIfInBounds]; omega))]
   rfl
 | 6, _ =>
   repeat rw [Array.getElem?_setIfInBounds_ne (by omega)]
   rw [Array.getElem?_setIfInBounds, if_pos rfl, if_pos (by first | omega | (simp only [Array.size_setIfInBounds]; omega))]
   rfl
 | 7, _ =>
   repeat rw [Array.getElem?_setIfInBounds_ne (by omega)]
   rw [Array.getElem?_setIfInBounds, if_pos rfl, if_pos (by first | omega | (simp only [Array.size_setIfInBounds]; omega))]
   rfl
 | 8, _ =>
   repeat rw [Array.getElem?_setIfInBounds_ne (by omega)]
   rw [Array.getElem?_setIfInBounds, if_pos rfl, if_pos (by first | omega | (simp only [Array.size_setIfInBounds]; omega))]
   rfl
 | 9, _ =>
   repeat rw [Array.getElem?_setIfInBounds_ne (by omega)]
   rw [Array.getElem?_setIfInBounds, if_pos rfl, if_pos (by first | omega | (simp only [Array.size_setIfInBounds]; omega))]
   rfl
 | 10, _ =>
   repeat rw [Array.getElem?_setIfInBounds_ne (by omega)]
   rw [Array.getElem?_setIfInBounds, if_pos rfl, if_pos (by first | omega | (simp only [Array.size_setIfInBounds]; omega))]
   rfl
 | 11, _ =>
   repeat rw [Array.getElem?_setIfInBounds_ne (by omega)]
   rw [Array.getElem?_setIfInBounds, if_pos rfl, if_pos (by first | omega | (simp only [Array.size_setIfInBounds]; omega))]
   rfl
 | 12, _ =>
   repeat rw [Array.getElem?_setIfInBounds_ne (by omega)]
   rw [Array.getElem?_setIfInBounds, if_pos rfl, if_pos (by first | omega | (simp only [Array.size_setIfInBounds]; omega))]
   rfl
 | 13, _ =>
   repeat rw [Array.getElem?_setIfInBounds_ne (by omega)]
   rw [Array.getElem?_setIfInBounds, if_pos rfl, if_pos (by first | omega | (simp only [Array.size_setIfInBounds]; omega))]
   rfl
 | 14, _ =>
   repeat rw [Array.getElem?_setIfInBounds_ne (by omega)]
   rw [Array.getElem?_setIfInBounds, if_pos rfl, if_pos (by first | omega | (simp only [Array.size_setIfInBounds]; omega))]
   rfl
structure PlanR (w : World) (bp : Nat) (s : Sp) (wh : Bool) (l : Pl) : Prop where
 at_ : ∃ n0 cs v, PlanAt n0 w bp cs v wh l ∧ PlanC cs s wh l
theorem PlanR.later {w w' : World} {bp : Nat} {s : Sp} {wh : Bool} {l : Pl} (h : PlanR w bp s wh l) (hb : Below w.heap.size w w') : PlanR w' bp s wh l := by
 obtain ⟨n0, cs, v, h1, h2⟩ := h.at_
 exact ⟨⟨n0, cs, v, h1.later hb, h2⟩⟩
set_option maxRecDepth 100000 in
set_option maxHeartbeats 8000000 in
theorem planOf_any (D : Nat) (n : Nd) (wh : Bool) (ca pa : Option Addr) (cc pc : Nat) (w : World) (hok : n.ok = true) (hin : InV w.heap.size w D n [.int .i64 n.op, .slice ca n.cl.length cc, .slice pa (toL n.kids).length pc]) (hT : TabD w) :
 Calls Tryd.prog 50 #[.agg #[.int .i64 n.op, .slice ca n.cl.length cc, .slice pa (toL n.kids).length pc, .bool wh]] w fun e w' => ∃ bp, e = .returned (.pointer (some ⟨bp, 0, none⟩)) ∧ w.heap.size ≤ bp ∧ PlanR w' bp (n.span []).1 wh (n.span []).2 ∧ Below w.heap.size w w' := by
 obtain ⟨hok1, hok2⟩ : okN 32 n = true ∧ n.cnt ≤ 400 := by simpa [Nd.ok] using hok
 obtain ⟨op, hop⟩ : ∃ op, op = n.op := ⟨_, rfl⟩
 obtain ⟨cn, hcn⟩ : ∃ cn, cn = n.cl.length := ⟨_, rfl⟩
 obtain ⟨K, hK⟩ : ∃ K, K = (toL n.kids).length := ⟨_, rfl⟩
 obtain ⟨s, hs⟩ : ∃ s, s = (n.span []).1 := ⟨_, rfl⟩
 obtain ⟨m, hm⟩ : ∃ m, m = (n.span []).2 := ⟨_, rfl⟩
 obtain ⟨wA, hwA⟩ : ∃ wA, wA = (w.alloc (.cells #[.int .i64 op, .slice ca cn cc, .slice pa K pc, .bool wh] 55)).alloc (.cells (Tryd.zeroCells125.setIfInBounds 15 (.bool wh)) 125) := ⟨_, rfl⟩
 obtain ⟨H, hH⟩ : ∃ H, H = w.heap.size := ⟨_, rfl⟩
 have hbA : Below w.heap.size w wA := by rw [hwA]; exact ((Below.refl _ w).alloc (Nat.le_refl _) _).alloc (by simp) _
 have HBA : Hid (Below w.heap.size w wA) := hbA
 have HHW : Hid (w.heap.size ≤ H + 1) := by rw [hH]; exact Nat.le_succ _
 have HN : Hid (wA.heap[H]? = some (.cells #[.int .i64 op, .slice ca cn cc, .slice pa K pc, .bool wh] 55)) := by
  show _ = _
  rw [hwA, hH]
  exact (((Below.refl _ (w.alloc _)).alloc (Nat.le_refl _) _).block w.heap.size (by simp)).trans (heap_alloc_new w _)
 have HPL : Hid (wA.heap[H + 1]? = some (.cells (Tryd.zeroCells125.setIfInBounds 15 (.bool wh)) 125)) := by
  show _ = _
  rw [hwA, hH]
  have := heap_alloc_new (w.alloc (.cells #[.int .i64 op, .slice ca cn cc, .slice pa K pc, .bool wh] 55)) (.cells (Tryd.zeroCells125.setIfInBounds 15 (.bool wh)) 125)
  rw [show (w.alloc (.cells #[.int .i64 op, .slice ca cn cc, .slice pa K pc, .bool wh] 55)).heap.size = w.heap.size + 1 by simp] at this
  exact this
 have HPA : Hid (PlanAt w.heap.size wA (H + 1) (Tryd.zeroCells125.setIfInBounds 15 (.bool wh)) (.slice none 0 0) wh []) := by
  refine ⟨HPL.out, by simp [zero_size], HHW.out, by simp [Array.getElem?_setIfInBounds, zero_size], fun c hc i hi => ?_, ?_, ⟨rfl, .inl ⟨rfl, rfl⟩⟩, by simp, by simp [Value.ownBlock]⟩
  ·rw [Array.getElem?_setIfInBounds, if_neg (by omega)]
   have h1 := List.all_eq_true.1 zero_tk (c * 7 + i) (by simp; omega)
   rw [show 16 + c * 7 + i = 16 + (c * 7 + i) by omega, isZ_eq h1]
   show _ = some (nwV 0 i)
   unfold nwV
   rw [nw_zero]
   rfl
  ·rw [Array.getElem?_setIfInBounds, if_neg (by omega)]
   exact zero_beh
 have HC : Hid (Calls Tryd.prog 66 #[.pointer (some ⟨H + 1, 0, none⟩), .agg #[.int .i64 op, .slice ca cn cc, .slice pa K pc]] wA fun e w' => e = .returned (.agg #[.bool s.em, .int .u64 (nw s.fi 0 : Int), .int .u64 (nw s.fi 1 : Int), .int .u64 (nw s.fi 2 : Int), .int .u64 (nw s.fi 3 : Int), .int .u64 (nw s.fi 4 : Int), .int .u64 (nw s.fi 5 : Int), .int .u64 (nw s.fi 6 : Int), .int .u64 (nw s.en 0 : Int), .int .u64 (nw s.en 1 : Int), .int .u64 (nw s.en 2 : Int), .int .u64 (nw s.en 3 : Int), .int .u64 (nw s.en 4 : Int), .int .u64 (nw s.en 5 : Int), .int .u64 (nw s.en 6 : Int)]) ∧ (∃ cs' v', PlanAt w.heap.size w' (H + 1) cs' v' wh m) ∧ Below w.heap.size w w' ∧ FrS wA w') := by
  rw [hs, hm, hop, hcn, hK]
  exact sp_any D n 32 ca pa cc pc w wA (H + 1) _ _ wh [] hok1 hin hbA hT HPA.out (by simpa using hok2)
 have n0 : wA.cell? ⟨H, 0, none⟩ = some (.int .i64 op) := cell_of_row wA H 0 _ _ _ HN.out
 have n1 : wA.cell? ⟨H, 1, none⟩ = some (.slice ca cn cc) := cell_of_row wA H 1 _ _ _ HN.out
 have n2 : wA.cell? ⟨H, 2, none⟩ = some (.slice pa K pc) := cell_of_row wA H 2 _ _ _ HN.out
 rw [← hop, ← hcn, ← hK, ← hs, ← hm]
 clear hop hcn hK hin hok hT hs hm hok1 hok2 hbA
 go_enter Tryd.func50, Tryd.ntmps50
 go_upto_region 2 with fail
 rw [← hH, ← hwA]
 clear hH hwA
 go_wp2_with fail
 refine HC.out.mono ?_
 rintro e w2 ⟨rfl, ⟨cs2, v2, hp2⟩, hb2, hf2⟩
 have HP2 : Hid (PlanAt w.heap.size w2 (H + 1) cs2 v2 wh m) := hp2
 have HB2 : Hid (Below w.heap.size w w2) := hb2
 clear hp2 hb2 hf2 HC n0 n1 n2
 obtain ⟨x0, hx0⟩ : ∃ x, cs2[0]? = some x := ⟨_, Array.getElem?_eq_getElem (by rw [HP2.out.size]; omega)⟩
 have d0 : w2.cell? ⟨H + 1, 0, none⟩ = some x0 := (cell_of_row w2 (H + 1) 0 _ _ _ HP2.out.blk).trans hx0
 have e0 : w2.frozen? ⟨H + 1, 0, none⟩ = false := Lib.frozen_of_heap HP2.out.blk 0
 obtain ⟨x1, hx1⟩ : ∃ x, cs2[1]? = some x := ⟨_, Array.getElem?_eq_getElem (by rw [HP2.out.size]; omega)⟩
 have d1 : w2.cell? ⟨H + 1, 1, none⟩ = some x1 := (cell_of_row w2 (H + 1) 1 _ _ _ HP2.out.blk).trans hx1
 have e1 : w2.frozen? ⟨H + 1, 1, none⟩ = false := Lib.frozen_of_heap HP2.out.blk 1
 obtain ⟨x2, hx2⟩ : ∃ x, cs2[2]? = some x := ⟨_, Array.getElem?_eq_getElem (by rw [HP2.out.size]; omega)⟩
 have d2 : w2.cell? ⟨H + 1, 2, none⟩ = some x2 := (cell_of_row w2 (H + 1) 2 _ _ _ HP2.out.blk).trans hx2
 have e2 : w2.frozen? ⟨H + 1, 2, none⟩ = false := Lib.frozen_of_heap HP2.out.blk 2
 obtain ⟨x3, hx3⟩ : ∃ x, cs2[3]? = some x := ⟨_, Array.getElem?_eq_getElem (by rw [HP2.out.size]; omega)⟩
 have d3 : w2.cell? ⟨H + 1, 3, none⟩ = some x3 := (cell_of_row w2 (H + 1) 3 _ _ _ HP2.out.blk).trans hx3
 have e3 : w2.frozen? ⟨H + 1, 3, none⟩ = false := Lib.frozen_of_heap HP2.out.blk 3
 obtain ⟨x4, hx4⟩ : ∃ x, cs2[4]? = some x := ⟨_, Array.getElem?_eq_getElem (by rw [HP2.out.size]; omega)⟩
 have d4 : w2.cell? ⟨H + 1, 4, none⟩ = some x4 := (cell_of_row w2 (H + 1) 4 _ _ _ HP2.out.blk).trans hx4
 have e4 : w2.frozen? ⟨H + 1, 4, none⟩ = false := Lib.frozen_of_heap HP2.out.blk 4
 obtain ⟨x5, hx5⟩ : ∃ x, cs2[5]? = some x := ⟨_, Array.getElem?_eq_getElem (by rw [HP2.out.size]; omega)⟩
 have d5 : w2.cell? ⟨H + 1, 5, none⟩ = some x5 := (cell_of_row w2 (H + 1) 5 _ _ _ HP2.out.blk).trans hx5
 have e5 : w2.frozen? ⟨H + 1, 5, none⟩ = false := Lib.frozen_of_heap HP2.out.blk 5
 obtain ⟨x6, hx6⟩ : ∃ x, cs2[6]? = some x := ⟨_, Array.getElem?_eq_getElem (by rw [HP2.out.size]; omega)⟩
 have d6 : w2.cell? ⟨H + 1, 6, none⟩ = some x6 := (cell_of_row w2 (H + 1) 6 _ _ _ HP2.out.blk).trans hx6
 have e6 : w2.frozen? ⟨H + 1, 6, none⟩ = false := Lib.frozen_of_heap HP2.out.blk 6
 obtain ⟨x7, hx7⟩ : ∃ x, cs2[7]? = some x := ⟨_, Array.getElem?_eq_getElem (by rw [HP2.out.size]; omega)⟩
 have d7 : w2.cell? ⟨H + 1, 7, none⟩ = some x7 := (cell_of_row w2 (H + 1) 7 _ _ _ HP2.out.blk).trans hx7
 have e7 : w2.frozen? ⟨H + 1, 7, none⟩ = false := Lib.frozen_of_heap HP2.out.blk 7
 obtain ⟨x8, hx8⟩ : ∃ x, cs2[8]? = some x := ⟨_, Array.getElem?_eq_getElem (by rw [HP2.out.size]; omega)⟩
 have d8 : w2.cell? ⟨H + 1, 8, none⟩ = some x8 := (cell_of_row w2 (H + 1) 8 _ _ _ HP2.out.blk).trans hx8
 have e8 : w2.frozen? ⟨H + 1, 8, none⟩ = false := Lib.frozen_of_heap HP2.out.blk 8
 obtain ⟨x9, hx9⟩ : ∃ x, cs2[9]? = some x := ⟨_, Array.getElem?_eq_getElem (by rw [HP2.out.size]; omega)⟩
 have d9 : w2.cell? ⟨H + 1, 9, none⟩ = some x9 := (cell_of_row w2 (H + 1) 9 _ _ _ HP2.out.blk).trans hx9
 have e9 : w2.frozen? ⟨H + 1, 9, none⟩ = false := Lib.frozen_of_heap HP2.out.blk 9
 obtain ⟨x10, hx10⟩ : ∃ x, cs2[10]? = some x := ⟨_, Array.getElem?_eq_getElem (by rw [HP2.out.size]; omega)⟩
 have d10 : w2.cell? ⟨H + 1, 10, none⟩ = some x10 := (cell_of_row w2 (H + 1) 10 _ _ _ HP2.out.blk).trans hx10
 have e10 : w2.frozen? ⟨H + 1, 10, none⟩ = false := Lib.frozen_of_heap HP2.out.blk 10
 obtain ⟨x11, hx11⟩ : ∃ x, cs2[11]? = some x := ⟨_, Array.getElem?_eq_getElem (by rw [HP2.out.size]; omega)⟩
 have d11 : w2.cell? ⟨H + 1, 11, none⟩ = some x11 := (cell_of_row w2 (H + 1) 11 _ _ _ HP2.out.blk).trans hx11
 have e11 : w2.frozen? ⟨H + 1, 11, none⟩ = false := Lib.frozen_of_heap HP2.out.blk 11
 obtain ⟨x12, hx12⟩ : ∃ x, cs2[12]? = some x := ⟨_, Array.getElem?_eq_getElem (by rw [HP2.out.size]; omega)⟩
 have d12 : w2.cell? ⟨H + 1, 12, none⟩ = some x12 := (cell_of_row w2 (H + 1) 12 _ _ _ HP2.out.blk).trans hx12
 have e12 : w2.frozen? ⟨H + 1, 12, none⟩ = false := Lib.frozen_of_heap HP2.out.blk 12
 obtain ⟨x13, hx13⟩ : ∃ x, cs2[13]? = some x := ⟨_, Array.getElem?_eq_getElem (by rw [HP2.out.size]; omega)⟩
 have d13 : w2.cell? ⟨H + 1, 13, none⟩ = some x13 := (cell_of_row w2 (H + 1) 13 _ _ _ HP2.out.blk).trans hx13
 have e13 : w2.frozen? ⟨H + 1, 13, none⟩ = false := Lib.frozen_of_heap HP2.out.blk 13
 obtain ⟨x14, hx14⟩ : ∃ x, cs2[14]? = some x := ⟨_, Array.getElem?_eq_getElem (by rw [HP2.out.size]; omega)⟩
 have d14 : w2.cell? ⟨H + 1, 14, none⟩ = some x14 := (cell_of_row w2 (H + 1) 14 _ _ _ HP2.out.blk).trans hx14
 have e14 : w2.frozen? ⟨H + 1, 14, none⟩ = false := Lib.frozen_of_heap HP2.out.blk 14
 obtain ⟨w3, hw3⟩ : ∃ w3, w3 = (((((((((((((((w2).setCell ⟨H + 1, 0, none⟩ (.bool s.em)).setCell ⟨H + 1, 1, none⟩ (.int .u64 (nw s.fi 0 : Int))).setCell ⟨H + 1, 2, none⟩ (.int .u64 (nw s.fi 1 : Int))).setCell ⟨H + 1, 3, none⟩ (.int .u64 (nw s.fi 2 : Int))).setCell ⟨H + 1, 4, none⟩ (.int .u64 (nw s.fi 3 : Int))).setCell ⟨H + 1, 5, none⟩ (.int .u64 (nw s.fi 4 : Int))).setCell ⟨H + 1, 6, none⟩ (.int .u64 (nw s.fi 5 : Int))).setCell ⟨H + 1, 7, none⟩ (.int .u64 (nw s.fi 6 : Int))).setCell ⟨H + 1, 8, none⟩ (.int .u64 (nw s.en 0 : Int))).setCell ⟨H + 1, 9, none⟩ (.int .u64 (nw s.en 1 : Int))).setCell ⟨H + 1, 10, none⟩ (.int .u64 (nw s.en 2 : Int))).setCell ⟨H + 1, 11, none⟩ (.int .u64 (nw s.en 3 : Int))).setCell ⟨H + 1, 12, none⟩ (.int .u64 (nw s.en 4 : Int))).setCell ⟨H + 1, 13, none⟩ (.int .u64 (nw s.en 5 : Int))).setCell ⟨H + 1, 14, none⟩ (.int .u64 (nw s.en 6 : Int)) := ⟨_, rfl⟩
 have HF : Hid (PlanR w3 (H + 1) s wh m ∧ Below w.heap.size w w3) := by
  have hg : w2.grownBy w3 (some (H + 1)) := by rw [hw3]; exact grown_put (i := 14) _ (grown_put (i := 13) _ (grown_put (i := 12) _ (grown_put (i := 11) _ (grown_put (i := 10) _ (grown_put (i := 9) _ (grown_put (i := 8) _ (grown_put (i := 7) _ (grown_put (i := 6) _ (grown_put (i := 5) _ (grown_put (i := 4) _ (grown_put (i := 3) _ (grown_put (i := 2) _ (grown_put (i := 1) _ (grown_put (i := 0) _ (grown_refl w2 (some (H + 1)))))))))))))))))
  have hb : w3.heap[H + 1]? = some (.cells (spanOn cs2 s) 125) := by rw [hw3]; exact (heap_setCell_same _ (H + 1) 14 _ _ _ (heap_setCell_same _ (H + 1) 13 _ _ _ (heap_setCell_same _ (H + 1) 12 _ _ _ (heap_setCell_same _ (H + 1) 11 _ _ _ (heap_setCell_same _ (H + 1) 10 _ _ _ (heap_setCell_same _ (H + 1) 9 _ _ _ (heap_setCell_same _ (H + 1) 8 _ _ _ (heap_setCell_same _ (H + 1) 7 _ _ _ (heap_setCell_same _ (H + 1) 6 _ _ _ (heap_setCell_same _ (H + 1) 5 _ _ _ (heap_setCell_same _ (H + 1) 4 _ _ _ (heap_setCell_same _ (H + 1) 3 _ _ _ (heap_setCell_same _ (H + 1) 2 _ _ _ (heap_setCell_same _ (H + 1) 1 _ _ _ (heap_setCell_same _ (H + 1) 0 _ _ _ HP2.out.blk)))))))))))))))
  have hp := HP2.out
  refine ⟨⟨⟨w.heap.size, spanOn cs2 s, v2, ⟨hb, by rw [spanOn_size]; exact hp.size, hp.low, by rw [spanOn_rest _ _ _ (by omega)]; exact hp.wh, fun c hc i hi => by rw [spanOn_rest _ _ _ (by omega)]; exact hp.tk c hc i hi, by rw [spanOn_rest _ _ _ (by omega)]; exact hp.beh, hp.own.kept hg (.inr hp.apart), hp.few, hp.apart⟩, ⟨?_, fun i hi => ?_, fun i hi => ?_, ?_, fun c hc i hi => ?_⟩⟩⟩, HB2.out.grown hg HB2.out.size (fun k e => by cases e; exact HHW.out)⟩
  ·rw [spanOn_at _ _ (by rw [hp.size]; omega) _ (by omega)]; rfl
  ·rw [spanOn_at _ _ (by rw [hp.size]; omega) _ (by omega)]; exact spn_fi s i hi
  ·rw [spanOn_at _ _ (by rw [hp.size]; omega) _ (by omega)]; exact spn_en s i hi
  ·rw [spanOn_rest _ _ _ (by omega)]; exact hp.wh
  ·rw [spanOn_rest _ _ _ (by omega)]; exact hp.tk c hc i hi
 clear hx0 hx1 hx2 hx3 hx4 hx5 hx6 hx7 hx8 hx9 hx10 hx11 hx12 hx13 hx14
 go_upto_region 3 with fail
 rw [← hw3]
 clear hw3 d0 e0 d1 e1 d2 e2 d3 e3 d4 e4 d5 e5 d6 e6 d7 e7 d8 e8 d9 e9 d10 e10 d11 e11 d12 e12 d13 e13 d14 e14
 go_wp2
 go_ret
 exact ⟨H + 1, rfl, HHW.out, HF.out⟩
end Go.Proofs.YtcafffohnokjgaaDoor

/- Keys that are numbered as they are met: a map as a datum; the digits of numbers, and texts that tell them. -/
namespace Go.Proofs.YtcafffohnokjgaaDoor
set_option linter.unusedVariables false
set_option linter.unusedSimpArgs false

def kDF (m : DataW Unit) (i : Nat) : List Lit → DataW Unit
 | [] => m
 | k :: ks => kDF (m.put k (.lit (.int .i64 (i : Int)))) (i + 1) ks
def kD (ks : List Lit) : DataW Unit := kDF (.map []) 0 ks
theorem kDF_snoc (x : Lit) : (ks : List Lit) → (m : DataW Unit) → (i : Nat) → kDF m i (ks ++ [x]) = (kDF m i ks).put x (.lit (.int .i64 ((i + ks.length : Nat) : Int)))
 | [], m, i => rfl
 | k :: ks, m, i => by
   show kDF _ (i + 1) (ks ++ [x]) = (kDF _ (i + 1) ks).put x _
   rw [kDF_snoc x ks]
   congr 4
   simp only [List.length_cons]
   omega
theorem kD_snoc (ks : List Lit) (x : Lit) : kD (ks ++ [x]) = (kD ks).put x (.lit (.int .i64 (ks.length : Int))) := by
 unfold kD
 rw [kDF_snoc, Nat.zero_add]
def Keysy (ks : List Lit) : Prop := ks.Nodup ∧ ∀ k ∈ ks, WideAt.IsKeyLit k
theorem Keysy.front {ks : List Lit} {x : Lit} (h : Keysy (ks ++ [x])) : Keysy ks ∧ x ∉ ks ∧ WideAt.IsKeyLit x := by
 obtain ⟨h1, h2⟩ := h
 rw [List.nodup_append] at h1
 exact ⟨⟨h1.1, fun k hk => h2 k (by simp [hk])⟩, fun hx => h1.2.2 x hx x (by simp) rfl, h2 x (by simp)⟩
theorem Keysy.snoc {ks : List Lit} {x : Lit} (h : Keysy ks) (hx : x ∉ ks) (hk : WideAt.IsKeyLit x) : Keysy (ks ++ [x]) := by
 refine ⟨List.nodup_append.2 ⟨h.1, by simp, fun a ha b hb => ?_⟩, fun k hk' => ?_⟩
 ·rw [List.mem_singleton] at hb
  subst hb
  exact fun e => hx (e ▸ ha)
 ·rcases List.mem_append.1 hk' with h1 | h1
  ·exact h.2 k h1
  ·rw [List.mem_singleton] at h1
   subst h1
   exact hk
theorem snoc_rec {α : Type} {P : List α → Prop} (h0 : P []) (h1 : ∀ l x, P l → P (l ++ [x])) (l : List α) : P l := by
 have : ∀ m : List α, P m.reverse := by
  intro m
  induction m with
  | nil => exact h0
  | cons x m ih => rw [List.reverse_cons]; exact h1 _ x ih
 have h := this l.reverse
 rwa [List.reverse_reverse] at h
theorem kD_tidy (ks : List Lit) : Keysy ks → Maps.Tidy (kD ks) := by
 refine snoc_rec (P := fun ks => Keysy ks → Maps.Tidy (kD ks)) (fun _ => Maps.tidy_empty) (fun l x ih h => ?_) ks
 obtain ⟨h1, _, h3⟩ := h.front
 rw [kD_snoc]
 exact (ih h1).put h3 _
theorem kD_has (k : Lit) (ks : List Lit) : Keysy ks → (Maps.has (kD ks) k = true ↔ k ∈ ks) := by
 refine snoc_rec (P := fun ks => Keysy ks → (Maps.has (kD ks) k = true ↔ k ∈ ks)) (fun _ => ?_) (fun l x ih h => ?_) ks
 ·simp [kD, kDF, Maps.has]
 ·obtain ⟨h1, _, h3⟩ := h.front
  rw [kD_snoc]
  by_cases e : k = x
  ·subst e
   rw [Maps.has_put_same (kD_tidy l h1).isMap h3]
   simp
  ·rw [Maps.has_put_other e, ih h1]
   simp [e]
theorem kD_no {ks : List Lit} {k : Lit} (h : Keysy ks) (hk : k ∉ ks) : Maps.has (kD ks) k = false := by
 rw [Bool.eq_false_iff]
 exact fun e => hk ((kD_has k ks h).1 e)
theorem kD_size (ks : List Lit) : Keysy ks → Maps.size (kD ks) = ks.length := by
 refine snoc_rec (P := fun ks => Keysy ks → Maps.size (kD ks) = ks.length) (fun _ => rfl) (fun l x ih h => ?_) ks
 obtain ⟨h1, h2, h3⟩ := h.front
 rw [kD_snoc, Maps.size_put (kD_tidy l h1), kD_no h1 h2, ih h1]
 simp
theorem kD_at (z : DataW Unit) (ks : List Lit) : Keysy ks → ∀ (i : Nat) (k : Lit), ks[i]? = some k → (kD ks).atKey k z = .lit (.int .i64 (i : Int)) := by
 refine snoc_rec (P := fun ks => Keysy ks → ∀ (i : Nat) (k : Lit), ks[i]? = some k → (kD ks).atKey k z = .lit (.int .i64 (i : Int))) (fun _ i k h => by simp at h) (fun l x ih h i k hi => ?_) ks
 obtain ⟨h1, h2, h3⟩ := h.front
 rw [kD_snoc]
 by_cases hl : i < l.length
 ·rw [List.getElem?_append_left hl] at hi
  have hkl : k ∈ l := List.mem_of_getElem? hi
  have hne : k ≠ x := fun e => h2 (e ▸ hkl)
  rw [Maps.atKey_put_other hne]
  exact ih h1 i k hi
 ·rw [List.getElem?_append_right (by omega)] at hi
  have hil : i = l.length := by
   have := (List.getElem?_eq_some_iff.1 hi).1
   simp at this
   omega
  subst hil
  simp at hi
  subst hi
  rw [Maps.atKey_put_same (kD_tidy l h1).isMap h3]

/-! ### digits -/
def dgc (r : Nat) : Nat := if r < 10 then 48 + r else 87 + r
def dgv (c : Nat) : Nat := if c < 58 then c - 48 else c - 87
theorem dgv_dgc {r : Nat} (h : r < 36) : dgv (dgc r) = r := by
 unfold dgv dgc
 split <;> split <;> omega
theorem dgc_ne {r : Nat} (h : r < 36) : dgc r ≠ 32 := by
 unfold dgc
 split <;> omega
theorem dgc_lt {r : Nat} (h : r < 36) : dgc r < 128 := by
 unfold dgc
 split <;> omega
def dgF : Nat → Nat → List Nat
 | 0, u => [dgc u]
 | f + 1, u => if u < 36 then [dgc u] else dgF f (u / 36) ++ [dgc (u % 36)]
def dg (u : Nat) : List Nat := dgF 64 u
def dgV (l : List Nat) : Nat := l.foldl (fun a c => a * 36 + dgv c) 0
theorem dgF_len (f : Nat) : ∀ u, (dgF f u).length ≤ f + 1 := by
 induction f with
 | zero => intro u; simp [dgF]
 | succ f ih =>
   intro u
   rw [dgF]
   split
   ·simp
   ·have := ih (u / 36)
    simp
    omega
theorem dgF_all (f : Nat) : ∀ u, u < 36 ^ (f + 1) → (∀ c ∈ dgF f u, c ≠ 32 ∧ c < 128) ∧ dgV (dgF f u) = u := by
 induction f with
 | zero =>
   intro u hu
   have hu' : u < 36 := by simpa using hu
   simp only [dgF, List.mem_singleton, forall_eq]
   exact ⟨⟨dgc_ne hu', dgc_lt hu'⟩, by simp [dgV, dgv_dgc hu']⟩
 | succ f ih =>
   intro u hu
   rw [dgF]
   split
   ·rename_i h
    simp only [List.mem_singleton, forall_eq]
    exact ⟨⟨dgc_ne h, dgc_lt h⟩, by simp [dgV, dgv_dgc h]⟩
   ·have h1 : u / 36 < 36 ^ (f + 1) := by
     rw [Nat.div_lt_iff_lt_mul (by decide)]
     rw [Nat.pow_succ] at hu
     exact hu
    obtain ⟨ha, hv⟩ := ih (u / 36) h1
    have hm : u % 36 < 36 := Nat.mod_lt _ (by decide)
    refine ⟨fun c hc => ?_, ?_⟩
    ·rcases List.mem_append.1 hc with h2 | h2
     ·exact ha c h2
     ·rw [List.mem_singleton] at h2
      subst h2
      exact ⟨dgc_ne hm, dgc_lt hm⟩
    ·unfold dgV at hv ⊢
     rw [List.foldl_append, hv]
     simp only [List.foldl_cons, List.foldl_nil, dgv_dgc hm]
     omega
theorem dg_big {u : Nat} (h : u < 2 ^ 64) : u < 36 ^ 65 := Nat.lt_of_lt_of_le h (by decide)
theorem dg_ne {u : Nat} (h : u < 2 ^ 64) : ∀ c ∈ dg u, c ≠ 32 ∧ c < 128 := (dgF_all 64 u (dg_big h)).1
theorem dg_inj {u v : Nat} (hu : u < 2 ^ 64) (hv : v < 2 ^ 64) (h : dg u = dg v) : u = v := by
 rw [← (dgF_all 64 u (dg_big hu)).2, ← (dgF_all 64 v (dg_big hv)).2]
 show dgV (dg u) = dgV (dg v)
 rw [h]
theorem dg_len (u : Nat) : (dg u).length ≤ 65 := dgF_len 64 u
theorem dgF_more (g : Nat) : ∀ f u, u < 36 ^ (f + 1) → dgF (f + g) u = dgF f u := by
 intro f
 induction f with
 | zero =>
   intro u hu
   have hu' : u < 36 := by simpa using hu
   cases g with
   | zero => rfl
   | succ g =>
     rw [Nat.zero_add]
     show (if u < 36 then [dgc u] else _) = _
     rw [if_pos hu']; rfl
 | succ f ih =>
   intro u hu
   rw [show f + 1 + g = (f + g) + 1 by omega, dgF, dgF]
   split
   ·rfl
   ·rw [ih (u / 36) ?_]
    rw [Nat.div_lt_iff_lt_mul (by decide)]
    rw [Nat.pow_succ] at hu
    exact hu
theorem dg_step {u : Nat} (h : 36 ≤ u) (hu : u < 2 ^ 64) : dg u = dg (u / 36) ++ [dgc (u % 36)] := by
 unfold dg
 have h1 : u / 36 < 36 ^ 64 := by
  rw [Nat.div_lt_iff_lt_mul (by decide)]
  exact Nat.lt_of_lt_of_le hu (by decide)
 rw [show (64 : Nat) = 63 + 1 from rfl, dgF, if_neg (by omega), dgF_more 1 63 (u / 36) h1]
theorem dg_one {u : Nat} (h : u < 36) : dg u = [dgc u] := by
 unfold dg
 rw [show (64 : Nat) = 63 + 1 from rfl, dgF, if_pos h]

/-! ### texts -/
theorem cut_blank : (a b : List Nat) → (x y : List Nat) → (∀ c ∈ a, c ≠ 32) → (∀ c ∈ b, c ≠ 32) → a ++ 32 :: x = b ++ 32 :: y → a = b ∧ x = y
 | [], [], x, y, _, _, h => by simpa using h
 | [], c :: b, x, y, _, hb, h => by
   simp at h
   exact absurd h.1.symm (hb c (by simp))
 | c :: a, [], x, y, ha, _, h => by
   simp at h
   exact absurd h.1 (ha c (by simp))
 | c :: a, d :: b, x, y, ha, hb, h => by
   simp only [List.cons_append, List.cons.injEq] at h
   obtain ⟨h1, h2⟩ := cut_blank a b x y (fun e he => ha e (by simp [he])) (fun e he => hb e (by simp [he])) h.2
   exact ⟨by rw [h.1, h1], h2⟩
def tx (l : List Nat) : List Nat := l.flatMap (fun n => dg n ++ [32])
theorem tx_snoc (l : List Nat) (n : Nat) : tx (l ++ [n]) = (tx l ++ dg n) ++ [32] := by simp [tx]
theorem tx_inj : (l m : List Nat) → (∀ n ∈ l, n < 2 ^ 64) → (∀ n ∈ m, n < 2 ^ 64) → l.length = m.length → tx l = tx m → l = m
 | [], [], _, _, _, _ => rfl
 | [], _ :: _, _, _, h, _ => by simp at h
 | _ :: _, [], _, _, h, _ => by simp at h
 | n :: l, k :: m, hl, hm, h, e => by
   have hn := hl n (by simp)
   have hk := hm k (by simp)
   have e' : dg n ++ 32 :: tx l = dg k ++ 32 :: tx m := by simpa [tx] using e
   obtain ⟨h1, h2⟩ := cut_blank _ _ _ _ (fun c hc => (dg_ne hn c hc).1) (fun c hc => (dg_ne hk c hc).1) e'
   rw [dg_inj hn hk h1, tx_inj l m (fun x hx => hl x (by simp [hx])) (fun x hx => hm x (by simp [hx])) (by simpa using h) h2]
theorem tx_rng (l : List Nat) (hl : ∀ n ∈ l, n < 2 ^ 64) : ∀ c ∈ tx l, c < 128 := by
 intro c hc
 simp only [tx, List.mem_flatMap, List.mem_append, List.mem_singleton] at hc
 obtain ⟨n, hn, h | h⟩ := hc
 ·exact (dg_ne (hl n hn) c h).2
 ·omega
theorem tx_len : (l : List Nat) → (tx l).length ≤ 66 * l.length
 | [] => by simp [tx]
 | n :: l => by
   have h1 := tx_len l
   have h2 := dg_len n
   simp [tx] at h1 ⊢
   omega
def bx (b : Bool) : List Nat := if b then [116, 114, 117, 101] else [102, 97, 108, 115, 101]
def sx (b : Bool) (l : List Nat) : List Nat := bx b ++ l.flatMap (fun n => 32 :: dg n)
theorem sx_snoc (b : Bool) (l : List Nat) (n : Nat) : sx b (l ++ [n]) = (sx b l ++ [32]) ++ dg n := by simp [sx]
theorem sx_tx (b : Bool) (l : List Nat) : sx b l ++ [32] = bx b ++ 32 :: tx l := by
 have : (l.flatMap (fun n => 32 :: dg n)) ++ [32] = 32 :: tx l := by
  induction l with
  | nil => rfl
  | cons n l ih =>
    simp only [List.flatMap_cons, List.append_assoc, ih]
    simp [tx]
 rw [sx, List.append_assoc, this]
theorem bx_ne (b : Bool) : ∀ c ∈ bx b, c ≠ 32 ∧ c < 128 := by cases b <;> decide
theorem bx_inj {a b : Bool} (h : bx a = bx b) : a = b := by
 revert h
 cases a <;> cases b <;> decide
theorem sx_inj {a b : Bool} {l m : List Nat} (hl : ∀ n ∈ l, n < 2 ^ 64) (hm : ∀ n ∈ m, n < 2 ^ 64) (h : l.length = m.length) (e : sx a l = sx b m) : a = b ∧ l = m := by
 have e' : bx a ++ 32 :: tx l = bx b ++ 32 :: tx m := by rw [← sx_tx, ← sx_tx, e]
 obtain ⟨h1, h2⟩ := cut_blank _ _ _ _ (fun c hc => (bx_ne a c hc).1) (fun c hc => (bx_ne b c hc).1) e'
 exact ⟨bx_inj h1, tx_inj l m hl hm h h2⟩
theorem sx_rng (b : Bool) (l : List Nat) (hl : ∀ n ∈ l, n < 2 ^ 64) : ∀ c ∈ sx b l, c < 128 := by
 intro c hc
 simp only [sx, List.mem_append, List.mem_flatMap, List.mem_cons] at hc
 rcases hc with h | ⟨n, hn, h | h⟩
 ·exact (bx_ne b c h).2
 ·omega
 ·exact (dg_ne (hl n hn) c h).2
theorem sx_len (b : Bool) (l : List Nat) : (sx b l).length ≤ 5 + 66 * l.length := by
 have h : (bx b).length ≤ 5 := by cases b <;> decide
 have h2 : (l.flatMap (fun n => 32 :: dg n)).length ≤ 66 * l.length := by
  induction l with
  | nil => simp
  | cons n l ih =>
    have := dg_len n
    simp only [List.flatMap_cons, List.length_append, List.length_cons]
    omega
 simp only [sx, List.length_append]
 omega
end Go.Proofs.YtcafffohnokjgaaDoor

/- Numbers as texts, to the base of thirty-six: the walk of formatBits. -/
namespace Go.Proofs.YtcafffohnokjgaaDoor
open Go.RowKit Go.Shelf
set_option linter.unusedVariables false
set_option linter.unusedSimpArgs false

def bv (xs : List Nat) : List Value := xs.map (fun (c : Nat) => Value.int .u8 (c : Int))
theorem bv_len (xs : List Nat) : (bv xs).length = xs.length := by simp [bv]
theorem bv_app (xs ys : List Nat) : bv (xs ++ ys) = bv xs ++ bv ys := by simp [bv]
theorem bv_one (xs : List Nat) : ∀ u ∈ bv xs, u.oneCell' = true := by
 intro u hu
 simp only [bv, List.mem_map] at hu
 obtain ⟨c, _, rfl⟩ := hu
 rfl
theorem info_u8 : (Tryd.prog.info? 5).map (fun i => (i.zero, i.size, i.bytes)) = some (some (.int .u8 0), 1, 1) := by kernel_rfl
theorem dg_pos (u : Nat) : 1 ≤ (dg u).length := by
 unfold dg
 rw [show (64 : Nat) = 63 + 1 from rfl, dgF]
 split <;> simp
def dgS : ByteArray := ⟨#[48, 49, 50, 51, 52, 53, 54, 55, 56, 57, 97, 98, 99, 100, 101, 102, 103, 104, 105, 106, 107, 108, 109, 110, 111, 112, 113, 114, 115, 116, 117, 118, 119, 120, 121, 122]⟩
theorem dg_all : (List.range 36).all (fun r => decide (dgS.data[r]? = some (UInt8.ofNat (dgc r)))) = true := by decide
theorem dg_nat (r : Nat) (h : r < 36) (hl : r < ({ data := #[48, 49, 50, 51, 52, 53, 54, 55, 56, 57, 97, 98, 99, 100, 101, 102, 103, 104, 105, 106, 107, 108, 109, 110, 111, 112, 113, 114, 115, 116, 117, 118, 119, 120, 121, 122] } : ByteArray).size) : (({ data := #[48, 49, 50, 51, 52, 53, 54, 55, 56, 57, 97, 98, 99, 100, 101, 102, 103, 104, 105, 106, 107, 108, 109, 110, 111, 112, 113, 114, 115, 116, 117, 118, 119, 120, 121, 122] } : ByteArray)[r]'hl).toNat = dgc r := by
 have h1 := List.all_eq_true.1 dg_all r (by simpa using h)
 have h2 : dgS.data[r]? = some (UInt8.ofNat (dgc r)) := by simpa using h1
 obtain ⟨h3, h4⟩ := Array.getElem?_eq_some_iff.1 h2
 have h5 : ({ data := #[48, 49, 50, 51, 52, 53, 54, 55, 56, 57, 97, 98, 99, 100, 101, 102, 103, 104, 105, 106, 107, 108, 109, 110, 111, 112, 113, 114, 115, 116, 117, 118, 119, 120, 121, 122] } : ByteArray)[r]'hl = UInt8.ofNat (dgc r) := h4
 rw [h5]
 have := dgc_lt h
 simp
 omega
theorem pow36 (W : World) : Calls Tryd.prog 93 #[.int .i64 36] W fun e w' => e = .returned (.bool false) ∧ w' = W := by
 go_enter Tryd.func93, Tryd.ntmps93
 go_wp2
 go_ret
 exact ⟨rfl, rfl⟩
set_option maxRecDepth 100000 in
set_option maxHeartbeats 4000000 in
theorem fb_any (B u n vc : Nat) (va : Option Addr) (xs : List Nat) (w : World) (hu : u < 2 ^ 64) (hown : w.ownsRow B 5 1 (.slice va n vc) n (bv xs)) (hB : B ≤ w.heap.size) (hn : n ≤ 1000000) :
 Calls Tryd.prog 89 #[.slice va n vc, .int .u64 (u : Int), .int .i64 36, .bool false, .bool true] w fun e w' => ∃ g cap, e = .returned (.tuple #[.slice (some ⟨g, 0, none⟩) (n + (dg u).length) cap, .string ⟨#[]⟩]) ∧ w'.ownsRow B 5 1 (.slice (some ⟨g, 0, none⟩) (n + (dg u).length) cap) (n + (dg u).length) (bv (xs ++ dg u)) ∧ w.grownBy w' (Value.slice va n vc).ownBlock := by
 have HOWN : Hid (w.ownsRow B 5 1 (.slice va n vc) n (bv xs)) := hown
 have HU : Hid (u < 2 ^ 64) := hu
 have hni : (n : Int) ≤ 1000000 := by omega
 have hpw := pow36
 have HPW : Hid (∀ W : World, Calls Tryd.prog 93 #[.int .i64 36] W fun e w' => e = .returned (.bool false) ∧ w' = W) := hpw
 obtain ⟨wA, hwA⟩ : ∃ wA, wA = w.alloc (.cells Tryd.zeroCells156 156) := ⟨_, rfl⟩
 obtain ⟨H, hH⟩ : ∃ H, H = w.heap.size := ⟨_, rfl⟩
 have HBA : Hid (Below w.heap.size w wA) := by rw [hwA]; exact (Below.refl _ w).alloc (Nat.le_refl _) _
 have HWA : Hid (wA.heap[H]? = some (.cells Tryd.zeroCells156 156)) := by show _ = _; rw [hwA, hH]; exact heap_alloc_new w _
 have HHW : Hid (H = w.heap.size) := hH
 obtain ⟨m, hm⟩ : ∃ m, m = (dg u).length := ⟨_, rfl⟩
 have HM : Hid (m = (dg u).length) := hm
 rw [← hm]
 clear hown hu hpw hm
 go_enter Tryd.func89, Tryd.ntmps89
 go_upto_region 7 with fail
 rw [← hH, ← hwA]
 clear hH hwA
 go_wp2_with fail
 refine (HPW.out _).mono ?_
 rintro e w1 ⟨rfl, hw1⟩
 subst hw1
 go_wp2
 go_loopw [1, 13, 18] (fun x1 x13 x18 wr => ∃ (k y : Nat) (sf : List Nat) (cur : Array Value), x1 = .int .u64 (y : Int) ∧ x13 = .int .i64 ((65 - k : Nat) : Int) ∧ y < 2 ^ 64 ∧ dg u = dg y ++ sf ∧ sf.length = k ∧ k ≤ 64 ∧ Below w.heap.size w wr ∧ wr.heap[H]? = some (.cells cur 156) ∧ cur.size = 65 ∧ ∀ j, j < k → cur[65 - k + j]? = (bv sf)[j]?) (fun x1 _ _ _ => (intOf x1).toNat)
 case atStart => exact ⟨0, u, [], Tryd.zeroCells156, rfl, rfl, HU.out, by simp, rfl, by omega, HBA.out, HWA.out, by kernel_rfl, fun j hj => by omega⟩
 case round =>
  obtain ⟨k, y, sf, cur, hx1, hx13, hy, hdg, hsf, hk, hbw, hcb, hcs, hcur⟩ := hrel
  subst hx1 hx13
  have HDG : Hid (dg u = dg y ++ sf) := hdg
  have HSF : Hid (sf.length = k) := hsf
  have HBW : Hid (Below w.heap.size w wr) := hbw
  have HCB : Hid (wr.heap[H]? = some (.cells cur 156) ∧ cur.size = 65 ∧ ∀ j, j < k → cur[65 - k + j]? = (bv sf)[j]?) := ⟨hcb, hcs, hcur⟩
  clear hdg hsf hbw hcb hcs hcur
  have hlen := dg_len u
  rw [HDG.out, List.length_append, HSF.out] at hlen
  by_cases hge : 36 ≤ y
  ·have hst := dg_step hge hy
   have hk2 : k + 2 ≤ 65 := by
    rw [hst, List.length_append] at hlen
    have : 1 ≤ (dg (y / 36)).length := dg_pos _
    simp at hlen
    omega
   obtain ⟨i, hi⟩ : ∃ i, i = 65 - k - 1 := ⟨_, rfl⟩
   have hii : ((65 - k : Nat) : Int) - 1 = (i : Int) := by omega
   have hi64 : (i : Int) < 65 := by omega
   obtain ⟨q, hq⟩ : ∃ q, q = y / 36 := ⟨_, rfl⟩
   obtain ⟨r, hr⟩ : ∃ r, r = y % 36 := ⟨_, rfl⟩
   have hqi : (y : Int) / 36 = (q : Int) := by omega
   have hrlt : r < 36 := by omega
   have hw1 : IntKind.u64.wrap ((q : Int) * 36) = (q : Int) * 36 := by rw [IntKind.wrap_u64]; omega
   have hw2 : IntKind.u64.wrap ((y : Int) - (q : Int) * 36) = (r : Int) := by rw [IntKind.wrap_u64]; omega
   have c0 : wr.cell? ⟨H, i, none⟩ = some (cur[i]'(by rw [HCB.out.2.1]; omega)) := (cell_of_row wr H i _ _ _ HCB.out.1).trans (Array.getElem?_eq_getElem _)
   obtain ⟨x0, hx0⟩ : ∃ x0, x0 = cur[i]'(by rw [HCB.out.2.1]; omega) := ⟨_, rfl⟩
   rw [← hx0] at c0
   have f0 : wr.frozen? ⟨H, i, none⟩ = false := Lib.frozen_of_heap HCB.out.1 i
   obtain ⟨d, hd⟩ : ∃ d, d = dgc r := ⟨_, rfl⟩
   have hdn := dg_nat r hrlt
   rw [← hd] at hdn
   obtain ⟨w2, hw2'⟩ : ∃ w2, w2 = wr.setCell ⟨H, i, none⟩ (.int .u8 (d : Int)) := ⟨_, rfl⟩
   have HN : Hid (q < 2 ^ 64 ∧ dg u = dg q ++ (d :: sf) ∧ (d :: sf).length = k + 1 ∧ k + 1 ≤ 64 ∧ Below w.heap.size w w2 ∧ w2.heap[H]? = some (.cells (cur.setIfInBounds i (.int .u8 (d : Int))) 156) ∧ (cur.setIfInBounds i (.int .u8 (d : Int))).size = 65 ∧ ∀ j, j < k + 1 → (cur.setIfInBounds i (.int .u8 (d : Int)))[65 - (k + 1) + j]? = (bv (d :: sf))[j]?) := by
    refine ⟨by omega, ?_, by simp [HSF.out], by omega, ?_, ?_, by simp [HCB.out.2.1], fun j hj => ?_⟩
    ·rw [HDG.out, hst, ← hq, ← hr, ← hd]; simp
    ·rw [hw2']; exact HBW.out.setCell (p := ⟨H, i, none⟩) (by show w.heap.size ≤ H; rw [HHW.out]; exact Nat.le_refl _) _
    ·rw [hw2']; exact heap_setCell_same wr H i _ _ _ HCB.out.1
    ·cases j with
     | zero =>
       rw [Nat.add_zero, show 65 - (k + 1) = i by omega, Array.getElem?_setIfInBounds, if_pos rfl, if_pos (by rw [HCB.out.2.1]; omega)]
       rfl
     | succ j =>
       rw [Array.getElem?_setIfInBounds_ne (by omega), show 65 - (k + 1) + (j + 1) = 65 - k + j by omega, HCB.out.2.2 j (by omega)]
       rfl
   have hm1 : ((65 - k : Nat) : Int) = 65 - (k : Int) := by omega
   have hik : 65 - (k : Int) - 1 = (i : Int) := by omega
   have HK1 : Hid ((65 - (k + 1) : Nat) = i) := by show _ = i; omega
   clear hx0 hlen hst hk2 hi hq hr hd
   go_upto_region 22 with fail
   rw [← hw2']
   clear hw2' c0 f0
   go_wp2
   go_roundw
   case rel => exact ⟨k + 1, q, d :: sf, _, rfl, by rw [HK1.out], HN.out.1, HN.out.2.1, HN.out.2.2.1, HN.out.2.2.2.1, HN.out.2.2.2.2.1, HN.out.2.2.2.2.2⟩
   case measure => simp [intOf]; omega
  ·have hlt36 : y < 36 := by omega
   obtain ⟨i, hi⟩ : ∃ i, i = 65 - k - 1 := ⟨_, rfl⟩
   have hik : 65 - (k : Int) - 1 = (i : Int) := by omega
   have hi64 : (i : Int) < 65 := by omega
   have hm1 : ((65 - k : Nat) : Int) = 65 - (k : Int) := by omega
   have c0 : wr.cell? ⟨H, i, none⟩ = some (cur[i]'(by rw [HCB.out.2.1]; omega)) := (cell_of_row wr H i _ _ _ HCB.out.1).trans (Array.getElem?_eq_getElem _)
   obtain ⟨x0, hx0⟩ : ∃ x0, x0 = cur[i]'(by rw [HCB.out.2.1]; omega) := ⟨_, rfl⟩
   rw [← hx0] at c0
   have f0 : wr.frozen? ⟨H, i, none⟩ = false := Lib.frozen_of_heap HCB.out.1 i
   obtain ⟨d, hd⟩ : ∃ d, d = dgc y := ⟨_, rfl⟩
   have hdn := dg_nat y hlt36
   rw [← hd] at hdn
   obtain ⟨w2, hw2'⟩ : ∃ w2, w2 = wr.setCell ⟨H, i, none⟩ (.int .u8 (d : Int)) := ⟨_, rfl⟩
   have HDU : Hid (dg u = d :: sf) := by show _ = _; rw [HDG.out, dg_one hlt36, ← hd]; rfl
   have HB2 : Hid (Below w.heap.size w w2) := by rw [hw2']; exact HBW.out.setCell (p := ⟨H, i, none⟩) (by show w.heap.size ≤ H; rw [HHW.out]; exact Nat.le_refl _) _
   have HC2 : Hid (∀ j v, (bv (dg u))[j]? = some v → w2.cell? ((⟨H, i, none⟩ : Addr).add j) = some v) := fun j v hv => by
    rw [HDU.out] at hv
    have hj : j < k + 1 := by
     have := (List.getElem?_eq_some_iff.1 hv).1
     rw [bv_len, List.length_cons, HSF.out] at this
     exact this
    have hh : w2.heap[H]? = some (.cells (cur.setIfInBounds i (.int .u8 (d : Int))) 156) := by rw [hw2']; exact heap_setCell_same wr H i _ _ _ HCB.out.1
    rw [add_lit, cell_of_row w2 H (i + j) _ _ _ hh]
    cases j with
    | zero =>
      rw [Nat.add_zero, Array.getElem?_setIfInBounds, if_pos rfl, if_pos (by rw [HCB.out.2.1]; omega), ← hv]
      rfl
    | succ j =>
      rw [Array.getElem?_setIfInBounds_ne (by omega), show i + (j + 1) = 65 - k + j by omega, HCB.out.2.2 j (by omega), ← hv]
      rfl
   have hmk : m = k + 1 := by rw [HM.out, HDU.out, List.length_cons, HSF.out]
   have hmi : 65 - i = m := by omega
   obtain ⟨i0, ji, jz0, jz1, jz2⟩ := info_parts info_u8
   have HJ : Hid (Tryd.prog.info? 5 = some i0 ∧ i0.zero = some (.int .u8 0) ∧ i0.size = 1 ∧ i0.bytes = 1) := ⟨ji, jz0, jz1, jz2⟩
   have HOW : Hid (w2.ownsRow B 5 1 (.slice va n vc) n (bv xs)) := own_later5 HOWN.out HB2.out
   have HBS : Hid (B ≤ w2.heap.size) := Nat.le_trans hB HB2.out.size
   have hsl : ∀ W : World, (Instr.sliceAt 156 (.pointer (some ⟨H, 0, none⟩)) (some (.int .i64 (i : Int))) none none).run Tryd.prog W = .ok (.slice (some ⟨H, i, none⟩) m m) W := by
    intro W
    have hA : Tryd.prog.arrayLen 156 = 65 := by kernel_rfl
    have hE : Tryd.prog.elem 156 = 5 := by kernel_rfl
    have hz := Tryd.sizeOf5 W
    rw [run_sliceAt_array_l W _ _ (by kernel_rfl) .i64 (i : Int) (by omega) (by rw [hA]; omega), hE, hz, hA]
    simp only [Result.andThen_ok, slicedAt, Int.toNat_natCast]
    rw [if_neg (by omega), add_lit, hmi]
    simp
   have hm65 : m ≤ 65 ∧ 0 < m := by omega
   clear hx0 hi hd ji jz0 jz1 jz2 hlen hmk hmi
   go_upto_region 25 with fail
   rw [← hw2']
   clear hw2' c0 f0
   go_wp2_with (at_builtin; refine wpList_append_lies _ rfl _ _ 129 rfl B 5 i0 _ 1 1 Tryd.underlying129 HJ.out.1 HJ.out.2.1 HJ.out.2.2.1 HJ.out.2.2.2 rfl (by decide) (.slice va n vc) n (bv xs) rfl HOW.out ⟨H, i, none⟩ m m (bv (dg u)) rfl (by rw [bv_len, ← HM.out]; omega) HC2.out (bv_one _) (by omega) (by unfold maxLen; omega) (by omega) HBS.out _ rfl (fun g cap w4 q1 q2 q3 q4 => ?_); have Q1 : Hid (w4.ownsRow B 5 1 (.slice (some ⟨g, 0, none⟩) (n + m) cap) (n + m) (bv xs ++ bv (dg u)) ∧ w2.grownBy w4 (Value.slice va n vc).ownBlock) := ⟨q1, q2⟩; clear q1 q2 q3 q4)
   have HFN : Hid (w4.ownsRow B 5 1 (.slice (some ⟨g, 0, none⟩) (n + m) cap) (n + m) (bv (xs ++ dg u)) ∧ w.grownBy w4 (Value.slice va n vc).ownBlock) := ⟨by rw [bv_app]; exact Q1.out.1, grown_all (grown_none HB2.out _) Q1.out.2⟩
   go_ret2
   exact ⟨g, cap, rfl, HFN.out⟩
end Go.Proofs.YtcafffohnokjgaaDoor

/- Numbers and truths as texts: the walks of AppendUint, AppendInt, AppendBool. -/
namespace Go.Proofs.YtcafffohnokjgaaDoor
open Go.RowKit Go.Shelf
set_option linter.unusedVariables false
set_option linter.unusedSimpArgs false

def ApB (B n : Nat) (va : Option Addr) (vc : Nat) (xs : List Nat) (ys : List Nat) (w : World) (e : Ending) (w' : World) : Prop :=
 ∃ g cap, e = .returned (.slice (some ⟨g, 0, none⟩) (n + ys.length) cap) ∧ w'.ownsRow B 5 1 (.slice (some ⟨g, 0, none⟩) (n + ys.length) cap) (n + ys.length) (bv (xs ++ ys)) ∧ w.grownBy w' (Value.slice va n vc).ownBlock
theorem au_in (B u n vc : Nat) (va : Option Addr) (xs : List Nat) (w : World) (hu : u < 2 ^ 64) (hown : w.ownsRow B 5 1 (.slice va n vc) n (bv xs)) (hB : B ≤ w.heap.size) (hn : n ≤ 1000000) :
 Calls Tryd.prog 82 #[.slice va n vc, .int .u64 (u : Int), .int .i64 36] w (ApB B n va vc xs (dg u) w) := by
 have HC : Hid (Calls Tryd.prog 89 #[.slice va n vc, .int .u64 (u : Int), .int .i64 36, .bool false, .bool true] w fun e w' => ∃ g cap, e = .returned (.tuple #[.slice (some ⟨g, 0, none⟩) (n + (dg u).length) cap, .string ⟨#[]⟩]) ∧ w'.ownsRow B 5 1 (.slice (some ⟨g, 0, none⟩) (n + (dg u).length) cap) (n + (dg u).length) (bv (xs ++ dg u)) ∧ w.grownBy w' (Value.slice va n vc).ownBlock) := fb_any B u n vc va xs w hu hown hB hn
 clear hu hown
 go_enter Tryd.func82, Tryd.ntmps82
 go_wp2_with fail
 refine HC.out.mono ?_
 rintro e w' ⟨g, cap, rfl, h1, h2⟩
 have HF : Hid (w'.ownsRow B 5 1 (.slice (some ⟨g, 0, none⟩) (n + (dg u).length) cap) (n + (dg u).length) (bv (xs ++ dg u)) ∧ w.grownBy w' (Value.slice va n vc).ownBlock) := ⟨h1, h2⟩
 clear h1 h2 HC
 go_wp2
 go_ret
 exact ⟨g, cap, rfl, HF.out⟩
theorem au_any (B u n vc : Nat) (va : Option Addr) (xs : List Nat) (w : World) (hu : u < 2 ^ 64) (hown : w.ownsRow B 5 1 (.slice va n vc) n (bv xs)) (hB : B ≤ w.heap.size) (hn : n ≤ 1000000) :
 Calls Tryd.prog 69 #[.slice va n vc, .int .u64 (u : Int), .int .i64 36] w (ApB B n va vc xs (dg u) w) := by
 have HC : Hid (Calls Tryd.prog 82 #[.slice va n vc, .int .u64 (u : Int), .int .i64 36] w (ApB B n va vc xs (dg u) w)) := au_in B u n vc va xs w hu hown hB hn
 clear hu hown
 go_enter Tryd.func69, Tryd.ntmps69
 go_wp2_with fail
 refine HC.out.mono ?_
 rintro e w' ⟨g, cap, rfl, h1, h2⟩
 have HF : Hid (w'.ownsRow B 5 1 (.slice (some ⟨g, 0, none⟩) (n + (dg u).length) cap) (n + (dg u).length) (bv (xs ++ dg u)) ∧ w.grownBy w' (Value.slice va n vc).ownBlock) := ⟨h1, h2⟩
 clear h1 h2 HC
 go_wp2
 go_ret
 exact ⟨g, cap, rfl, HF.out⟩
set_option maxRecDepth 100000 in
theorem ai_in (B u n vc : Nat) (va : Option Addr) (xs : List Nat) (w : World) (hu : u < 2 ^ 63) (hown : w.ownsRow B 5 1 (.slice va n vc) n (bv xs)) (hB : B ≤ w.heap.size) (hn : n ≤ 1000000) :
 Calls Tryd.prog 84 #[.slice va n vc, .int .i64 (u : Int), .int .i64 36] w (ApB B n va vc xs (dg u) w) := by
 have HC : Hid (Calls Tryd.prog 82 #[.slice va n vc, .int .u64 (u : Int), .int .i64 36] w (ApB B n va vc xs (dg u) w)) := au_in B u n vc va xs w (by omega) hown hB hn
 have hwr : IntKind.u64.wrap (u : Int) = (u : Int) := by rw [IntKind.wrap_u64]; omega
 clear hu hown
 go_enter Tryd.func84, Tryd.ntmps84
 go_wp2_with fail
 refine HC.out.mono ?_
 rintro e w' ⟨g, cap, rfl, h1, h2⟩
 have HF : Hid (w'.ownsRow B 5 1 (.slice (some ⟨g, 0, none⟩) (n + (dg u).length) cap) (n + (dg u).length) (bv (xs ++ dg u)) ∧ w.grownBy w' (Value.slice va n vc).ownBlock) := ⟨h1, h2⟩
 clear h1 h2 HC
 go_wp2
 go_ret
 exact ⟨g, cap, rfl, HF.out⟩
theorem ai_any (B u n vc : Nat) (va : Option Addr) (xs : List Nat) (w : World) (hu : u < 2 ^ 63) (hown : w.ownsRow B 5 1 (.slice va n vc) n (bv xs)) (hB : B ≤ w.heap.size) (hn : n ≤ 1000000) :
 Calls Tryd.prog 73 #[.slice va n vc, .int .i64 (u : Int), .int .i64 36] w (ApB B n va vc xs (dg u) w) := by
 have HC : Hid (Calls Tryd.prog 84 #[.slice va n vc, .int .i64 (u : Int), .int .i64 36] w (ApB B n va vc xs (dg u) w)) := ai_in B u n vc va xs w hu hown hB hn
 clear hu hown
 go_enter Tryd.func73, Tryd.ntmps73
 go_wp2_with fail
 refine HC.out.mono ?_
 rintro e w' ⟨g, cap, rfl, h1, h2⟩
 have HF : Hid (w'.ownsRow B 5 1 (.slice (some ⟨g, 0, none⟩) (n + (dg u).length) cap) (n + (dg u).length) (bv (xs ++ dg u)) ∧ w.grownBy w' (Value.slice va n vc).ownBlock) := ⟨h1, h2⟩
 clear h1 h2 HC
 go_wp2
 go_ret
 exact ⟨g, cap, rfl, HF.out⟩
theorem ab_in (b : Bool) (w : World) : Calls Tryd.prog 81 #[.slice none 0 0, .bool b] w (ApB w.heap.size 0 none 0 [] (bx b) w) := by
 have HO : Hid (w.ownsRow w.heap.size 5 1 (.slice none 0 0) 0 []) := ⟨rfl, .inl ⟨rfl, rfl⟩⟩
 obtain ⟨i0, ji, jz0, jz1, jz2⟩ := info_parts info_u8
 have HJ : Hid (Tryd.prog.info? 5 = some i0 ∧ i0.zero = some (.int .u8 0) ∧ i0.size = 1 ∧ i0.bytes = 1) := ⟨ji, jz0, jz1, jz2⟩
 have HFN : Hid (∀ (s : ByteArray) (v' : Value) (w' : World), s.size = (bx b).length → Lib.strCells s = bv (bx b) → w'.ownsRow w.heap.size 5 1 v' (0 + s.size) ([] ++ Lib.strCells s) → w.grownBy w' (Value.slice none 0 0).ownBlock → ApB w.heap.size 0 none 0 [] (bx b) w (.returned v') w') := fun s v' w' h1 h2 h3 h4 => by
  rw [h1, h2, List.nil_append] at h3
  rcases h3.2 with ⟨_, h0⟩ | ⟨g, cap, cur, rfl, _⟩
  ·have : (bx b).length ≠ 0 := by cases b <;> decide
   omega
  ·exact ⟨g, cap, rfl, h3, h4⟩
 clear ji jz0 jz1 jz2
 cases b with
 | true =>
   go_enter Tryd.func81, Tryd.ntmps81
   go_wp2_with (at_builtin; refine Lib.wpList_append_own_string _ rfl _ _ 129 9 rfl w.heap.size 5 i0 Tryd.underlying129 Tryd.underlying9 HJ.out.1 HJ.out.2.1 HJ.out.2.2.1 HJ.out.2.2.2 (.slice none 0 0) 0 [] rfl HO.out _ rfl (by decide) (by decide) (Nat.le_refl _) ?_; intro v' w' h1 h2 _; have HF : Hid (ApB w.heap.size 0 none 0 [] (bx true) w (.returned v') w') := HFN.out _ v' w' rfl rfl h1 h2; clear h1 h2)
   go_ret
   exact HF.out
 | false =>
   go_enter Tryd.func81, Tryd.ntmps81
   go_wp2_with (at_builtin; refine Lib.wpList_append_own_string _ rfl _ _ 129 9 rfl w.heap.size 5 i0 Tryd.underlying129 Tryd.underlying9 HJ.out.1 HJ.out.2.1 HJ.out.2.2.1 HJ.out.2.2.2 (.slice none 0 0) 0 [] rfl HO.out _ rfl (by decide) (by decide) (Nat.le_refl _) ?_; intro v' w' h1 h2 _; have HF : Hid (ApB w.heap.size 0 none 0 [] (bx false) w (.returned v') w') := HFN.out _ v' w' rfl rfl h1 h2; clear h1 h2)
   go_ret
   exact HF.out
theorem ab_any (b : Bool) (w : World) : Calls Tryd.prog 68 #[.slice none 0 0, .bool b] w (ApB w.heap.size 0 none 0 [] (bx b) w) := by
 have HC : Hid (Calls Tryd.prog 81 #[.slice none 0 0, .bool b] w (ApB w.heap.size 0 none 0 [] (bx b) w)) := ab_in b w
 go_enter Tryd.func68, Tryd.ntmps68
 go_wp2_with fail
 refine HC.out.mono ?_
 rintro e w' ⟨g, cap, rfl, h1, h2⟩
 have HF : Hid (w'.ownsRow w.heap.size 5 1 (.slice (some ⟨g, 0, none⟩) (0 + (bx b).length) cap) (0 + (bx b).length) (bv ([] ++ bx b)) ∧ w.grownBy w' (Value.slice none 0 0).ownBlock) := ⟨h1, h2⟩
 clear h1 h2 HC
 go_wp2
 go_ret
 exact ⟨g, cap, by rw [Nat.zero_add]; rfl, HF.out⟩
def tS (xs : List Nat) : ByteArray := strOfNums (intsN xs)
theorem tS_inj {xs ys : List Nat} (hx : ∀ c ∈ xs, c < 128) (hy : ∀ c ∈ ys, c < 128) (h : (tS xs).data.toList = (tS ys).data.toList) : xs = ys := by
 have h1 : ∀ zs : List Nat, (tS zs).data.toList = (intsN zs).map fun n => UInt8.ofNat n.toNat := fun zs => by simp [tS, strOfNums]
 rw [h1, h1] at h
 have hr : ∀ zs : List Nat, (∀ c ∈ zs, c < 128) → ∀ y ∈ intsN zs, 0 ≤ y ∧ y ≤ 255 := fun zs hz y hy => by
  simp only [intsN, List.mem_map] at hy
  obtain ⟨c, hc, rfl⟩ := hy
  have := hz c hc
  simp
  omega
 have h2 := map_inj _ _ (hr xs hx) (hr ys hy) h
 unfold intsN at h2
 exact (List.map_inj_right (fun a b e => Int.ofNat.inj e)).1 h2
theorem tS_size (xs : List Nat) : (tS xs).size = xs.length := by rw [tS, strOfNums_size]; simp [intsN]
theorem conv_own {w : World} {B n : Nat} {v : Value} {xs : List Nat} (h : w.ownsRow B 5 1 v n (bv xs)) : (convert 129 9 v).run Tryd.prog w = .ok (.string (tS xs)) w := by
 have hb : bv xs = (intsN xs).map (Value.int .u8) := by simp [bv, intsN]
 rw [hb] at h
 obtain ⟨a, cap, rfl, _, _, hl, hc⟩ := rd_own h
 by_cases hz : n = 0
 ·subst hz
  have hx : intsN xs = [] := List.eq_nil_of_length_eq_zero hl
  unfold tS
  rw [hx, run_convert_bytes_string w _ _ 5 _ 0 cap Tryd.underlying129 Tryd.underlying5 Tryd.underlying9]
  cases a <;> simp [Conv.bytesToString, loadCells]
  all_goals rfl
 ·obtain ⟨b, off, rfl, hcc⟩ := hc (by omega)
  exact run_convert_bytes_arg w 129 5 Tryd.underlying129 Tryd.underlying5 b off n cap (intsN xs) hl hcc 9 Tryd.underlying9
end Go.Proofs.YtcafffohnokjgaaDoor

/- The texts of spots, and of lists of numbers. -/
namespace Go.Proofs.YtcafffohnokjgaaDoor
open Go.RowKit Go.Shelf
set_option linter.unusedVariables false
set_option linter.unusedSimpArgs false

def wds7 (S : Nat) : List Nat := (List.range 7).map (nw S)
theorem wds7_take (S k : Nat) (h : k < 7) : (wds7 S).take (k + 1) = (wds7 S).take k ++ [nw S k] := by
 rw [take_snoc _ k (by simpa [wds7] using h)]
 simp [wds7]
theorem wds7_lt (S : Nat) : ∀ n ∈ wds7 S, n < 2 ^ 64 := by
 intro n hn
 simp only [wds7, List.mem_map] at hn
 obtain ⟨i, _, rfl⟩ := hn
 exact nw_lt S i
set_option maxRecDepth 100000 in
set_option maxHeartbeats 4000000 in
theorem text_any (S : Nat) (b : Bool) (w : World) : Calls Tryd.prog 53 #[spV (S, b)] w fun e w' => e = .returned (.string (tS (sx b (wds7 S)))) ∧ Below w.heap.size w w' := by
 obtain ⟨wA, hwA⟩ : ∃ wA, wA = w.alloc (.cells #[.int .u64 (nw S 0 : Int), .int .u64 (nw S 1 : Int), .int .u64 (nw S 2 : Int), .int .u64 (nw S 3 : Int), .int .u64 (nw S 4 : Int), .int .u64 (nw S 5 : Int), .int .u64 (nw S 6 : Int), .bool b] 102) := ⟨_, rfl⟩
 obtain ⟨H, hH⟩ : ∃ H, H = w.heap.size := ⟨_, rfl⟩
 obtain ⟨B, hB⟩ : ∃ B, B = wA.heap.size := ⟨_, rfl⟩
 have HBA : Hid (Below w.heap.size w wA) := by rw [hwA]; exact (Below.refl _ w).alloc (Nat.le_refl _) _
 have HA : Hid (wA.heap[H]? = some (.cells #[.int .u64 (nw S 0 : Int), .int .u64 (nw S 1 : Int), .int .u64 (nw S 2 : Int), .int .u64 (nw S 3 : Int), .int .u64 (nw S 4 : Int), .int .u64 (nw S 5 : Int), .int .u64 (nw S 6 : Int), .bool b] 102)) := by show _ = _; rw [hwA, hH]; exact heap_alloc_new w _
 have HBB0 : Hid (w.heap.size ≤ B) := by rw [hB]; exact HBA.out.size
 have HHB : Hid (H < B) := by show H < B; rw [hB, hwA, hH]; simp
 have HC : Hid (Calls Tryd.prog 68 #[.slice none 0 0, .bool b] wA (ApB B 0 none 0 [] (bx b) wA)) := by rw [hB]; exact ab_any b wA
 obtain ⟨i0, ji, jz0, jz1, jz2⟩ := info_parts info_u8
 have HJ : Hid (Tryd.prog.info? 5 = some i0 ∧ i0.zero = some (.int .u8 0) ∧ i0.size = 1 ∧ i0.bytes = 1) := ⟨ji, jz0, jz1, jz2⟩
 have e7 : wA.cell? ⟨H, 7, none⟩ = some (.bool b) := cell_of_row wA H 7 _ _ _ HA.out
 obtain ⟨V, hV⟩ : ∃ V, V = Value.agg (nsA S) := ⟨_, rfl⟩
 have HIX : Hid (∀ (k : Nat) (Wx : World), k < 7 → (Instr.index 100 V (.int .i64 (k : Int))).run Tryd.prog Wx = .ok (.int .u64 (nw S k : Int)) Wx) := by
  intro k Wx hk
  rw [hV]
  match k, hk with
  | 0, _ => rfl
  | 1, _ => rfl
  | 2, _ => rfl
  | 3, _ => rfl
  | 4, _ => rfl
  | 5, _ => rfl
  | 6, _ => rfl
 have HBA2 : Hid (B = wA.heap.size) := hB
 clear ji jz0 jz1 jz2 hB
 unfold spV nwV
 go_enter Tryd.func53, Tryd.ntmps53
 go_upto_region 1 with fail
 rw [← hH, ← hwA]
 clear hH hwA
 go_wp2_with fail
 refine HC.out.mono ?_
 rintro e w1 ⟨g, cap, rfl, ho1, hg1⟩
 rw [Nat.zero_add] at ho1 ⊢
 obtain ⟨n, hn⟩ : ∃ n, n = (bx b).length := ⟨_, rfl⟩
 have HN : Hid (n = (sx b ((wds7 S).take 0)).length) := by show _ = _; rw [hn]; simp [sx]
 have HO1 : Hid (w1.ownsRow B 5 1 (.slice (some ⟨g, 0, none⟩) n cap) n (bv (sx b ((wds7 S).take 0)))) := by
  show World.ownsRow _ _ _ _ _ _ _
  rw [hn]
  simpa [sx] using ho1
 have hb1 : Below wA.heap.size wA w1 := (Below.refl _ wA).grown hg1 (Nat.le_refl _) (fun k e => by cases e)
 have HB1 : Hid (Below w.heap.size w w1) := HBA.out.trans (hb1.mono HBA.out.size)
 have HBB1 : Hid (B ≤ w1.heap.size) := by rw [HBA2.out]; exact hb1.size
 have HH1 := (hb1.block H (Array.getElem?_eq_some_iff.1 HA.out).1).trans HA.out
 rw [← hn]
 clear ho1 hg1 hb1 hn HC e7
 have g0 : w1.cell? ⟨H, 0, none⟩ = some (.int .u64 (nw S 0 : Int)) := cell_of_row w1 H 0 _ _ _ HH1
 have g1 : w1.cell? ⟨H, 1, none⟩ = some (.int .u64 (nw S 1 : Int)) := cell_of_row w1 H 1 _ _ _ HH1
 have g2 : w1.cell? ⟨H, 2, none⟩ = some (.int .u64 (nw S 2 : Int)) := cell_of_row w1 H 2 _ _ _ HH1
 have g3 : w1.cell? ⟨H, 3, none⟩ = some (.int .u64 (nw S 3 : Int)) := cell_of_row w1 H 3 _ _ _ HH1
 have g4 : w1.cell? ⟨H, 4, none⟩ = some (.int .u64 (nw S 4 : Int)) := cell_of_row w1 H 4 _ _ _ HH1
 have g5 : w1.cell? ⟨H, 5, none⟩ = some (.int .u64 (nw S 5 : Int)) := cell_of_row w1 H 5 _ _ _ HH1
 have g6 : w1.cell? ⟨H, 6, none⟩ = some (.int .u64 (nw S 6 : Int)) := cell_of_row w1 H 6 _ _ _ HH1
 clear HH1
 go_wp2
 rw [show Value.agg #[.int .u64 (nw S 0 : Int), .int .u64 (nw S 1 : Int), .int .u64 (nw S 2 : Int), .int .u64 (nw S 3 : Int), .int .u64 (nw S 4 : Int), .int .u64 (nw S 5 : Int), .int .u64 (nw S 6 : Int)] = V from hV.symm]
 clear hV g0 g1 g2 g3 g4 g5 g6
 go_loopw [3, 5, 11] (fun x3 x5 x11 wr => ∃ (k n g cap : Nat), k ≤ 7 ∧ x11 = .int .i64 k ∧ x3 = .slice (some ⟨g, 0, none⟩) n cap ∧ n = (sx b ((wds7 S).take k)).length ∧ wr.ownsRow B 5 1 (.slice (some ⟨g, 0, none⟩) n cap) n (bv (sx b ((wds7 S).take k))) ∧ Below w.heap.size w wr ∧ B ≤ wr.heap.size) (fun _ _ x11 _ => 7 - (intOf x11).toNat)
 case atStart => exact ⟨0, n, g, cap, by omega, rfl, rfl, HN.out, HO1.out, HB1.out, HBB1.out⟩
 case round =>
  obtain ⟨k, n, g, cap, hk, hx11, hx3, hn, ho, hbw, hbb⟩ := hrel
  subst hx11 hx3
  have HN : Hid (n = (sx b ((wds7 S).take k)).length) := hn
  have HO : Hid (wr.ownsRow B 5 1 (.slice (some ⟨g, 0, none⟩) n cap) n (bv (sx b ((wds7 S).take k)))) := ho
  have HBW : Hid (Below w.heap.size w wr) := hbw
  have HBB : Hid (B ≤ wr.heap.size) := hbb
  have hnb : n ≤ 5 + 66 * 7 := by
   have h1 := sx_len b ((wds7 S).take k)
   have h2 : ((wds7 S).take k).length ≤ 7 := by rw [List.length_take]; omega
   rw [hn]
   exact Nat.le_trans h1 (Nat.add_le_add_left (Nat.mul_le_mul_left _ h2) _)
  clear hn ho hbw hbb
  by_cases hlt : k < 7
  ·have hki : (k : Int) < 7 := by omega
   have hrun := fun Wx => HIX.out k Wx hlt
   obtain ⟨X, hX⟩ : ∃ X, X = nw S k := ⟨_, rfl⟩
   have HX : Hid (X = nw S k ∧ X < 2 ^ 64) := ⟨hX, by rw [hX]; exact nw_lt S k⟩
   rw [← hX] at hrun
   clear hX
   go_upto_region 6 with (at_builtin; refine wpList_append_lies _ rfl _ _ 129 rfl B 5 i0 _ 1 1 Tryd.underlying129 HJ.out.1 HJ.out.2.1 HJ.out.2.2.1 HJ.out.2.2.2 rfl (by decide) (.slice (some ⟨g, 0, none⟩) n cap) n (bv (sx b ((wds7 S).take k))) rfl (own_later5 HO.out ((Below.refl _ wr).alloc (Nat.le_refl _) _)) ⟨wr.heap.size, 0, none⟩ 1 1 [.int .u8 32] rfl rfl (World.news_of_block (cs := #[.int .u8 32]) (t := 5) (fr := (0, 0)) (heap_alloc_new wr _)) (by simp [Value.oneCell']) (by omega) (by unfold maxLen; omega) (by omega) (by have := HBB.out; simp; omega) _ rfl (fun g2 cap2 w2 q1 q2 q3 q4 => ?_); have HO2 : Hid (w2.ownsRow B 5 1 (.slice (some ⟨g2, 0, none⟩) (n + 1) cap2) (n + 1) (bv ((sx b ((wds7 S).take k)) ++ [32]))) := (by rw [bv_app]; exact q1); have HB2 : Hid (Below w.heap.size w w2) := (HBW.out.alloc HBW.out.size _).grown q2 (Nat.le_trans HBW.out.size (by simp)) (fun k e => Nat.le_trans HBB0.out (own_lt HO.out e).1); have HBB2 : Hid (B ≤ w2.heap.size) := (by have h1 := HBB.out; have h2 := q2.size; simp at h2; show B ≤ _; omega); clear q1 q2 q3 q4)
   have HCU : Hid (Calls Tryd.prog 69 #[.slice (some ⟨g2, 0, none⟩) (n + 1) cap2, .int .u64 (X : Int), .int .i64 36] w2 (ApB B (n + 1) (some ⟨g2, 0, none⟩) cap2 (sx b ((wds7 S).take k) ++ [32]) (dg X) w2)) := au_any B X (n + 1) cap2 (some ⟨g2, 0, none⟩) _ w2 HX.out.2 HO2.out HBB2.out (by omega)
   go_wp2_with fail
   refine HCU.out.mono ?_
   rintro e w4 ⟨g4, cap4, rfl, ho4, hg4⟩
   have HF : Hid (n + 1 + (dg X).length = (sx b ((wds7 S).take (k + 1))).length ∧ w4.ownsRow B 5 1 (.slice (some ⟨g4, 0, none⟩) (n + 1 + (dg X).length) cap4) (n + 1 + (dg X).length) (bv (sx b ((wds7 S).take (k + 1)))) ∧ Below w.heap.size w w4 ∧ B ≤ w4.heap.size) := by
    have hs : sx b ((wds7 S).take (k + 1)) = (sx b ((wds7 S).take k) ++ [32]) ++ dg X := by rw [wds7_take S k hlt, sx_snoc, HX.out.1]
    rw [hs]
    refine ⟨?_, ho4, HB2.out.grown hg4 HB2.out.size (fun k e => Nat.le_trans HBB0.out (own_lt HO2.out e).1), Nat.le_trans HBB2.out hg4.size⟩
    rw [HN.out]
    simp only [List.length_append, List.length_cons, List.length_nil]; try omega
   clear ho4 hg4 HCU
   go_wp2
   go_roundw
   case rel => exact ⟨k + 1, _, g4, cap4, by omega, by go_num, rfl, HF.out⟩
   case measure => simp [intOf]; omega
  ·obtain rfl : k = 7 := by omega
   have hall : (wds7 S).take 7 = wds7 S := List.take_of_length_le (by simp [wds7])
   rw [hall] at HO
   have hcv := conv_own HO.out
   obtain ⟨TT, hTT⟩ : ∃ TT, TT = tS (sx b (wds7 S)) := ⟨_, rfl⟩
   rw [← hTT] at hcv
   have HTT : Hid (TT = tS (sx b (wds7 S))) := hTT
   clear hTT
   go_wp2
   go_ret
   exact ⟨by rw [← HTT.out]; rfl, HBW.out⟩
set_option maxRecDepth 100000 in
set_option maxHeartbeats 4000000 in
theorem textOf_any (l : List Nat) (a : Option Addr) (c : Nat) (w : World) (hrd : Rd .i64 w a l.length (intsN l)) (hl : l.length ≤ 1000) (hlt : ∀ n ∈ l, n < 2 ^ 63) : Calls Tryd.prog 57 #[.slice a l.length c] w fun e w' => e = .returned (.string (tS (tx l))) ∧ Below w.heap.size w w' := by
 obtain ⟨m, hm⟩ : ∃ m, m = l.length := ⟨_, rfl⟩
 obtain ⟨B, hB⟩ : ∃ B, B = w.heap.size := ⟨_, rfl⟩
 have HM : Hid (m = l.length) := hm
 have HRD : Hid (Rd .i64 w a m (intsN l)) := by rw [hm]; exact hrd
 have HLT : Hid (∀ n ∈ l, n < 2 ^ 63) := hlt
 have hmi : (m : Int) ≤ 1000 := by omega
 have HBB0 : Hid (w.heap.size ≤ B) := by rw [hB]; exact Nat.le_refl _
 have HBB1 : Hid (B ≤ w.heap.size) := by rw [hB]; exact Nat.le_refl _
 obtain ⟨i0, ji, jz0, jz1, jz2⟩ := info_parts info_u8
 have HJ : Hid (Tryd.prog.info? 5 = some i0 ∧ i0.zero = some (.int .u8 0) ∧ i0.size = 1 ∧ i0.bytes = 1) := ⟨ji, jz0, jz1, jz2⟩
 rw [← hm]
 clear ji jz0 jz1 jz2 hrd hl hlt hm hB
 go_enter Tryd.func57, Tryd.ntmps57
 go_wp2
 go_loopw [3, 5, 8] (fun x3 x5 x8 wr => ∃ (k n : Nat) (va : Option Addr) (cap : Nat), k ≤ m ∧ x8 = .int .i64 k ∧ x3 = .slice va n cap ∧ n = (tx (l.take k)).length ∧ wr.ownsRow B 5 1 (.slice va n cap) n (bv (tx (l.take k))) ∧ Below w.heap.size w wr ∧ B ≤ wr.heap.size) (fun _ _ x8 _ => m - (intOf x8).toNat)
 case atStart => exact ⟨0, 0, none, 0, by omega, rfl, rfl, rfl, ⟨rfl, .inl ⟨rfl, rfl⟩⟩, Below.refl _ w, HBB1.out⟩
 case round =>
  obtain ⟨k, n, va, cap, hk, hx8, hx3, hn, ho, hbw, hbb⟩ := hrel
  subst hx8 hx3
  have HN : Hid (n = (tx (l.take k)).length) := hn
  have HO0 : Hid (wr.ownsRow B 5 1 (.slice va n cap) n (bv (tx (l.take k)))) := ho
  have HBW0 : Hid (Below w.heap.size w wr) := hbw
  have HBB0' : Hid (B ≤ wr.heap.size) := hbb
  have hnb : n ≤ 66 * 1000 := by
   have h1 := tx_len (l.take k)
   have h2 : (l.take k).length ≤ 1000 := by rw [List.length_take]; have := HM.out; omega
   rw [hn]
   exact Nat.le_trans h1 (Nat.mul_le_mul_left _ h2)
  clear hn ho hbw hbb
  by_cases hlt : k < m
  ·have hkl : k < l.length := by rw [← HM.out]; exact hlt
   obtain ⟨b, off, rfl, hcl⟩ := HRD.out.2 (by omega)
   have hcc := upC HBW0.out (hcl k hlt)
   obtain ⟨X, hX⟩ : ∃ X, X = l[k] := ⟨_, rfl⟩
   rw [show (intsN l).getD k 0 = (X : Int) by rw [hX]; simp [intsN, List.getD_eq_getElem?_getD, hkl]] at hcc
   have HX : Hid (X = l[k] ∧ X < 2 ^ 63) := ⟨hX, by rw [hX]; exact HLT.out _ (List.getElem_mem hkl)⟩
   have hXi : (X : Int) ≤ 9223372036854775807 := by have := HX.out.2; omega
   have HCU : Hid (Calls Tryd.prog 73 #[.slice va n cap, .int .i64 (X : Int), .int .i64 36] wr (ApB B n va cap (tx (l.take k)) (dg X) wr)) := ai_any B X n cap va _ wr HX.out.2 HO0.out HBB0'.out (by omega)
   clear hX hcl hXi
   go_wp2_with fail
   refine HCU.out.mono ?_
   rintro e w1 ⟨g, cap1, rfl, ho1, hg1⟩
   obtain ⟨n1, hn1⟩ : ∃ n1, n1 = n + (dg X).length := ⟨_, rfl⟩
   have hn1b : n1 ≤ 67 * 1000 := by have := dg_len X; omega
   have HN1 : Hid (n1 = n + (dg X).length) := hn1
   rw [← hn1] at ho1 ⊢
   have HO : Hid (w1.ownsRow B 5 1 (.slice (some ⟨g, 0, none⟩) n1 cap1) n1 (bv (tx (l.take k) ++ dg X))) := ho1
   have HBW : Hid (Below w.heap.size w w1) := HBW0.out.grown hg1 HBW0.out.size (fun k e => Nat.le_trans HBB0.out (own_lt HO0.out e).1)
   have HBB : Hid (B ≤ w1.heap.size) := Nat.le_trans HBB0'.out hg1.size
   clear ho1 hg1 hn1 HCU hcc
   go_wp2_with (at_builtin; refine wpList_append_lies _ rfl _ _ 129 rfl B 5 i0 _ 1 1 Tryd.underlying129 HJ.out.1 HJ.out.2.1 HJ.out.2.2.1 HJ.out.2.2.2 rfl (by decide) (.slice (some ⟨g, 0, none⟩) n1 cap1) n1 (bv (tx (l.take k) ++ dg X)) rfl (own_later5 HO.out ((Below.refl _ w1).alloc (Nat.le_refl _) _)) ⟨w1.heap.size, 0, none⟩ 1 1 [.int .u8 32] rfl rfl (World.news_of_block (cs := #[.int .u8 32]) (t := 5) (fr := (0, 0)) (heap_alloc_new w1 _)) (by simp [Value.oneCell']) (by omega) (by unfold maxLen; omega) (by omega) (by have := HBB.out; simp; omega) _ rfl (fun g2 cap2 w2 q1 q2 q3 q4 => ?_); have HO2 : Hid (w2.ownsRow B 5 1 (.slice (some ⟨g2, 0, none⟩) (n1 + 1) cap2) (n1 + 1) (bv ((tx (l.take k) ++ dg X) ++ [32]))) := (by rw [bv_app]; exact q1); have HB2 : Hid (Below w.heap.size w w2) := (HBW.out.alloc HBW.out.size _).grown q2 (Nat.le_trans HBW.out.size (by simp)) (fun k e => Nat.le_trans HBB0.out (own_lt HO.out e).1); have HBB2 : Hid (B ≤ w2.heap.size) := (by have h1 := HBB.out; have h2 := q2.size; simp at h2; show B ≤ _; omega); clear q1 q2 q3 q4)
   have HF : Hid (n1 + 1 = (tx (l.take (k + 1))).length ∧ w2.ownsRow B 5 1 (.slice (some ⟨g2, 0, none⟩) (n1 + 1) cap2) (n1 + 1) (bv (tx (l.take (k + 1)))) ∧ Below w.heap.size w w2 ∧ B ≤ w2.heap.size) := by
    have hs : tx (l.take (k + 1)) = (tx (l.take k) ++ dg X) ++ [32] := by rw [take_snoc l k hkl, tx_snoc, HX.out.1]
    rw [hs]
    refine ⟨?_, HO2.out, HB2.out, HBB2.out⟩
    rw [HN1.out, HN.out]
    simp only [List.length_append, List.length_cons, List.length_nil]; try omega
   go_roundw
   case rel => exact ⟨k + 1, _, _, cap2, by omega, by go_num, rfl, HF.out⟩
   case measure => simp [intOf]; omega
  ·have hall : l.take k = l := List.take_of_length_le (by rw [← HM.out]; omega)
   rw [hall] at HO0
   have hcv := conv_own HO0.out
   obtain ⟨TT, hTT⟩ : ∃ TT, TT = tS (tx l) := ⟨_, rfl⟩
   rw [← hTT] at hcv
   have HTT : Hid (TT = tS (tx l)) := hTT
   clear hTT
   go_wp2
   go_ret
   exact ⟨by rw [← HTT.out]; rfl, HBW0.out⟩
end Go.Proofs.YtcafffohnokjgaaDoor

/- Keys get numbers as they are met: the walks of number. -/
namespace Go.Proofs.YtcafffohnokjgaaDoor
open Go.RowKit Go.Shelf Go.Maps
set_option linter.unusedVariables false
set_option linter.unusedSimpArgs false

def NumP (K : TypeId) (B : Nat) (ks : List Lit) (kl : Lit) (w : World) (e : Ending) (w' : World) : Prop :=
 ∃ (i : Nat) (ks' : List Lit), e = .returned (.int .i64 (i : Int)) ∧ w'.ownsMap Tryd.prog K (plainElem (H := Unit) Tryd.prog 3) B ks'.length (kD ks') ∧ w.grownBy w' (some B) ∧ Keysy ks' ∧ ks'[i]? = some kl ∧ ((ks' = ks ∧ i < ks.length) ∨ (kl ∉ ks ∧ ks' = ks ++ [kl] ∧ i = ks.length))
set_option maxHeartbeats 2000000 in
theorem num_str (B : Nat) (ks : List Lit) (s : ByteArray) (w : World) (hm : w.ownsMap Tryd.prog 9 (plainElem (H := Unit) Tryd.prog 3) B ks.length (kD ks)) (hk : Keysy ks) (hl : ks.length ≤ 1000000) (hs : s.size ≤ maxLen) :
 Calls Tryd.prog 67 #[.map (some B), .string s] w (NumP 9 B ks (.string s.data.toList) w) := by
 have law : Go.Maps.Keyed Tryd.prog 9 := string_keyed Tryd.underlying9
 have hkey : keyOf Tryd.prog 9 (.string s) = some (.string s.data.toList) := WideMaps.keyOf_string_mk Tryd.underlying9 hs
 have hlit : WideAt.IsKeyLit (.string s.data.toList) := by simp [WideAt.IsKeyLit]
 have zeroE : ∀ W : World, (zeroValue 3).run Tryd.prog W = .ok (.int .i64 0) W := fun W => Tryd.zeroValue3 W
 have HOWN : Hid (w.ownsMap Tryd.prog 9 (plainElem (H := Unit) Tryd.prog 3) B ks.length (kD ks)) := hm
 have HLAW : Hid (Go.Maps.Keyed Tryd.prog 9) := law
 have HKEY : Hid (keyOf Tryd.prog 9 (.string s) = some (.string s.data.toList)) := hkey
 have HZ : Hid (∀ W : World, (zeroValue 3).run Tryd.prog W = .ok (.int .i64 0) W) := zeroE
 have HK : Hid (Keysy ks) := hk
 obtain ⟨n, hn⟩ : ∃ n, n = ks.length := ⟨_, rfl⟩
 have HN : Hid (n = ks.length) := hn
 have HSZ : Hid (Maps.size (kD ks) = n) := by rw [hn]; exact kD_size ks hk
 have hni : (n : Int) ≤ 1000000 := by omega
 have HTY : Hid (Tryd.prog.underlying 127 = some (.map 9 3)) := Tryd.underlying127
 have hlen := hm.len Tryd.underlying127
 by_cases hin : (.string s.data.toList) ∈ ks
 ·obtain ⟨i, hi⟩ := List.getElem?_of_mem hin
  have hhas : Maps.has (kD ks) (.string s.data.toList) = true := (kD_has _ ks hk).2 hin
  have hat := kD_at (.lit (.int .i64 0)) ks hk i _ hi
  have hil := (List.getElem?_eq_some_iff.1 hi).1
  have HF : Hid (NumP 9 B ks (.string s.data.toList) w (.returned (.int .i64 (i : Int))) w) := ⟨i, ks, rfl, hm, grown_refl _ _, hk, hi, .inl ⟨rfl, hil⟩⟩
  have HAT : Hid ((kD ks).atKey (.string s.data.toList) (.lit (.int .i64 0)) = .lit (.int .i64 (i : Int))) := hat
  have HHAS : Hid (Maps.has (kD ks) (.string s.data.toList) = true) := hhas
  clear hm hk hl hin hi hil law hkey zeroE hlen hlit hn hat hhas
  go_enter Tryd.func67, Tryd.ntmps67
  go_wp2_with (at_lookup; refine wpList_lookup_own_ok_int _ rfl _ _ 127 rfl 9 3 .i64 HLAW.out HTY.out Tryd.underlying3 (HZ.out _) B ks.length (kD ks) rfl HOWN.out _ _ rfl HKEY.out ?_; intro c hat hwc; obtain rfl : c = (i : Int) := (by have h1 := HAT.out; rw [hat] at h1; cases h1; rfl); rw [HHAS.out]; clear hat hwc)
  go_ret
  exact HF.out
 ·have hhas : Maps.has (kD ks) (.string s.data.toList) = false := kD_no hk hin
  have HHAS : Hid (Maps.has (kD ks) (.string s.data.toList) = false) := hhas
  have HFN : Hid (∀ w1 : World, w1.ownsMap Tryd.prog 9 (plainElem (H := Unit) Tryd.prog 3) B (ks.length + 1) ((kD ks).put (.string s.data.toList) (.lit (.int .i64 (n : Int)))) → w.grownBy w1 (some B) → NumP 9 B ks (.string s.data.toList) w (.returned (.int .i64 (n : Int))) w1) := fun w1 h1 h2 => by
   rw [hn, ← kD_snoc] at h1
   exact ⟨ks.length, ks ++ [.string s.data.toList], by rw [hn], by simpa using h1, h2, hk.snoc hin hlit, by simp, .inr ⟨hin, rfl, rfl⟩⟩
  have hnm : ks.length < maxLen := by unfold maxLen; omega
  have HNM : Hid (ks.length < maxLen) := hnm
  have HPE : Hid (plainElem (H := Unit) Tryd.prog 3 (.int .i64 (n : Int)) = some (.lit (.int .i64 (n : Int)), [])) := plainElem_int Tryd.underlying3 (WalkArith.wf_i64 (by omega))
  rw [HSZ.out] at hlen
  clear hm hk hl hin law hkey zeroE hlit hn hhas hnm
  go_enter Tryd.func67, Tryd.ntmps67
  go_wp2_with (first
   | (at_lookup; refine wpList_lookup_own_ok_int _ rfl _ _ 127 rfl 9 3 .i64 HLAW.out HTY.out Tryd.underlying3 (HZ.out _) B ks.length (kD ks) rfl HOWN.out _ _ rfl HKEY.out ?_; intro c hat hwc; rw [HHAS.out]; clear hat hwc)
   | (at_len; refine wpList_len_own _ rfl _ 127 rfl 9 3 HTY.out _ B ks.length (kD ks) rfl HOWN.out ?_; rw [HSZ.out])
   | (at_mapUpdate; refine wpList_mapUpdate_own _ rfl _ _ _ 127 rfl 9 3 HLAW.out HTY.out _ B ks.length (kD ks) rfl HOWN.out HNM.out _ _ _ rfl rfl HKEY.out _ [] HPE.out ?_; intro w1 hown1 hgrow1; have HF : Hid (NumP 9 B ks (.string s.data.toList) w (.returned (.int .i64 (n : Int))) w1) := HFN.out w1 hown1 hgrow1; clear hown1 hgrow1))
  go_ret
  exact HF.out
set_option maxHeartbeats 2000000 in
theorem num_u64 (B : Nat) (ks : List Lit) (x : Nat) (w : World) (hm : w.ownsMap Tryd.prog 58 (plainElem (H := Unit) Tryd.prog 3) B ks.length (kD ks)) (hk : Keysy ks) (hl : ks.length ≤ 1000000) (hs : x < 2 ^ 64) :
 Calls Tryd.prog 74 #[.map (some B), .int .u64 (x : Int)] w (NumP 58 B ks (.int .u64 (x : Int)) w) := by
 have law : Go.Maps.Keyed Tryd.prog 58 := int_keyed Tryd.underlying58
 have hkey : keyOf Tryd.prog 58 (.int .u64 (x : Int)) = some (.int .u64 (x : Int)) := keyOf_int_mk Tryd.underlying58 (WalkArith.wf_u64 (by omega))
 have hlit : WideAt.IsKeyLit (.int .u64 (x : Int)) := by simp [WideAt.IsKeyLit]
 have zeroE : ∀ W : World, (zeroValue 3).run Tryd.prog W = .ok (.int .i64 0) W := fun W => Tryd.zeroValue3 W
 have HOWN : Hid (w.ownsMap Tryd.prog 58 (plainElem (H := Unit) Tryd.prog 3) B ks.length (kD ks)) := hm
 have HLAW : Hid (Go.Maps.Keyed Tryd.prog 58) := law
 have HKEY : Hid (keyOf Tryd.prog 58 (.int .u64 (x : Int)) = some (.int .u64 (x : Int))) := hkey
 have HZ : Hid (∀ W : World, (zeroValue 3).run Tryd.prog W = .ok (.int .i64 0) W) := zeroE
 have HK : Hid (Keysy ks) := hk
 obtain ⟨n, hn⟩ : ∃ n, n = ks.length := ⟨_, rfl⟩
 have HN : Hid (n = ks.length) := hn
 have HSZ : Hid (Maps.size (kD ks) = n) := by rw [hn]; exact kD_size ks hk
 have hni : (n : Int) ≤ 1000000 := by omega
 have HTY : Hid (Tryd.prog.underlying 136 = some (.map 58 3)) := Tryd.underlying136
 have hlen := hm.len Tryd.underlying136
 by_cases hin : (.int .u64 (x : Int)) ∈ ks
 ·obtain ⟨i, hi⟩ := List.getElem?_of_mem hin
  have hhas : Maps.has (kD ks) (.int .u64 (x : Int)) = true := (kD_has _ ks hk).2 hin
  have hat := kD_at (.lit (.int .i64 0)) ks hk i _ hi
  have hil := (List.getElem?_eq_some_iff.1 hi).1
  have HF : Hid (NumP 58 B ks (.int .u64 (x : Int)) w (.returned (.int .i64 (i : Int))) w) := ⟨i, ks, rfl, hm, grown_refl _ _, hk, hi, .inl ⟨rfl, hil⟩⟩
  have HAT : Hid ((kD ks).atKey (.int .u64 (x : Int)) (.lit (.int .i64 0)) = .lit (.int .i64 (i : Int))) := hat
  have HHAS : Hid (Maps.has (kD ks) (.int .u64 (x : Int)) = true) := hhas
  clear hm hk hl hin hi hil law hkey zeroE hlen hlit hn hat hhas
  go_enter Tryd.func74, Tryd.ntmps74
  go_wp2_with (at_lookup; refine wpList_lookup_own_ok_int _ rfl _ _ 136 rfl 58 3 .i64 HLAW.out HTY.out Tryd.underlying3 (HZ.out _) B ks.length (kD ks) rfl HOWN.out _ _ rfl HKEY.out ?_; intro c hat hwc; obtain rfl : c = (i : Int) := (by have h1 := HAT.out; rw [hat] at h1; cases h1; rfl); rw [HHAS.out]; clear hat hwc)
  go_ret
  exact HF.out
 ·have hhas : Maps.has (kD ks) (.int .u64 (x : Int)) = false := kD_no hk hin
  have HHAS : Hid (Maps.has (kD ks) (.int .u64 (x : Int)) = false) := hhas
  have HFN : Hid (∀ w1 : World, w1.ownsMap Tryd.prog 58 (plainElem (H := Unit) Tryd.prog 3) B (ks.length + 1) ((kD ks).put (.int .u64 (x : Int)) (.lit (.int .i64 (n : Int)))) → w.grownBy w1 (some B) → NumP 58 B ks (.int .u64 (x : Int)) w (.returned (.int .i64 (n : Int))) w1) := fun w1 h1 h2 => by
   rw [hn, ← kD_snoc] at h1
   exact ⟨ks.length, ks ++ [.int .u64 (x : Int)], by rw [hn], by simpa using h1, h2, hk.snoc hin hlit, by simp, .inr ⟨hin, rfl, rfl⟩⟩
  have hnm : ks.length < maxLen := by unfold maxLen; omega
  have HNM : Hid (ks.length < maxLen) := hnm
  have HPE : Hid (plainElem (H := Unit) Tryd.prog 3 (.int .i64 (n : Int)) = some (.lit (.int .i64 (n : Int)), [])) := plainElem_int Tryd.underlying3 (WalkArith.wf_i64 (by omega))
  rw [HSZ.out] at hlen
  clear hm hk hl hin law hkey zeroE hlit hn hhas hnm
  go_enter Tryd.func74, Tryd.ntmps74
  go_wp2_with (first
   | (at_lookup; refine wpList_lookup_own_ok_int _ rfl _ _ 136 rfl 58 3 .i64 HLAW.out HTY.out Tryd.underlying3 (HZ.out _) B ks.length (kD ks) rfl HOWN.out _ _ rfl HKEY.out ?_; intro c hat hwc; rw [HHAS.out]; clear hat hwc)
   | (at_len; refine wpList_len_own _ rfl _ 136 rfl 58 3 HTY.out _ B ks.length (kD ks) rfl HOWN.out ?_; rw [HSZ.out])
   | (at_mapUpdate; refine wpList_mapUpdate_own _ rfl _ _ _ 136 rfl 58 3 HLAW.out HTY.out _ B ks.length (kD ks) rfl HOWN.out HNM.out _ _ _ rfl rfl HKEY.out _ [] HPE.out ?_; intro w1 hown1 hgrow1; have HF : Hid (NumP 58 B ks (.int .u64 (x : Int)) w (.returned (.int .i64 (n : Int))) w1) := HFN.out w1 hown1 hgrow1; clear hown1 hgrow1))
  go_ret
  exact HF.out
end Go.Proofs.YtcafffohnokjgaaDoor

/- Numbers of many keys: rows of numbers in memory; the walks of numbers. -/
namespace Go.Proofs.YtcafffohnokjgaaDoor
open Go.RowKit Go.Shelf Go.Maps
set_option linter.unusedVariables false
set_option linter.unusedSimpArgs false

def iv (l : List Nat) : List Value := l.map (fun (c : Nat) => Value.int .i64 (c : Int))
def IRow (w : World) (b : Nat) (l : List Nat) : Prop := w.heap[b]? = some (.cells (iv l).toArray 3)
theorem IRow.rd {w : World} {b : Nat} {l : List Nat} (h : IRow w b l) : Rd .i64 w (some ⟨b, 0, none⟩) l.length (intsN l) := by
 refine ⟨by simp [intsN], fun _ => ⟨b, 0, rfl, fun i hi => ?_⟩⟩
 rw [Nat.zero_add, cell_of_row w b i _ _ _ h]
 simp [iv, intsN, List.getD_eq_getElem?_getD, hi]
theorem IRow.cell {w : World} {b : Nat} {l : List Nat} (h : IRow w b l) {i : Nat} (hi : i < l.length) : w.cell? ⟨b, i, none⟩ = some (.int .i64 (l[i] : Int)) := by
 rw [cell_of_row w b i _ _ _ h]
 simp [iv, hi]
theorem IRow.frozen {w : World} {b : Nat} {l : List Nat} (h : IRow w b l) (i : Nat) : w.frozen? ⟨b, i, none⟩ = false := Lib.frozen_of_heap h i
theorem IRow.set {w : World} {b : Nat} {l : List Nat} (h : IRow w b l) (i x : Nat) : IRow (w.setCell ⟨b, i, none⟩ (.int .i64 (x : Int))) b (l.set i x) := by
 unfold IRow
 rw [heap_setCell_same w b i _ _ _ h]
 simp [iv, List.map_set]
theorem IRow.later {w w' : World} {b : Nat} {l : List Nat} (h : IRow w b l) (hb : Below w.heap.size w w') : IRow w' b l := (hb.block b (Array.getElem?_eq_some_iff.1 h).1).trans h
theorem IRow.lt {w : World} {b : Nat} {l : List Nat} (h : IRow w b l) : b < w.heap.size := (Array.getElem?_eq_some_iff.1 h).1
theorem IRow.grown {w w' : World} {b g : Nat} {l : List Nat} (h : IRow w b l) (hg : w.grownBy w' (some g)) (hne : b ≠ g) : IRow w' b l := (hg.block b h.lt (fun e => hne (Option.some.inj e))).trans h
theorem made_one (v : Value) (n : Nat) : (madeCells #[v] n).toList = List.replicate n v := by
 apply List.ext_getElem
 ·simp [size_madeCells]
 ·intro i h1 h2
  simp [madeCells, Nat.mod_one]
theorem made_i (n : Nat) : (madeCells (Value.int .i64 0).cells (n * 1)) = (iv (List.replicate n 0)).toArray := by
 apply Array.ext'
 rw [Nat.mul_one]
 refine (made_one (.int .i64 0) n).trans ?_
 simp [iv]
theorem make_i (n : Nat) (hn : n ≤ 1000000) (W : World) : (Instr.makeSlice 26 (.int .i64 (n : Int)) (.int .i64 (n : Int))).run Tryd.prog W = .ok (.slice (some ⟨W.heap.size, 0, none⟩) n n) (W.alloc (.cells (iv (List.replicate n 0)).toArray 3)) := by
 obtain ⟨i0, hi, hz0, hz1, hz2⟩ := info_parts info_i
 have := run_make (P := Tryd.prog) W 26 3 i0 _ Tryd.underlying26 hi hz0 .i64 .i64 (n : Int) (n : Int) (by omega) (by omega) (by rw [hz2]; omega) (by omega)
 rw [show ((n : Int)).toNat = n by omega, hz1, made_i] at this
 exact this
structure NuP {α : Type} (lit : α → Lit) (keys : List α) (k : Nat) (ks : List Lit) (l : List Nat) : Prop where
 keysy : Keysy ks
 len : l.length = k
 at_ : ∀ i (hi : i < keys.length), i < k → ks[l.getD i 0]? = some (lit keys[i])
 met : metRow 0 l = some ks.length
 few : ks.length ≤ k
theorem NuP.done {α : Type} {lit : α → Lit} {keys : List α} {ks : List Lit} {l : List Nat} (hinj : ∀ i j (hi : i < keys.length) (hj : j < keys.length), lit keys[i] = lit keys[j] → keys[i] = keys[j]) (h : NuP lit keys keys.length ks l) : NumOf keys l ks.length := by
 refine ⟨h.len, h.met, fun i j hi hj => ⟨fun e => ?_, fun e => ?_⟩⟩
 ·have h1 := h.at_ i hi hi
  have h2 := h.at_ j hj hj
  rw [e, h2] at h1
  exact (hinj j i hj hi (Option.some.inj h1)).symm
 ·have h1 := h.at_ i hi hi
  have h2 := h.at_ j hj hj
  rw [e, ← h2] at h1
  obtain ⟨a1, a2⟩ := List.getElem?_eq_some_iff.1 h2
  obtain ⟨b1, b2⟩ := List.getElem?_eq_some_iff.1 (h1.trans h2)
  exact (List.getElem_inj h.keysy.1).1 (b2.trans a2.symm)
theorem NuP.step {α : Type} {lit : α → Lit} {keys : List α} {k : Nat} {ks ks' : List Lit} {l : List Nat} {i : Nat} (h : NuP lit keys k ks l) (hk : k < keys.length) (hks : Keysy ks') (hi : ks'[i]? = some (lit keys[k])) (hor : (ks' = ks ∧ i < ks.length) ∨ (lit keys[k] ∉ ks ∧ ks' = ks ++ [lit keys[k]] ∧ i = ks.length)) : NuP lit keys (k + 1) ks' (l ++ [i]) := by
 have hpre : ∀ j x, ks[j]? = some x → ks'[j]? = some x := fun j x hx => by
  rcases hor with ⟨rfl, _⟩ | ⟨_, rfl, _⟩
  ·exact hx
  ·rw [List.getElem?_append_left (List.getElem?_eq_some_iff.1 hx).1]; exact hx
 refine ⟨hks, by simp [h.len], fun j hj hjk => ?_, ?_, ?_⟩
 ·rcases Nat.lt_or_ge j k with h1 | h1
  ·rw [List.getD_eq_getElem?_getD, List.getElem?_append_left (by rw [h.len]; exact h1), ← List.getD_eq_getElem?_getD]
   exact hpre _ _ (h.at_ j hj h1)
  ·obtain rfl : j = k := by omega
   rw [List.getD_eq_getElem?_getD, List.getElem?_append_right (by rw [h.len]; exact Nat.le_refl _), h.len, Nat.sub_self]
   exact hi
 ·rw [metRow_app, h.met]
  simp only [Option.bind_some, metRow]
  rcases hor with ⟨rfl, h1⟩ | ⟨_, rfl, rfl⟩
  ·rw [if_pos h1]
  ·rw [if_neg (by omega), if_pos rfl]; simp
 ·rcases hor with ⟨rfl, _⟩ | ⟨_, rfl, _⟩
  ·have := h.few; omega
  ·have := h.few; simp; omega
set_option maxRecDepth 100000 in
set_option maxHeartbeats 4000000 in
theorem numsU (keys : List Nat) (a : Option Addr) (c : Nat) (w : World) (hrd : Rd .u64 w a keys.length (intsN keys)) (hlt : ∀ x ∈ keys, x < 2 ^ 64) (hl : keys.length ≤ 100000) :
 Calls Tryd.prog 58 #[.slice a keys.length c] w fun e w' => ∃ b l cnt, e = .returned (.tuple #[.slice (some ⟨b, 0, none⟩) keys.length keys.length, .int .i64 ((cnt : Nat) : Int)]) ∧ IRow w' b l ∧ NumOf keys l cnt ∧ Below w.heap.size w w' ∧ w.heap.size ≤ b := by
 obtain ⟨m, hm⟩ : ∃ m, m = keys.length := ⟨_, rfl⟩
 have HM : Hid (m = keys.length) := hm
 have hmi : (m : Int) ≤ 100000 := by omega
 have hmm := @run_makeMap Tryd.prog
 have hmk := make_i m (by omega)
 obtain ⟨wM, hwM⟩ : ∃ wM, wM = w.alloc (.map #[] 0) := ⟨_, rfl⟩
 obtain ⟨wA, hwA⟩ : ∃ wA, wA = wM.alloc (.cells (iv (List.replicate m 0)).toArray 3) := ⟨_, rfl⟩
 obtain ⟨H, hH⟩ : ∃ H, H = w.heap.size := ⟨_, rfl⟩
 have hMs : wM.heap.size = H + 1 := by rw [hwM, hH]; simp
 have HBM : Hid (Below w.heap.size w wM) := by rw [hwM]; exact (Below.refl _ w).alloc (Nat.le_refl _) _
 have HBA : Hid (Below w.heap.size w wA) := by rw [hwA]; exact HBM.out.alloc HBM.out.size _
 have HIR : Hid (IRow wA (H + 1) (List.replicate m 0)) := by show IRow _ _ _; rw [hwA, ← hMs]; exact heap_alloc_new wM _
 have HMP : Hid (wA.ownsMap Tryd.prog 58 (plainElem (H := Unit) Tryd.prog 3) H 0 (kD [])) := by rw [hwA, hwM, hH]; exact (World.ownsMap_made w _ _ _).alloc _
 have HH : Hid (w.heap.size ≤ H) := by rw [hH]; exact Nat.le_refl _
 have HRD : Hid (Rd .u64 w a m (intsN keys)) := by rw [hm]; exact hrd
 have HLT : Hid (∀ x ∈ keys, x < 2 ^ 64) := hlt
 clear hrd hlt
 rw [← hm]
 clear hl hm hMs
 go_enter Tryd.func58, Tryd.ntmps58
 go_upto_region 3 with fail
 rw [← hH, ← hwM, ← hwA]
 clear hH hwM hwA hmm hmk
 go_wp2
 go_loopw [6, 7, 14] (fun x6 x7 x14 wr => ∃ (k : Nat) (ks : List Lit) (l : List Nat), k ≤ m ∧ x14 = .int .i64 k ∧ NuP (fun x : Nat => Go.Lit.int .u64 (x : Int)) keys k ks l ∧ wr.ownsMap Tryd.prog 58 (plainElem (H := Unit) Tryd.prog 3) H ks.length (kD ks) ∧ IRow wr (H + 1) (l ++ List.replicate (m - k) 0) ∧ Below w.heap.size w wr) (fun _ _ x14 _ => m - (intOf x14).toNat)
 case atStart => exact ⟨0, [], [], by omega, rfl, ⟨⟨List.nodup_nil, fun k hk => (by simp at hk)⟩, rfl, fun i _ hi => (by omega), rfl, by simp⟩, HMP.out, by simpa using HIR.out, HBA.out⟩
 case round =>
  obtain ⟨k, ks, l, hk, hx14, hnu, hown, hir, hbw⟩ := hrel
  subst hx14
  have HNU : Hid (NuP (fun x : Nat => Go.Lit.int .u64 (x : Int)) keys k ks l) := hnu
  have HOWN : Hid (wr.ownsMap Tryd.prog 58 (plainElem (H := Unit) Tryd.prog 3) H ks.length (kD ks)) := hown
  have HIW : Hid (IRow wr (H + 1) (l ++ List.replicate (m - k) 0)) := hir
  have HBW : Hid (Below w.heap.size w wr) := hbw
  clear hnu hown hir hbw
  by_cases hlt : k < m
  ·have hkl : k < keys.length := by rw [← HM.out]; exact hlt
   obtain ⟨b, off, rfl, hcl⟩ := HRD.out.2 (by omega)
   have hcc := upC HBW.out (hcl k hlt)
   obtain ⟨X, hX⟩ : ∃ X, X = keys[k] := ⟨_, rfl⟩
   rw [show (intsN keys).getD k 0 = (X : Int) by rw [hX]; simp [intsN, List.getD_eq_getElem?_getD, hkl]] at hcc
   have HXL : Hid (X = keys[k]) := hX
   have HC : Hid (Calls Tryd.prog 74 #[.map (some H), .int .u64 (X : Int)] wr (NumP 58 H ks (.int .u64 (X : Int)) wr)) := num_u64 H ks X wr HOWN.out HNU.out.keysy (by have := HNU.out.few; omega) (by rw [hX]; exact HLT.out _ (List.getElem_mem hkl))
   clear hX hcl
   go_wp2_with fail
   refine HC.out.mono ?_
   rintro e w1 ⟨i, ks', rfl, hown1, hg1, hks1, hi1, hor1⟩
   have hir1 := HIW.out.grown hg1 (by omega)
   have hlw : k < (l ++ List.replicate (m - k) 0).length := by simp [HNU.out.len]; omega
   have c1 := hir1.cell hlw
   obtain ⟨x0, hx0⟩ : ∃ x0, x0 = (l ++ List.replicate (m - k) 0)[k] := ⟨_, rfl⟩
   rw [← hx0] at c1
   have f1 := hir1.frozen k
   obtain ⟨w2, hw2⟩ : ∃ w2, w2 = w1.setCell ⟨H + 1, k, none⟩ (.int .i64 (i : Int)) := ⟨_, rfl⟩
   have HF : Hid (NuP (fun x : Nat => Go.Lit.int .u64 (x : Int)) keys (k + 1) ks' (l ++ [i]) ∧ w2.ownsMap Tryd.prog 58 (plainElem (H := Unit) Tryd.prog 3) H ks'.length (kD ks') ∧ IRow w2 (H + 1) ((l ++ [i]) ++ List.replicate (m - (k + 1)) 0) ∧ Below w.heap.size w w2) := by
    refine ⟨HNU.out.step hkl hks1 (HXL.out ▸ hi1) (HXL.out ▸ hor1), ?_, ?_, ?_⟩
    ·rw [hw2]; exact hown1.setCell (by show H ≠ H + 1; omega) _
    ·rw [hw2]
     have h1 := hir1.set k i
     have h2 : (l ++ List.replicate (m - k) 0).set k i = (l ++ [i]) ++ List.replicate (m - (k + 1)) 0 := by
      rw [List.set_append_right _ _ (by rw [HNU.out.len]; exact Nat.le_refl _), HNU.out.len, Nat.sub_self, show m - k = (m - (k + 1)) + 1 by omega, List.replicate_succ, List.set_cons_zero, List.append_assoc]
      rfl
     rw [h2] at h1
     exact h1
    ·rw [hw2]
     exact (HBW.out.grown hg1 HBW.out.size (fun j e => by cases e; exact HH.out)).setCell (p := ⟨H + 1, k, none⟩) (by show w.heap.size ≤ H + 1; have := HH.out; omega) _
   clear hown1 hg1 hks1 hi1 hor1 hir1 hx0 HC hlw
   go_wp2_with fail
   rw [← hw2]
   clear hw2 c1 f1
   go_roundw
   case rel => exact ⟨k + 1, ks', l ++ [i], by omega, by go_num, HF.out⟩
   case measure => simp [intOf]; omega
  ·obtain rfl : k = m := by omega
   have hlen := HOWN.out.len (e := 3) Tryd.underlying136
   rw [kD_size ks HNU.out.keysy] at hlen
   have HF : Hid (IRow wr (H + 1) l ∧ NumOf keys l ks.length ∧ Below w.heap.size w wr ∧ w.heap.size ≤ H + 1) := by
    have h1 := HNU.out
    rw [HM.out] at h1
    exact ⟨by have := HIW.out; rw [Nat.sub_self] at this; simpa using this, h1.done (fun i j hi hj e => by have := (Go.Lit.int.inj e).2; omega), HBW.out, by have := HH.out; omega⟩
   go_wp2
   go_ret2
   exact ⟨H + 1, l, ks.length, rfl, HF.out⟩
end Go.Proofs.YtcafffohnokjgaaDoor

/- Numbers of many texts. -/
namespace Go.Proofs.YtcafffohnokjgaaDoor
open Go.RowKit Go.Shelf Go.Maps
set_option linter.unusedVariables false
set_option linter.unusedSimpArgs false

def TRow (w : World) (a : Option Addr) (b : Nat) (ts : List (List Nat)) : Prop := a = some ⟨b, 0, none⟩ ∧ ∀ i (hi : i < ts.length), w.cell? ⟨b, i, none⟩ = some (.string (tS ts[i]))
set_option maxRecDepth 100000 in
set_option maxHeartbeats 4000000 in
theorem numsS (keys : List (List Nat)) (a : Option Addr) (c : Nat) (w : World) (b0 : Nat) (hrd : TRow w a b0 keys) (hlt : ∀ x ∈ keys, x.length ≤ 1000000 ∧ ∀ c ∈ x, c < 128) (hl : keys.length ≤ 100000) :
 Calls Tryd.prog 59 #[.slice a keys.length c] w fun e w' => ∃ b l cnt, e = .returned (.tuple #[.slice (some ⟨b, 0, none⟩) keys.length keys.length, .int .i64 ((cnt : Nat) : Int)]) ∧ IRow w' b l ∧ NumOf keys l cnt ∧ Below w.heap.size w w' ∧ w.heap.size ≤ b := by
 obtain ⟨m, hm⟩ : ∃ m, m = keys.length := ⟨_, rfl⟩
 have HM : Hid (m = keys.length) := hm
 have hmi : (m : Int) ≤ 100000 := by omega
 have hmm := @run_makeMap Tryd.prog
 have hmk := make_i m (by omega)
 obtain ⟨wM, hwM⟩ : ∃ wM, wM = w.alloc (.map #[] 0) := ⟨_, rfl⟩
 obtain ⟨wA, hwA⟩ : ∃ wA, wA = wM.alloc (.cells (iv (List.replicate m 0)).toArray 3) := ⟨_, rfl⟩
 obtain ⟨H, hH⟩ : ∃ H, H = w.heap.size := ⟨_, rfl⟩
 have hMs : wM.heap.size = H + 1 := by rw [hwM, hH]; simp
 have HBM : Hid (Below w.heap.size w wM) := by rw [hwM]; exact (Below.refl _ w).alloc (Nat.le_refl _) _
 have HBA : Hid (Below w.heap.size w wA) := by rw [hwA]; exact HBM.out.alloc HBM.out.size _
 have HIR : Hid (IRow wA (H + 1) (List.replicate m 0)) := by show IRow _ _ _; rw [hwA, ← hMs]; exact heap_alloc_new wM _
 have HMP : Hid (wA.ownsMap Tryd.prog 9 (plainElem (H := Unit) Tryd.prog 3) H 0 (kD [])) := by rw [hwA, hwM, hH]; exact (World.ownsMap_made w _ _ _).alloc _
 have HH : Hid (w.heap.size ≤ H) := by rw [hH]; exact Nat.le_refl _
 have HRD : Hid (TRow w a b0 keys) := hrd
 obtain rfl : a = some ⟨b0, 0, none⟩ := hrd.1
 have HLT : Hid (∀ x ∈ keys, x.length ≤ 1000000 ∧ ∀ c ∈ x, c < 128) := hlt
 clear hrd hlt
 rw [← hm]
 clear hl hm hMs
 go_enter Tryd.func59, Tryd.ntmps59
 go_upto_region 3 with fail
 rw [← hH, ← hwM, ← hwA]
 clear hH hwM hwA hmm hmk
 go_wp2
 go_loopw [6, 7, 14] (fun x6 x7 x14 wr => ∃ (k : Nat) (ks : List Lit) (l : List Nat), k ≤ m ∧ x14 = .int .i64 k ∧ NuP (fun x : List Nat => Go.Lit.string (tS x).data.toList) keys k ks l ∧ wr.ownsMap Tryd.prog 9 (plainElem (H := Unit) Tryd.prog 3) H ks.length (kD ks) ∧ IRow wr (H + 1) (l ++ List.replicate (m - k) 0) ∧ Below w.heap.size w wr) (fun _ _ x14 _ => m - (intOf x14).toNat)
 case atStart => exact ⟨0, [], [], by omega, rfl, ⟨⟨List.nodup_nil, fun k hk => (by simp at hk)⟩, rfl, fun i _ hi => (by omega), rfl, by simp⟩, HMP.out, by simpa using HIR.out, HBA.out⟩
 case round =>
  obtain ⟨k, ks, l, hk, hx14, hnu, hown, hir, hbw⟩ := hrel
  subst hx14
  have HNU : Hid (NuP (fun x : List Nat => Go.Lit.string (tS x).data.toList) keys k ks l) := hnu
  have HOWN : Hid (wr.ownsMap Tryd.prog 9 (plainElem (H := Unit) Tryd.prog 3) H ks.length (kD ks)) := hown
  have HIW : Hid (IRow wr (H + 1) (l ++ List.replicate (m - k) 0)) := hir
  have HBW : Hid (Below w.heap.size w wr) := hbw
  clear hnu hown hir hbw
  by_cases hlt : k < m
  ·have hkl : k < keys.length := by rw [← HM.out]; exact hlt
   have hcc := upC HBW.out (HRD.out.2 k hkl)
   obtain ⟨X, hX⟩ : ∃ X, X = keys[k] := ⟨_, rfl⟩
   have hcl : True := trivial
   rw [← hX] at hcc
   have HXL : Hid (X = keys[k]) := hX
   have HC : Hid (Calls Tryd.prog 67 #[.map (some H), .string (tS X)] wr (NumP 9 H ks (.string (tS X).data.toList) wr)) := num_str H ks (tS X) wr HOWN.out HNU.out.keysy (by have := HNU.out.few; omega) (by rw [tS_size, hX]; have := (HLT.out _ (List.getElem_mem hkl)).1; unfold maxLen; omega)
   clear hX hcl
   go_wp2_with fail
   refine HC.out.mono ?_
   rintro e w1 ⟨i, ks', rfl, hown1, hg1, hks1, hi1, hor1⟩
   have hir1 := HIW.out.grown hg1 (by omega)
   have hlw : k < (l ++ List.replicate (m - k) 0).length := by simp [HNU.out.len]; omega
   have c1 := hir1.cell hlw
   obtain ⟨x0, hx0⟩ : ∃ x0, x0 = (l ++ List.replicate (m - k) 0)[k] := ⟨_, rfl⟩
   rw [← hx0] at c1
   have f1 := hir1.frozen k
   obtain ⟨w2, hw2⟩ : ∃ w2, w2 = w1.setCell ⟨H + 1, k, none⟩ (.int .i64 (i : Int)) := ⟨_, rfl⟩
   have HF : Hid (NuP (fun x : List Nat => Go.Lit.string (tS x).data.toList) keys (k + 1) ks' (l ++ [i]) ∧ w2.ownsMap Tryd.prog 9 (plainElem (H := Unit) Tryd.prog 3) H ks'.length (kD ks') ∧ IRow w2 (H + 1) ((l ++ [i]) ++ List.replicate (m - (k + 1)) 0) ∧ Below w.heap.size w w2) := by
    refine ⟨HNU.out.step hkl hks1 (HXL.out ▸ hi1) (HXL.out ▸ hor1), ?_, ?_, ?_⟩
    ·rw [hw2]; exact hown1.setCell (by show H ≠ H + 1; omega) _
    ·rw [hw2]
     have h1 := hir1.set k i
     have h2 : (l ++ List.replicate (m - k) 0).set k i = (l ++ [i]) ++ List.replicate (m - (k + 1)) 0 := by
      rw [List.set_append_right _ _ (by rw [HNU.out.len]; exact Nat.le_refl _), HNU.out.len, Nat.sub_self, show m - k = (m - (k + 1)) + 1 by omega, List.replicate_succ, List.set_cons_zero, List.append_assoc]
      rfl
     rw [h2] at h1
     exact h1
    ·rw [hw2]
     exact (HBW.out.grown hg1 HBW.out.size (fun j e => by cases e; exact HH.out)).setCell (p := ⟨H + 1, k, none⟩) (by show w.heap.size ≤ H + 1; have := HH.out; omega) _
   clear hown1 hg1 hks1 hi1 hor1 hir1 hx0 HC hlw
   go_wp2_with fail
   rw [← hw2]
   clear hw2 c1 f1
   go_roundw
   case rel => exact ⟨k + 1, ks', l ++ [i], by omega, by go_num, HF.out⟩
   case measure => simp [intOf]; omega
  ·obtain rfl : k = m := by omega
   have hlen := HOWN.out.len (e := 3) Tryd.underlying127
   rw [kD_size ks HNU.out.keysy] at hlen
   have HF : Hid (IRow wr (H + 1) l ∧ NumOf keys l ks.length ∧ Below w.heap.size w wr ∧ w.heap.size ≤ H + 1) := by
    have h1 := HNU.out
    rw [HM.out] at h1
    exact ⟨by have := HIW.out; rw [Nat.sub_self] at this; simpa using this, h1.done (fun i j hi hj e => tS_inj (HLT.out _ (List.getElem_mem hi)).2 (HLT.out _ (List.getElem_mem hj)).2 (Go.Lit.string.inj e)), HBW.out, by have := HH.out; omega⟩
   go_wp2
   go_ret2
   exact ⟨H + 1, l, ks.length, rfl, HF.out⟩
end Go.Proofs.YtcafffohnokjgaaDoor

/- Sets of nodes held against none. -/
namespace Go.Proofs.YtcafffohnokjgaaDoor
open Go.RowKit Go.Shelf
set_option linter.unusedVariables false
set_option linter.unusedSimpArgs false

theorem eq_ns (a0 a1 a2 a3 a4 a5 a6 : Int) (W : World) : (Op.equalIn 10000 100 (.agg #[.int .u64 a0, .int .u64 a1, .int .u64 a2, .int .u64 a3, .int .u64 a4, .int .u64 a5, .int .u64 a6]) (.agg #[.int .u64 0, .int .u64 0, .int .u64 0, .int .u64 0, .int .u64 0, .int .u64 0, .int .u64 0])).run Tryd.prog W = .ok ((a0 == 0) && (a1 == 0) && (a2 == 0) && (a3 == 0) && (a4 == 0) && (a5 == 0) && (a6 == 0)) W := by
 have u := Tryd.underlying58
 have z := Tryd.sizeOf58
 have a := Tryd.isAgg58
 obtain ⟨i0, hi, h0, h1, h2⟩ := info_parts (show (Tryd.prog.info? 58).map (fun i => (i.zero, i.size, i.bytes)) = some (some (.int .u64 0), 1, 8) by kernel_rfl)
 have hu : Tryd.prog.underlying 100 = some (.array 7 58) := by kernel_rfl
 have hc : Tryd.prog.cellsOf 58 = 1 := by kernel_rfl
 rw [show (10000 : Nat) = 9999 + 1 from rfl, run_equalIn_array W 9999 _ _ hu hi, hc, show List.range 7 = [0, 1, 2, 3, 4, 5, 6] from rfl, show (9999 : Nat) = 9998 + 1 from rfl]
 simp only [Op.eqItems]
 go_simp
 (repeat' split) <;> simp_all
theorem nw_none {X : Nat} (h : ∀ p, X.testBit p = true → p < 448) : (((nw X 0 : Int) == 0) && ((nw X 1 : Int) == 0) && ((nw X 2 : Int) == 0) && ((nw X 3 : Int) == 0) && ((nw X 4 : Int) == 0) && ((nw X 5 : Int) == 0) && ((nw X 6 : Int) == 0)) = decide (X = 0) := by
 by_cases hX : X = 0
 ·subst hX
  simp [nw_zero]
 ·rw [decide_eq_false hX, Bool.eq_false_iff]
  intro hall
  apply hX
  apply Nat.eq_of_testBit_eq
  intro p
  rw [Nat.zero_testBit, Bool.eq_false_iff]
  intro hp
  have hlt := h p hp
  simp only [Bool.and_eq_true, beq_iff_eq] at hall
  have hz : ∀ i, i < 7 → nw X i = 0 := fun i hi => by
   match i, hi with
   | 0, _ => omega
   | 1, _ => omega
   | 2, _ => omega
   | 3, _ => omega
   | 4, _ => omega
   | 5, _ => omega
   | 6, _ => omega
  have h1 := nw_bit X (p / 64) (p % 64)
  rw [hz (p / 64) (by omega), Nat.zero_testBit, show 64 * (p / 64) + p % 64 = p by omega, hp, decide_eq_true (show p % 64 < 64 by omega)] at h1
  cases h1
end Go.Proofs.YtcafffohnokjgaaDoor

/- The walk of step. -/
namespace Go.Proofs.YtcafffohnokjgaaDoor
open Go.RowKit Go.Shelf
set_option linter.unusedVariables false
set_option linter.unusedSimpArgs false
attribute [local go_sem] Oper.semAt_some

theorem tkM_lt (c : Int) (l : Pl) (p : Nat) (h : (tkM c l 0).testBit p = true) : p < l.length := by
 rw [tkM_bit] at h
 obtain ⟨j, e, h1, h2, _⟩ := h
 have := (List.getElem?_eq_some_iff.1 h2).1
 omega
def spC (S : Nat) (b : Bool) : Array Value := #[nwV S 0, nwV S 1, nwV S 2, nwV S 3, nwV S 4, nwV S 5, nwV S 6, .bool b]
theorem spC_ns (S : Nat) (b : Bool) : NsIn (spC S b) 0 S := fun i hi => by
 match i, hi with
 | 0, _ => rfl
 | 1, _ => rfl
 | 2, _ => rfl
 | 3, _ => rfl
 | 4, _ => rfl
 | 5, _ => rfl
 | 6, _ => rfl
theorem jn_sp {S T : Nat} {b : Bool} {cs' : Array Value} (h : JnP (spC S b) cs' 0 7 S T) : cs' = spC (S ||| T) b := by
 apply Array.ext_getElem?
 intro i
 by_cases hi : i < 8
 ·match i, hi with
  | 0, _ => exact (by have := h.done 0 (by omega); rw [Nat.zero_add] at this; exact this)
  | 1, _ => exact (by have := h.done 1 (by omega); rw [Nat.zero_add] at this; exact this)
  | 2, _ => exact (by have := h.done 2 (by omega); rw [Nat.zero_add] at this; exact this)
  | 3, _ => exact (by have := h.done 3 (by omega); rw [Nat.zero_add] at this; exact this)
  | 4, _ => exact (by have := h.done 4 (by omega); rw [Nat.zero_add] at this; exact this)
  | 5, _ => exact (by have := h.done 5 (by omega); rw [Nat.zero_add] at this; exact this)
  | 6, _ => exact (by have := h.done 6 (by omega); rw [Nat.zero_add] at this; exact this)
  | 7, _ => exact h.rest 7 (by omega)
 ·rw [Array.getElem?_eq_none (by rw [h.size]; show 8 ≤ i; omega), Array.getElem?_eq_none (by show 8 ≤ i; omega)]
theorem four_0 (w : World) (a b c d : Obj) : ((((w.alloc a).alloc b).alloc c).alloc d).heap[w.heap.size]? = some a :=
 (((((Below.refl _ (w.alloc a)).alloc (Nat.le_refl _) b).alloc (by simp) c).alloc (by simp; try omega) d).block w.heap.size (by simp)).trans (heap_alloc_new w a)
theorem four_1 (w : World) (a b c d : Obj) : ((((w.alloc a).alloc b).alloc c).alloc d).heap[w.heap.size + 1]? = some b := by
 have := heap_alloc_new (w.alloc a) b
 rw [show (w.alloc a).heap.size = w.heap.size + 1 by simp] at this
 exact ((((Below.refl _ ((w.alloc a).alloc b)).alloc (Nat.le_refl _) c).alloc (by simp) d).block (w.heap.size + 1) (by simp)).trans this
theorem four_2 (w : World) (a b c d : Obj) : ((((w.alloc a).alloc b).alloc c).alloc d).heap[w.heap.size + 2]? = some c := by
 have := heap_alloc_new ((w.alloc a).alloc b) c
 rw [show ((w.alloc a).alloc b).heap.size = w.heap.size + 2 by simp] at this
 exact (((Below.refl _ (((w.alloc a).alloc b).alloc c)).alloc (Nat.le_refl _) d).block (w.heap.size + 2) (by simp)).trans this
theorem four_3 (w : World) (a b c d : Obj) : ((((w.alloc a).alloc b).alloc c).alloc d).heap[w.heap.size + 3]? = some d := by
 have := heap_alloc_new (((w.alloc a).alloc b).alloc c) d
 rw [show (((w.alloc a).alloc b).alloc c).heap.size = w.heap.size + 3 by simp] at this
 exact this
theorem ns_cells {w : World} {Y : Nat} {u0 u1 u2 u3 u4 u5 u6 : Value} {t : TypeId} (h : w.heap[Y]? = some (.cells #[u0, u1, u2, u3, u4, u5, u6] t)) : w.cell? ⟨Y, 0, none⟩ = some u0 ∧ w.cell? ⟨Y, 1, none⟩ = some u1 ∧ w.cell? ⟨Y, 2, none⟩ = some u2 ∧ w.cell? ⟨Y, 3, none⟩ = some u3 ∧ w.cell? ⟨Y, 4, none⟩ = some u4 ∧ w.cell? ⟨Y, 5, none⟩ = some u5 ∧ w.cell? ⟨Y, 6, none⟩ = some u6 ∧ w.frozen? ⟨Y, 0, none⟩ = false ∧ w.frozen? ⟨Y, 1, none⟩ = false ∧ w.frozen? ⟨Y, 2, none⟩ = false ∧ w.frozen? ⟨Y, 3, none⟩ = false ∧ w.frozen? ⟨Y, 4, none⟩ = false ∧ w.frozen? ⟨Y, 5, none⟩ = false ∧ w.frozen? ⟨Y, 6, none⟩ = false :=
 ⟨cell_of_row w Y 0 _ _ _ h, cell_of_row w Y 1 _ _ _ h, cell_of_row w Y 2 _ _ _ h, cell_of_row w Y 3 _ _ _ h, cell_of_row w Y 4 _ _ _ h, cell_of_row w Y 5 _ _ _ h, cell_of_row w Y 6 _ _ _ h, Lib.frozen_of_heap h 0, Lib.frozen_of_heap h 1, Lib.frozen_of_heap h 2, Lib.frozen_of_heap h 3, Lib.frozen_of_heap h 4, Lib.frozen_of_heap h 5, Lib.frozen_of_heap h 6⟩
theorem cells_ty {a b : Array Value} {t u : TypeId} {f g : Nat × Nat} (h : some (Obj.cells a t f) = some (Obj.cells b u g)) : t = u := by
 have h1 := Option.some.inj h
 exact (Obj.cells.inj h1).2.1
end Go.Proofs.YtcafffohnokjgaaDoor
