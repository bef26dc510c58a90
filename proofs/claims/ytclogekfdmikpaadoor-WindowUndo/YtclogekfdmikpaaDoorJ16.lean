/- In one text: DfaPl, DfaPm, DfaV, DfaFa, DfaFb. -/
import Derived.Test.YtclogekfdmikpaaDoorJ10
import Derived.Test.YtclogekfdmikpaaDoorJ11
import Derived.Test.YtclogekfdmikpaaDoorJ12
import Derived.Test.YtclogekfdmikpaaDoorJ13
import Derived.Test.YtclogekfdmikpaaDoorJ14
import Derived.Test.YtclogekfdmikpaaDoorJ15
import Derived.Maps.OwnSet
/- spanOf, all depths; planOf. -/
namespace Go.Proofs.YtclogekfdmikpaaDoor
open Go.RowKit Go.Shelf
set_option linter.unusedVariables false
set_option linter.unusedSimpArgs false

theorem sp_up (D : Nat) (HP : ∀ D', D' < D → SpC D') : SpC D := by
 intro n dd ca pa cc pc w0 w bp cs v wh l hok hin hb0 hT hpl hcnt
 have hops : n.op = 0 ∨ n.op = 1 ∨ n.op = 2 ∨ n.op = 3 ∨ n.op = 4 ∨ n.op = 5 := by
  cases dd with
  | zero => simp [okN] at hok
  | succ dd =>
    simp only [okN, Bool.and_eq_true] at hok
    have hrc := hok.1.1
    unfold rcB at hrc
    by_cases h1 : n.op = 0 ∨ n.op = 1
    ·omega
    ·rw [if_neg h1] at hrc
     by_cases h2 : n.op = 2 ∨ n.op = 3
     ·omega
     ·rw [if_neg h2] at hrc
      by_cases h3 : n.op = 4 ∨ n.op = 5
      ·omega
      ·rw [if_neg h3] at hrc; cases hrc
 rcases hops with h | h | h | h | h | h
 ·exact sp_up0 D HP n dd ca pa cc pc w0 w bp cs v wh l hok hin hb0 hT hpl hcnt h
 ·exact sp_up1 D HP n dd ca pa cc pc w0 w bp cs v wh l hok hin hb0 hT hpl hcnt h
 ·exact sp_up2 D HP n dd ca pa cc pc w0 w bp cs v wh l hok hin hb0 hT hpl hcnt h
 ·exact sp_up3 D HP n dd ca pa cc pc w0 w bp cs v wh l hok hin hb0 hT hpl hcnt h
 ·exact sp_up4 D HP n dd ca pa cc pc w0 w bp cs v wh l hok hin hb0 hT hpl hcnt h
 ·exact sp_up5 D HP n dd ca pa cc pc w0 w bp cs v wh l hok hin hb0 hT hpl hcnt h
theorem sp_any : (D : Nat) → SpC D := fun D => Nat.strongRecOn D fun D ih => sp_up D ih
end Go.Proofs.YtclogekfdmikpaaDoor

/- The walk of planOf. -/
namespace Go.Proofs.YtclogekfdmikpaaDoor
open Go.RowKit Go.Shelf
set_option linter.unusedVariables false
set_option linter.unusedSimpArgs false

def isZ : Option Value → Bool
 | some (.int .u64 0) => true
 | _ => false
theorem isZ_eq {o : Option Value} (h : isZ o = true) : o = some (.int .u64 0) := by
 unfold isZ at h
 split at h
 ·rfl
 ·cases h
theorem zero_tk : (List.range 168).all (fun i => isZ Tryd.zeroCells142[16 + i]?) = true := by kernel_rfl
theorem zero_size : Tryd.zeroCells142.size = 185 := by kernel_rfl
theorem zero_beh : Tryd.zeroCells142[184]? = some (.slice none 0 0) := by kernel_rfl
def spanOn (cs : Array Value) (s : Sp) : Array Value := (((((((((((((((cs).setIfInBounds 0 (.bool s.em)).setIfInBounds 1 (nwV s.fi 0)).setIfInBounds 2 (nwV s.fi 1)).setIfInBounds 3 (nwV s.fi 2)).setIfInBounds 4 (nwV s.fi 3)).setIfInBounds 5 (nwV s.fi 4)).setIfInBounds 6 (nwV s.fi 5)).setIfInBounds 7 (nwV s.fi 6)).setIfInBounds 8 (nwV s.en 0)).setIfInBounds 9 (nwV s.en 1)).setIfInBounds 10 (nwV s.en 2)).setIfInBounds 11 (nwV s.en 3)).setIfInBounds 12 (nwV s.en 4)).setIfInBounds 13 (nwV s.en 5)).setIfInBounds 14 (nwV s.en 6)
theorem spanOn_size (cs : Array Value) (s : Sp) : (spanOn cs s).size = cs.size := by simp [spanOn]
theorem spanOn_rest (cs : Array Value) (s : Sp) (i : Nat) (h : 15 ≤ i) : (spanOn cs s)[i]? = cs[i]? := by
 unfold spanOn
 repeat rw [Array.getElem?_setIfInBounds_ne (by omega)]
theorem spanOn_at (cs : Array Value) (s : Sp) (hs : 15 ≤ cs.size) (i : Nat) (h : i < 15) : (spanOn cs s)[i]? = (spnA s)[i]? := by
 unfold spanOn
 match i, h with
 | 0, _ =>
   repeat rw [Array.getElem?_setIfInBounds_ne (by omega)]
   rw [Array.getElem?_setIfInBounds, if_pos rfl, if_pos (by first | omega | (simp only [Array.size_setIfInBounds]; omega))]
   rfl
 | 1, _ =>
   repeat rw [Array.getElem?_setIfInBounds_ne (by omega)]
   rw [Array.getElem?_setIfInBounds, if_pos rfl, if_pos (by first | omega | (simp only [Array.size_setIfInBounds]; omega))]
   rfl
 | 2, _ =>
   repeat rw [Array.getElem?_setIfInBounds_ne (by omega)]
   rw [Array.getElem?_setIfInBounds, if_pos rfl, if_pos (by first | omega | (simp only [Array.size_setIfInBounds]; omega))]
   rfl
 | 3, _ =>
   repeat rw [Array.getElem?_setIfInBounds_ne (by omega)]
   rw [Array.getElem?_setIfInBounds, if_pos rfl, if_pos (by first | omega | (simp only [Array.size_setIfInBounds]; omega))]
   rfl
 | 4, _ =>
   repeat rw [Array.getElem?_setIfInBounds_ne (by omega)]
   rw [Array.getElem?_setIfInBounds, if_pos rfl, if_pos (by first | omega | (simp only [Array.size_setIfInBounds]; omega))]
   rfl
 | 5, _ =>
   repeat rw [Array.getElem?_setIfInBounds_ne (by omega)]
   rw [Array.getElem?_setIfInBounds, if_pos rfl, if_pos (by first | omega | (simp only [Array.size_setIfInBounds]; omega))]
   rfl
 | 6, _ =>
   repeat rw [Array.getElem?_setIfInBounds_ne (by omega)]
   rw [Array.getElem?_setIfInBounds, if_pos rfl, if_pos (by first | omega | (simp only [Array.size_setIfInBounds]; omega))]
   rfl
 | 7, _ =>
   repeat rw [Array.getElem?_setIfInBounds_ne (by omega)]
   rw [Array.getElem?_setIfInBounds, if_pos rfl, if_pos (by first | omega | (simp only [Array.size_setIfInBounds]; omega))]
   rfl
 | 8, _ =>
   repeat rw [Array.getElem?_setIfInBounds_ne (by omega)]
   rw [Array.getElem?_setIfInBounds, if_pos rfl, if_pos (by first | omega | (simp only [Array.size_setIfInBounds]; omega))]
   rfl
 | 9, _ =>
   repeat rw [Array.getElem?_setIfInBounds_ne (by omega)]
   rw [Array.getElem?_setIfInBounds, if_pos rfl, if_pos (by first | omega | (simp only [Array.size_setIfInBounds]; omega))]
   rfl
 | 10, _ =>
   repeat rw [Array.getElem?_setIfInBounds_ne (by omega)]
   rw [Array.getElem?_setIfInBounds, if_pos rfl, if_pos (by first | omega | (simp only [Array.size_setIfInBounds]; omega))]
   rfl
 | 11, _ =>
   repeat rw [Array.getElem?_setIfInBounds_ne (by omega)]
   rw [Array.getElem?_setIfInBounds, if_pos rfl, if_pos (by first | omega | (simp only [Array.size_setIfInBounds]; omega))]
   rfl
 | 12, _ =>
   repeat rw [Array.getElem?_setIfInBounds_ne (by omega)]
   rw [Array.getElem?_setIfInBounds, if_pos rfl, if_pos (by first | omega | (simp only [Array.size_setIfInBounds]; omega))]
   rfl
 | 13, _ =>
   repeat rw [Array.getElem?_setIfInBounds_ne (by omega)]
   rw [Array.getElem?_setIfInBounds, if_pos rfl, if_pos (by first | omega | (simp only [Array.size_setIfInBounds]; omega))]
   rfl
 | 14, _ =>
   repeat rw [Array.getElem?_setIfInBounds_ne (by omega)]
   rw [Array.getElem?_setIfInBounds, if_pos rfl, if_pos (by first | omega | (simp only [Array.size_setIfInBounds]; omega))]
   rfl
structure PlanR (w : World) (bp : Nat) (s : Sp) (wh : Bool) (l : Pl) : Prop where
 at_ : ∃ n0 cs v, PlanAt n0 w bp cs v wh l ∧ PlanC cs s wh l
theorem PlanR.later {w w' : World} {bp : Nat} {s : Sp} {wh : Bool} {l : Pl} (h : PlanR w bp s wh l) (hb : Below w.heap.size w w') : PlanR w' bp s wh l := by
 obtain ⟨n0, cs, v, h1, h2⟩ := h.at_
 exact ⟨⟨n0, cs, v, h1.later hb, h2⟩⟩
set_option maxRecDepth 100000 in
set_option maxHeartbeats 8000000 in
theorem planOf_any (D : Nat) (n : Nd) (wh : Bool) (ca pa : Option Addr) (cc pc : Nat) (w : World) (hok : n.ok = true) (hin : InV w.heap.size w D n [.int .i64 n.op, .slice ca n.cl.length cc, .slice pa (toL n.kids).length pc]) (hT : TabD w) :
 Calls Tryd.prog 62 #[.agg #[.int .i64 n.op, .slice ca n.cl.length cc, .slice pa (toL n.kids).length pc, .bool wh]] w fun e w' => ∃ bp, e = .returned (.pointer (some ⟨bp, 0, none⟩)) ∧ w.heap.size ≤ bp ∧ PlanR w' bp (n.span []).1 wh (n.span []).2 ∧ Below w.heap.size w w' := by
 obtain ⟨hok1, hok2⟩ : okN 32 n = true ∧ n.cnt ≤ 400 := by simpa [Nd.ok] using hok
 obtain ⟨op, hop⟩ : ∃ op, op = n.op := ⟨_, rfl⟩
 obtain ⟨cn, hcn⟩ : ∃ cn, cn = n.cl.length := ⟨_, rfl⟩
 obtain ⟨K, hK⟩ : ∃ K, K = (toL n.kids).length := ⟨_, rfl⟩
 obtain ⟨s, hs⟩ : ∃ s, s = (n.span []).1 := ⟨_, rfl⟩
 obtain ⟨m, hm⟩ : ∃ m, m = (n.span []).2 := ⟨_, rfl⟩
 obtain ⟨wA, hwA⟩ : ∃ wA, wA = (w.alloc (.cells #[.int .i64 op, .slice ca cn cc, .slice pa K pc, .bool wh] 61)).alloc (.cells (Tryd.zeroCells142.setIfInBounds 15 (.bool wh)) 142) := ⟨_, rfl⟩
 obtain ⟨H, hH⟩ : ∃ H, H = w.heap.size := ⟨_, rfl⟩
 have hbA : Below w.heap.size w wA := by rw [hwA]; exact ((Below.refl _ w).alloc (Nat.le_refl _) _).alloc (by simp) _
 have HBA : Hid (Below w.heap.size w wA) := hbA
 have HHW : Hid (w.heap.size ≤ H + 1) := by rw [hH]; exact Nat.le_succ _
 have HN : Hid (wA.heap[H]? = some (.cells #[.int .i64 op, .slice ca cn cc, .slice pa K pc, .bool wh] 61)) := by
  show _ = _
  rw [hwA, hH]
  exact (((Below.refl _ (w.alloc _)).alloc (Nat.le_refl _) _).block w.heap.size (by simp)).trans (heap_alloc_new w _)
 have HPL : Hid (wA.heap[H + 1]? = some (.cells (Tryd.zeroCells142.setIfInBounds 15 (.bool wh)) 142)) := by
  show _ = _
  rw [hwA, hH]
  have := heap_alloc_new (w.alloc (.cells #[.int .i64 op, .slice ca cn cc, .slice pa K pc, .bool wh] 61)) (.cells (Tryd.zeroCells142.setIfInBounds 15 (.bool wh)) 142)
  rw [show (w.alloc (.cells #[.int .i64 op, .slice ca cn cc, .slice pa K pc, .bool wh] 61)).heap.size = w.heap.size + 1 by simp] at this
  exact this
 have HPA : Hid (PlanAt w.heap.size wA (H + 1) (Tryd.zeroCells142.setIfInBounds 15 (.bool wh)) (.slice none 0 0) wh []) := by
  refine ⟨HPL.out, by simp [zero_size], HHW.out, by simp [Array.getElem?_setIfInBounds, zero_size], fun c hc i hi => ?_, ?_, ⟨rfl, .inl ⟨rfl, rfl⟩⟩, by simp, by simp [Value.ownBlock]⟩
  ·rw [Array.getElem?_setIfInBounds, if_neg (by omega)]
   have h1 := List.all_eq_true.1 zero_tk (c * 7 + i) (by simp; omega)
   rw [show 16 + c * 7 + i = 16 + (c * 7 + i) by omega, isZ_eq h1]
   show _ = some (nwV 0 i)
   unfold nwV
   rw [nw_zero]
   rfl
  ·rw [Array.getElem?_setIfInBounds, if_neg (by omega)]
   exact zero_beh
 have HC : Hid (Calls Tryd.prog 77 #[.pointer (some ⟨H + 1, 0, none⟩), .agg #[.int .i64 op, .slice ca cn cc, .slice pa K pc]] wA fun e w' => e = .returned (.agg #[.bool s.em, .int .u64 (nw s.fi 0 : Int), .int .u64 (nw s.fi 1 : Int), .int .u64 (nw s.fi 2 : Int), .int .u64 (nw s.fi 3 : Int), .int .u64 (nw s.fi 4 : Int), .int .u64 (nw s.fi 5 : Int), .int .u64 (nw s.fi 6 : Int), .int .u64 (nw s.en 0 : Int), .int .u64 (nw s.en 1 : Int), .int .u64 (nw s.en 2 : Int), .int .u64 (nw s.en 3 : Int), .int .u64 (nw s.en 4 : Int), .int .u64 (nw s.en 5 : Int), .int .u64 (nw s.en 6 : Int)]) ∧ (∃ cs' v', PlanAt w.heap.size w' (H + 1) cs' v' wh m) ∧ Below w.heap.size w w' ∧ FrS wA w') := by
  rw [hs, hm, hop, hcn, hK]
  exact sp_any D n 32 ca pa cc pc w wA (H + 1) _ _ wh [] hok1 hin hbA hT HPA.out (by simpa using hok2)
 have n0 : wA.cell? ⟨H, 0, none⟩ = some (.int .i64 op) := cell_of_row wA H 0 _ _ _ HN.out
 have n1 : wA.cell? ⟨H, 1, none⟩ = some (.slice ca cn cc) := cell_of_row wA H 1 _ _ _ HN.out
 have n2 : wA.cell? ⟨H, 2, none⟩ = some (.slice pa K pc) := cell_of_row wA H 2 _ _ _ HN.out
 rw [← hop, ← hcn, ← hK, ← hs, ← hm]
 clear hop hcn hK hin hok hT hs hm hok1 hok2 hbA
 go_enter Tryd.func62, Tryd.ntmps62
 go_upto_region 2 with fail
 rw [← hH, ← hwA]
 clear hH hwA
 go_wp2_with fail
 refine HC.out.mono ?_
 rintro e w2 ⟨rfl, ⟨cs2, v2, hp2⟩, hb2, hf2⟩
 have HP2 : Hid (PlanAt w.heap.size w2 (H + 1) cs2 v2 wh m) := hp2
 have HB2 : Hid (Below w.heap.size w w2) := hb2
 clear hp2 hb2 hf2 HC n0 n1 n2
 obtain ⟨x0, hx0⟩ : ∃ x, cs2[0]? = some x := ⟨_, Array.getElem?_eq_getElem (by rw [HP2.out.size]; omega)⟩
 have d0 : w2.cell? ⟨H + 1, 0, none⟩ = some x0 := (cell_of_row w2 (H + 1) 0 _ _ _ HP2.out.blk).trans hx0
 have e0 : w2.frozen? ⟨H + 1, 0, none⟩ = false := Lib.frozen_of_heap HP2.out.blk 0
 obtain ⟨x1, hx1⟩ : ∃ x, cs2[1]? = some x := ⟨_, Array.getElem?_eq_getElem (by rw [HP2.out.size]; omega)⟩
 have d1 : w2.cell? ⟨H + 1, 1, none⟩ = some x1 := (cell_of_row w2 (H + 1) 1 _ _ _ HP2.out.blk).trans hx1
 have e1 : w2.frozen? ⟨H + 1, 1, none⟩ = false := Lib.frozen_of_heap HP2.out.blk 1
 obtain ⟨x2, hx2⟩ : ∃ x, cs2[2]? = some x := ⟨_, Array.getElem?_eq_getElem (by rw [HP2.out.size]; omega)⟩
 have d2 : w2.cell? ⟨H + 1, 2, none⟩ = some x2 := (cell_of_row w2 (H + 1) 2 _ _ _ HP2.out.blk).trans hx2
 have e2 : w2.frozen? ⟨H + 1, 2, none⟩ = false := Lib.frozen_of_heap HP2.out.blk 2
 obtain ⟨x3, hx3⟩ : ∃ x, cs2[3]? = some x := ⟨_, Array.getElem?_eq_getElem (by rw [HP2.out.size]; omega)⟩
 have d3 : w2.cell? ⟨H + 1, 3, none⟩ = some x3 := (cell_of_row w2 (H + 1) 3 _ _ _ HP2.out.blk).trans hx3
 have e3 : w2.frozen? ⟨H + 1, 3, none⟩ = false := Lib.frozen_of_heap HP2.out.blk 3
 obtain ⟨x4, hx4⟩ : ∃ x, cs2[4]? = some x := ⟨_, Array.getElem?_eq_getElem (by rw [HP2.out.size]; omega)⟩
 have d4 : w2.cell? ⟨H + 1, 4, none⟩ = some x4 := (cell_of_row w2 (H + 1) 4 _ _ _ HP2.out.blk).trans hx4
 have e4 : w2.frozen? ⟨H + 1, 4, none⟩ = false := Lib.frozen_of_heap HP2.out.blk 4
 obtain ⟨x5, hx5⟩ : ∃ x, cs2[5]? = some x := ⟨_, Array.getElem?_eq_getElem (by rw [HP2.out.size]; omega)⟩
 have d5 : w2.cell? ⟨H + 1, 5, none⟩ = some x5 := (cell_of_row w2 (H + 1) 5 _ _ _ HP2.out.blk).trans hx5
 have e5 : w2.frozen? ⟨H + 1, 5, none⟩ = false := Lib.frozen_of_heap HP2.out.blk 5
 obtain ⟨x6, hx6⟩ : ∃ x, cs2[6]? = some x := ⟨_, Array.getElem?_eq_getElem (by rw [HP2.out.size]; omega)⟩
 have d6 : w2.cell? ⟨H + 1, 6, none⟩ = some x6 := (cell_of_row w2 (H + 1) 6 _ _ _ HP2.out.blk).trans hx6
 have e6 : w2.frozen? ⟨H + 1, 6, none⟩ = false := Lib.frozen_of_heap HP2.out.blk 6
 obtain ⟨x7, hx7⟩ : ∃ x, cs2[7]? = some x := ⟨_, Array.getElem?_eq_getElem (by rw [HP2.out.size]; omega)⟩
 have d7 : w2.cell? ⟨H + 1, 7, none⟩ = some x7 := (cell_of_row w2 (H + 1) 7 _ _ _ HP2.out.blk).trans hx7
 have e7 : w2.frozen? ⟨H + 1, 7, none⟩ = false := Lib.frozen_of_heap HP2.out.blk 7
 obtain ⟨x8, hx8⟩ : ∃ x, cs2[8]? = some x := ⟨_, Array.getElem?_eq_getElem (by rw [HP2.out.size]; omega)⟩
 have d8 : w2.cell? ⟨H + 1, 8, none⟩ = some x8 := (cell_of_row w2 (H + 1) 8 _ _ _ HP2.out.blk).trans hx8
 have e8 : w2.frozen? ⟨H + 1, 8, none⟩ = false := Lib.frozen_of_heap HP2.out.blk 8
 obtain ⟨x9, hx9⟩ : ∃ x, cs2[9]? = some x := ⟨_, Array.getElem?_eq_getElem (by rw [HP2.out.size]; omega)⟩
 have d9 : w2.cell? ⟨H + 1, 9, none⟩ = some x9 := (cell_of_row w2 (H + 1) 9 _ _ _ HP2.out.blk).trans hx9
 have e9 : w2.frozen? ⟨H + 1, 9, none⟩ = false := Lib.frozen_of_heap HP2.out.blk 9
 obtain ⟨x10, hx10⟩ : ∃ x, cs2[10]? = some x := ⟨_, Array.getElem?_eq_getElem (by rw [HP2.out.size]; omega)⟩
 have d10 : w2.cell? ⟨H + 1, 10, none⟩ = some x10 := (cell_of_row w2 (H + 1) 10 _ _ _ HP2.out.blk).trans hx10
 have e10 : w2.frozen? ⟨H + 1, 10, none⟩ = false := Lib.frozen_of_heap HP2.out.blk 10
 obtain ⟨x11, hx11⟩ : ∃ x, cs2[11]? = some x := ⟨_, Array.getElem?_eq_getElem (by rw [HP2.out.size]; omega)⟩
 have d11 : w2.cell? ⟨H + 1, 11, none⟩ = some x11 := (cell_of_row w2 (H + 1) 11 _ _ _ HP2.out.blk).trans hx11
 have e11 : w2.frozen? ⟨H + 1, 11, none⟩ = false := Lib.frozen_of_heap HP2.out.blk 11
 obtain ⟨x12, hx12⟩ : ∃ x, cs2[12]? = some x := ⟨_, Array.getElem?_eq_getElem (by rw [HP2.out.size]; omega)⟩
 have d12 : w2.cell? ⟨H + 1, 12, none⟩ = some x12 := (cell_of_row w2 (H + 1) 12 _ _ _ HP2.out.blk).trans hx12
 have e12 : w2.frozen? ⟨H + 1, 12, none⟩ = false := Lib.frozen_of_heap HP2.out.blk 12
 obtain ⟨x13, hx13⟩ : ∃ x, cs2[13]? = some x := ⟨_, Array.getElem?_eq_getElem (by rw [HP2.out.size]; omega)⟩
 have d13 : w2.cell? ⟨H + 1, 13, none⟩ = some x13 := (cell_of_row w2 (H + 1) 13 _ _ _ HP2.out.blk).trans hx13
 have e13 : w2.frozen? ⟨H + 1, 13, none⟩ = false := Lib.frozen_of_heap HP2.out.blk 13
 obtain ⟨x14, hx14⟩ : ∃ x, cs2[14]? = some x := ⟨_, Array.getElem?_eq_getElem (by rw [HP2.out.size]; omega)⟩
 have d14 : w2.cell? ⟨H + 1, 14, none⟩ = some x14 := (cell_of_row w2 (H + 1) 14 _ _ _ HP2.out.blk).trans hx14
 have e14 : w2.frozen? ⟨H + 1, 14, none⟩ = false := Lib.frozen_of_heap HP2.out.blk 14
 obtain ⟨w3, hw3⟩ : ∃ w3, w3 = (((((((((((((((w2).setCell ⟨H + 1, 0, none⟩ (.bool s.em)).setCell ⟨H + 1, 1, none⟩ (.int .u64 (nw s.fi 0 : Int))).setCell ⟨H + 1, 2, none⟩ (.int .u64 (nw s.fi 1 : Int))).setCell ⟨H + 1, 3, none⟩ (.int .u64 (nw s.fi 2 : Int))).setCell ⟨H + 1, 4, none⟩ (.int .u64 (nw s.fi 3 : Int))).setCell ⟨H + 1, 5, none⟩ (.int .u64 (nw s.fi 4 : Int))).setCell ⟨H + 1, 6, none⟩ (.int .u64 (nw s.fi 5 : Int))).setCell ⟨H + 1, 7, none⟩ (.int .u64 (nw s.fi 6 : Int))).setCell ⟨H + 1, 8, none⟩ (.int .u64 (nw s.en 0 : Int))).setCell ⟨H + 1, 9, none⟩ (.int .u64 (nw s.en 1 : Int))).setCell ⟨H + 1, 10, none⟩ (.int .u64 (nw s.en 2 : Int))).setCell ⟨H + 1, 11, none⟩ (.int .u64 (nw s.en 3 : Int))).setCell ⟨H + 1, 12, none⟩ (.int .u64 (nw s.en 4 : Int))).setCell ⟨H + 1, 13, none⟩ (.int .u64 (nw s.en 5 : Int))).setCell ⟨H + 1, 14, none⟩ (.int .u64 (nw s.en 6 : Int)) := ⟨_, rfl⟩
 have HF : Hid (PlanR w3 (H + 1) s wh m ∧ Below w.heap.size w w3) := by
  have hg : w2.grownBy w3 (some (H + 1)) := by rw [hw3]; exact grown_put (i := 14) _ (grown_put (i := 13) _ (grown_put (i := 12) _ (grown_put (i := 11) _ (grown_put (i := 10) _ (grown_put (i := 9) _ (grown_put (i := 8) _ (grown_put (i := 7) _ (grown_put (i := 6) _ (grown_put (i := 5) _ (grown_put (i := 4) _ (grown_put (i := 3) _ (grown_put (i := 2) _ (grown_put (i := 1) _ (grown_put (i := 0) _ (grown_refl w2 (some (H + 1)))))))))))))))))
  have hb : w3.heap[H + 1]? = some (.cells (spanOn cs2 s) 142) := by rw [hw3]; exact (heap_setCell_same _ (H + 1) 14 _ _ _ (heap_setCell_same _ (H + 1) 13 _ _ _ (heap_setCell_same _ (H + 1) 12 _ _ _ (heap_setCell_same _ (H + 1) 11 _ _ _ (heap_setCell_same _ (H + 1) 10 _ _ _ (heap_setCell_same _ (H + 1) 9 _ _ _ (heap_setCell_same _ (H + 1) 8 _ _ _ (heap_setCell_same _ (H + 1) 7 _ _ _ (heap_setCell_same _ (H + 1) 6 _ _ _ (heap_setCell_same _ (H + 1) 5 _ _ _ (heap_setCell_same _ (H + 1) 4 _ _ _ (heap_setCell_same _ (H + 1) 3 _ _ _ (heap_setCell_same _ (H + 1) 2 _ _ _ (heap_setCell_same _ (H + 1) 1 _ _ _ (heap_setCell_same _ (H + 1) 0 _ _ _ HP2.out.blk)))))))))))))))
  have hp := HP2.out
  refine ⟨⟨⟨w.heap.size, spanOn cs2 s, v2, ⟨hb, by rw [spanOn_size]; exact hp.size, hp.low, by rw [spanOn_rest _ _ _ (by omega)]; exact hp.wh, fun c hc i hi => by rw [spanOn_rest _ _ _ (by omega)]; exact hp.tk c hc i hi, by rw [spanOn_rest _ _ _ (by omega)]; exact hp.beh, hp.own.kept hg (.inr hp.apart), hp.few, hp.apart⟩, ⟨?_, fun i hi => ?_, fun i hi => ?_, ?_, fun c hc i hi => ?_⟩⟩⟩, HB2.out.grown hg HB2.out.size (fun k e => by cases e; exact HHW.out)⟩
  ·rw [spanOn_at _ _ (by rw [hp.size]; omega) _ (by omega)]; rfl
  ·rw [spanOn_at _ _ (by rw [hp.size]; omega) _ (by omega)]; exact spn_fi s i hi
  ·rw [spanOn_at _ _ (by rw [hp.size]; omega) _ (by omega)]; exact spn_en s i hi
  ·rw [spanOn_rest _ _ _ (by omega)]; exact hp.wh
  ·rw [spanOn_rest _ _ _ (by omega)]; exact hp.tk c hc i hi
 clear hx0 hx1 hx2 hx3 hx4 hx5 hx6 hx7 hx8 hx9 hx10 hx11 hx12 hx13 hx14
 go_upto_region 3 with fail
 rw [← hw3]
 clear hw3 d0 e0 d1 e1 d2 e2 d3 e3 d4 e4 d5 e5 d6 e6 d7 e7 d8 e8 d9 e9 d10 e10 d11 e11 d12 e12 d13 e13 d14 e14
 go_wp2
 go_ret
 exact ⟨H + 1, rfl, HHW.out, HF.out⟩
end Go.Proofs.YtclogekfdmikpaaDoor

/- Keys that are numbered as they are met: a map as a datum; the digits of numbers, and texts that tell them. -/
namespace Go.Proofs.YtclogekfdmikpaaDoor
set_option linter.unusedVariables false
set_option linter.unusedSimpArgs false

def kDF (m : DataW Unit) (i : Nat) : List Lit → DataW Unit
 | [] => m
 | k :: ks => kDF (m.put k (.lit (.int .i64 (i : Int)))) (i + 1) ks
def kD (ks : List Lit) : DataW Unit := kDF (.map []) 0 ks
theorem kDF_snoc (x : Lit) : (ks : List Lit) → (m : DataW Unit) → (i : Nat) → kDF m i (ks ++ [x]) = (kDF m i ks).put x (.lit (.int .i64 ((i + ks.length : Nat) : Int)))
 | [], m, i => rfl
 | k :: ks, m, i => by
   show kDF _ (i + 1) (ks ++ [x]) = (kDF _ (i + 1) ks).put x _
   rw [kDF_snoc x ks]
   congr 4
   simp only [List.length_cons]
   omega
theorem kD_snoc (ks : List Lit) (x : Lit) : kD (ks ++ [x]) = (kD ks).put x (.lit (.int .i64 (ks.length : Int))) := by
 unfold kD
 rw [kDF_snoc, Nat.zero_add]
def Keysy (ks : List Lit) : Prop := ks.Nodup ∧ ∀ k ∈ ks, WideAt.IsKeyLit k
theorem Keysy.front {ks : List Lit} {x : Lit} (h : Keysy (ks ++ [x])) : Keysy ks ∧ x ∉ ks ∧ WideAt.IsKeyLit x := by
 obtain ⟨h1, h2⟩ := h
 rw [List.nodup_append] at h1
 exact ⟨⟨h1.1, fun k hk => h2 k (by simp [hk])⟩, fun hx => h1.2.2 x hx x (by simp) rfl, h2 x (by simp)⟩
theorem Keysy.snoc {ks : List Lit} {x : Lit} (h : Keysy ks) (hx : x ∉ ks) (hk : WideAt.IsKeyLit x) : Keysy (ks ++ [x]) := by
 refine ⟨List.nodup_append.2 ⟨h.1, by simp, fun a ha b hb => ?_⟩, fun k hk' => ?_⟩
 ·rw [List.mem_singleton] at hb
  subst hb
  exact fun e => hx (e ▸ ha)
 ·rcases List.mem_append.1 hk' with h1 | h1
  ·exact h.2 k h1
  ·rw [List.mem_singleton] at h1
   subst h1
   exact hk
theorem snoc_rec {α : Type} {P : List α → Prop} (h0 : P []) (h1 : ∀ l x, P l → P (l ++ [x])) (l : List α) : P l := by
 have : ∀ m : List α, P m.reverse := by
  intro m
  induction m with
  | nil => exact h0
  | cons x m ih => rw [List.reverse_cons]; exact h1 _ x ih
 have h := this l.reverse
 rwa [List.reverse_reverse] at h
theorem kD_tidy (ks : List Lit) : Keysy ks → Maps.Tidy (kD ks) := by
 refine snoc_rec (P := fun ks => Keysy ks → Maps.Tidy (kD ks)) (fun _ => Maps.tidy_empty) (fun l x ih h => ?_) ks
 obtain ⟨h1, _, h3⟩ := h.front
 rw [kD_snoc]
 exact (ih h1).put h3 _
theorem kD_has (k : Lit) (ks : List Lit) : Keysy ks → (Maps.has (kD ks) k = true ↔ k ∈ ks) := by
 refine snoc_rec (P := fun ks => Keysy ks → (Maps.has (kD ks) k = true ↔ k ∈ ks)) (fun _ => ?_) (fun l x ih h => ?_) ks
 ·simp [kD, kDF, Maps.has]
 ·obtain ⟨h1, _, h3⟩ := h.front
  rw [kD_snoc]
  by_cases e : k = x
  ·subst e
   rw [Maps.has_put_same (kD_tidy l h1).isMap h3]
   simp
  ·rw [Maps.has_put_other e, ih h1]
   simp [e]
theorem kD_no {ks : List Lit} {k : Lit} (h : Keysy ks) (hk : k ∉ ks) : Maps.has (kD ks) k = false := by
 rw [Bool.eq_false_iff]
 exact fun e => hk ((kD_has k ks h).1 e)
theorem kD_size (ks : List Lit) : Keysy ks → Maps.size (kD ks) = ks.length := by
 refine snoc_rec (P := fun ks => Keysy ks → Maps.size (kD ks) = ks.length) (fun _ => rfl) (fun l x ih h => ?_) ks
 obtain ⟨h1, h2, h3⟩ := h.front
 rw [kD_snoc, Maps.size_put (kD_tidy l h1), kD_no h1 h2, ih h1]
 simp
theorem kD_at (z : DataW Unit) (ks : List Lit) : Keysy ks → ∀ (i : Nat) (k : Lit), ks[i]? = some k → (kD ks).atKey k z = .lit (.int .i64 (i : Int)) := by
 refine snoc_rec (P := fun ks => Keysy ks → ∀ (i : Nat) (k : Lit), ks[i]? = some k → (kD ks).atKey k z = .lit (.int .i64 (i : Int))) (fun _ i k h => by simp at h) (fun l x ih h i k hi => ?_) ks
 obtain ⟨h1, h2, h3⟩ := h.front
 rw [kD_snoc]
 by_cases hl : i < l.length
 ·rw [List.getElem?_append_left hl] at hi
  have hkl : k ∈ l := List.mem_of_getElem? hi
  have hne : k ≠ x := fun e => h2 (e ▸ hkl)
  rw [Maps.atKey_put_other hne]
  exact ih h1 i k hi
 ·rw [List.getElem?_append_right (by omega)] at hi
  have hil : i = l.length := by
   have := (List.getElem?_eq_some_iff.1 hi).1
   simp at this
   omega
  subst hil
  simp at hi
  subst hi
  rw [Maps.atKey_put_same (kD_tidy l h1).isMap h3]

/-! ### digits -/
def dgc (r : Nat) : Nat := if r < 10 then 48 + r else 87 + r
def dgv (c : Nat) : Nat := if c < 58 then c - 48 else c - 87
theorem dgv_dgc {r : Nat} (h : r < 36) : dgv (dgc r) = r := by
 unfold dgv dgc
 split <;> split <;> omega
theorem dgc_ne {r : Nat} (h : r < 36) : dgc r ≠ 32 := by
 unfold dgc
 split <;> omega
theorem dgc_lt {r : Nat} (h : r < 36) : dgc r < 128 := by
 unfold dgc
 split <;> omega
def dgF : Nat → Nat → List Nat
 | 0, u => [dgc u]
 | f + 1, u => if u < 36 then [dgc u] else dgF f (u / 36) ++ [dgc (u % 36)]
def dg (u : Nat) : List Nat := dgF 64 u
def dgV (l : List Nat) : Nat := l.foldl (fun a c => a * 36 + dgv c) 0
theorem dgF_len (f : Nat) : ∀ u, (dgF f u).length ≤ f + 1 := by
 induction f with
 | zero => intro u; simp [dgF]
 | succ f ih =>
   intro u
   rw [dgF]
   split
   ·simp
   ·have := ih (u / 36)
    simp
    omega
theorem dgF_all (f : Nat) : ∀ u, u < 36 ^ (f + 1) → (∀ c ∈ dgF f u, c ≠ 32 ∧ c < 128) ∧ dgV (dgF f u) = u := by
 induction f with
 | zero =>
   intro u hu
   have hu' : u < 36 := by simpa using hu
   simp only [dgF, List.mem_singleton, forall_eq]
   exact ⟨⟨dgc_ne hu', dgc_lt hu'⟩, by simp [dgV, dgv_dgc hu']⟩
 | succ f ih =>
   intro u hu
   rw [dgF]
   split
   ·rename_i h
    simp only [List.mem_singleton, forall_eq]
    exact ⟨⟨dgc_ne h, dgc_lt h⟩, by simp [dgV, dgv_dgc h]⟩
   ·have h1 : u / 36 < 36 ^ (f + 1) := by
     rw [Nat.div_lt_iff_lt_mul (by decide)]
     rw [Nat.pow_succ] at hu
     exact hu
    obtain ⟨ha, hv⟩ := ih (u / 36) h1
    have hm : u % 36 < 36 := Nat.mod_lt _ (by decide)
    refine ⟨fun c hc => ?_, ?_⟩
    ·rcases List.mem_append.1 hc with h2 | h2
     ·exact ha c h2
     ·rw [List.mem_singleton] at h2
      subst h2
      exact ⟨dgc_ne hm, dgc_lt hm⟩
    ·unfold dgV at hv ⊢
     rw [List.foldl_append, hv]
     simp only [List.foldl_cons, List.foldl_nil, dgv_dgc hm]
     omega
theorem dg_big {u : Nat} (h : u < 2 ^ 64) : u < 36 ^ 65 := Nat.lt_of_lt_of_le h (by decide)
theorem dg_ne {u : Nat} (h : u < 2 ^ 64) : ∀ c ∈ dg u, c ≠ 32 ∧ c < 128 := (dgF_all 64 u (dg_big h)).1
theorem dg_inj {u v : Nat} (hu : u < 2 ^ 64) (hv : v < 2 ^ 64) (h : dg u = dg v) : u = v := by
 rw [← (dgF_all 64 u (dg_big hu)).2, ← (dgF_all 64 v (dg_big hv)).2]
 show dgV (dg u) = dgV (dg v)
 rw [h]
theorem dg_len (u : Nat) : (dg u).length ≤ 65 := dgF_len 64 u
theorem dgF_more (g : Nat) : ∀ f u, u < 36 ^ (f + 1) → dgF (f + g) u = dgF f u := by
 intro f
 induction f with
 | zero =>
   intro u hu
   have hu' : u < 36 := by simpa using hu
   cases g with
   | zero => rfl
   | succ g =>
     rw [Nat.zero_add]
     show (if u < 36 then [dgc u] else _) = _
     rw [if_pos hu']; rfl
 | succ f ih =>
   intro u hu
   rw [show f + 1 + g = (f + g) + 1 by omega, dgF, dgF]
   split
   ·rfl
   ·rw [ih (u / 36) ?_]
    rw [Nat.div_lt_iff_lt_mul (by decide)]
    rw [Nat.pow_succ] at hu
    exact hu
theorem dg_step {u : Nat} (h : 36 ≤ u) (hu : u < 2 ^ 64) : dg u = dg (u / 36) ++ [dgc (u % 36)] := by
 unfold dg
 have h1 : u / 36 < 36 ^ 64 := by
  rw [Nat.div_lt_iff_lt_mul (by decide)]
  exact Nat.lt_of_lt_of_le hu (by decide)
 rw [show (64 : Nat) = 63 + 1 from rfl, dgF, if_neg (by omega), dgF_more 1 63 (u / 36) h1]
theorem dg_one {u : Nat} (h : u < 36) : dg u = [dgc u] := by
 unfold dg
 rw [show (64 : Nat) = 63 + 1 from rfl, dgF, if_pos h]

/-! ### texts -/
theorem cut_blank : (a b : List Nat) → (x y : List Nat) → (∀ c ∈ a, c ≠ 32) → (∀ c ∈ b, c ≠ 32) → a ++ 32 :: x = b ++ 32 :: y → a = b ∧ x = y
 | [], [], x, y, _, _, h => by simpa using h
 | [], c :: b, x, y, _, hb, h => by
   simp at h
   exact absurd h.1.symm (hb c (by simp))
 | c :: a, [], x, y, ha, _, h => by
   simp at h
   exact absurd h.1 (ha c (by simp))
 | c :: a, d :: b, x, y, ha, hb, h => by
   simp only [List.cons_append, List.cons.injEq] at h
   obtain ⟨h1, h2⟩ := cut_blank a b x y (fun e he => ha e (by simp [he])) (fun e he => hb e (by simp [he])) h.2
   exact ⟨by rw [h.1, h1], h2⟩
def tx (l : List Nat) : List Nat := l.flatMap (fun n => dg n ++ [32])
theorem tx_snoc (l : List Nat) (n : Nat) : tx (l ++ [n]) = (tx l ++ dg n) ++ [32] := by simp [tx]
theorem tx_inj : (l m : List Nat) → (∀ n ∈ l, n < 2 ^ 64) → (∀ n ∈ m, n < 2 ^ 64) → l.length = m.length → tx l = tx m → l = m
 | [], [], _, _, _, _ => rfl
 | [], _ :: _, _, _, h, _ => by simp at h
 | _ :: _, [], _, _, h, _ => by simp at h
 | n :: l, k :: m, hl, hm, h, e => by
   have hn := hl n (by simp)
   have hk := hm k (by simp)
   have e' : dg n ++ 32 :: tx l = dg k ++ 32 :: tx m := by simpa [tx] using e
   obtain ⟨h1, h2⟩ := cut_blank _ _ _ _ (fun c hc => (dg_ne hn c hc).1) (fun c hc => (dg_ne hk c hc).1) e'
   rw [dg_inj hn hk h1, tx_inj l m (fun x hx => hl x (by simp [hx])) (fun x hx => hm x (by simp [hx])) (by simpa using h) h2]
theorem tx_rng (l : List Nat) (hl : ∀ n ∈ l, n < 2 ^ 64) : ∀ c ∈ tx l, c < 128 := by
 intro c hc
 simp only [tx, List.mem_flatMap, List.mem_append, List.mem_singleton] at hc
 obtain ⟨n, hn, h | h⟩ := hc
 ·exact (dg_ne (hl n hn) c h).2
 ·omega
theorem tx_len : (l : List Nat) → (tx l).length ≤ 66 * l.length
 | [] => by simp [tx]
 | n :: l => by
   have h1 := tx_len l
   have h2 := dg_len n
   simp [tx] at h1 ⊢
   omega
def bx (b : Bool) : List Nat := if b then [116, 114, 117, 101] else [102, 97, 108, 115, 101]
def sx (b : Bool) (l : List Nat) : List Nat := bx b ++ l.flatMap (fun n => 32 :: dg n)
theorem sx_snoc (b : Bool) (l : List Nat) (n : Nat) : sx b (l ++ [n]) = (sx b l ++ [32]) ++ dg n := by simp [sx]
theorem sx_tx (b : Bool) (l : List Nat) : sx b l ++ [32] = bx b ++ 32 :: tx l := by
 have : (l.flatMap (fun n => 32 :: dg n)) ++ [32] = 32 :: tx l := by
  induction l with
  | nil => rfl
  | cons n l ih =>
    simp only [List.flatMap_cons, List.append_assoc, ih]
    simp [tx]
 rw [sx, List.append_assoc, this]
theorem bx_ne (b : Bool) : ∀ c ∈ bx b, c ≠ 32 ∧ c < 128 := by cases b <;> decide
theorem bx_inj {a b : Bool} (h : bx a = bx b) : a = b := by
 revert h
 cases a <;> cases b <;> decide
theorem sx_inj {a b : Bool} {l m : List Nat} (hl : ∀ n ∈ l, n < 2 ^ 64) (hm : ∀ n ∈ m, n < 2 ^ 64) (h : l.length = m.length) (e : sx a l = sx b m) : a = b ∧ l = m := by
 have e' : bx a ++ 32 :: tx l = bx b ++ 32 :: tx m := by rw [← sx_tx, ← sx_tx, e]
 obtain ⟨h1, h2⟩ := cut_blank _ _ _ _ (fun c hc => (bx_ne a c hc).1) (fun c hc => (bx_ne b c hc).1) e'
 exact ⟨bx_inj h1, tx_inj l m hl hm h h2⟩
theorem sx_rng (b : Bool) (l : List Nat) (hl : ∀ n ∈ l, n < 2 ^ 64) : ∀ c ∈ sx b l, c < 128 := by
 intro c hc
 simp only [sx, List.mem_append, List.mem_flatMap, List.mem_cons] at hc
 rcases hc with h | ⟨n, hn, h | h⟩
 ·exact (bx_ne b c h).2
 ·omega
 ·exact (dg_ne (hl n hn) c h).2
theorem sx_len (b : Bool) (l : List Nat) : (sx b l).length ≤ 5 + 66 * l.length := by
 have h : (bx b).length ≤ 5 := by cases b <;> decide
 have h2 : (l.flatMap (fun n => 32 :: dg n)).length ≤ 66 * l.length := by
  induction l with
  | nil => simp
  | cons n l ih =>
    have := dg_len n
    simp only [List.flatMap_cons, List.length_append, List.length_cons]
    omega
 simp only [sx, List.length_append]
 omega
end Go.Proofs.YtclogekfdmikpaaDoor

/- Numbers as texts, to the base of thirty-six: the walk of formatBits. -/
namespace Go.Proofs.YtclogekfdmikpaaDoor
open Go.RowKit Go.Shelf
set_option linter.unusedVariables false
set_option linter.unusedSimpArgs false

def bv (xs : List Nat) : List Value := xs.map (fun (c : Nat) => Value.int .u8 (c : Int))
theorem bv_len (xs : List Nat) : (bv xs).length = xs.length := by simp [bv]
theorem bv_app (xs ys : List Nat) : bv (xs ++ ys) = bv xs ++ bv ys := by simp [bv]
theorem bv_one (xs : List Nat) : ∀ u ∈ bv xs, u.oneCell' = true := by
 intro u hu
 simp only [bv, List.mem_map] at hu
 obtain ⟨c, _, rfl⟩ := hu
 rfl
theorem info_u8 : (Tryd.prog.info? 5).map (fun i => (i.zero, i.size, i.bytes)) = some (some (.int .u8 0), 1, 1) := by kernel_rfl
theorem dg_pos (u : Nat) : 1 ≤ (dg u).length := by
 unfold dg
 rw [show (64 : Nat) = 63 + 1 from rfl, dgF]
 split <;> simp
def dgS : ByteArray := ⟨#[48, 49, 50, 51, 52, 53, 54, 55, 56, 57, 97, 98, 99, 100, 101, 102, 103, 104, 105, 106, 107, 108, 109, 110, 111, 112, 113, 114, 115, 116, 117, 118, 119, 120, 121, 122]⟩
theorem dg_all : (List.range 36).all (fun r => decide (dgS.data[r]? = some (UInt8.ofNat (dgc r)))) = true := by decide
theorem dg_nat (r : Nat) (h : r < 36) (hl : r < ({ data := #[48, 49, 50, 51, 52, 53, 54, 55, 56, 57, 97, 98, 99, 100, 101, 102, 103, 104, 105, 106, 107, 108, 109, 110, 111, 112, 113, 114, 115, 116, 117, 118, 119, 120, 121, 122] } : ByteArray).size) : (({ data := #[48, 49, 50, 51, 52, 53, 54, 55, 56, 57, 97, 98, 99, 100, 101, 102, 103, 104, 105, 106, 107, 108, 109, 110, 111, 112, 113, 114, 115, 116, 117, 118, 119, 120, 121, 122] } : ByteArray)[r]'hl).toNat = dgc r := by
 have h1 := List.all_eq_true.1 dg_all r (by simpa using h)
 have h2 : dgS.data[r]? = some (UInt8.ofNat (dgc r)) := by simpa using h1
 obtain ⟨h3, h4⟩ := Array.getElem?_eq_some_iff.1 h2
 have h5 : ({ data := #[48, 49, 50, 51, 52, 53, 54, 55, 56, 57, 97, 98, 99, 100, 101, 102, 103, 104, 105, 106, 107, 108, 109, 110, 111, 112, 113, 114, 115, 116, 117, 118, 119, 120, 121, 122] } : ByteArray)[r]'hl = UInt8.ofNat (dgc r) := h4
 rw [h5]
 have := dgc_lt h
 simp
 omega
theorem pow36 (W : World) : Calls Tryd.prog 102 #[.int .i64 36] W fun e w' => e = .returned (.bool false) ∧ w' = W := by
 go_enter Tryd.func102, Tryd.ntmps102
 go_wp2
 go_ret
 exact ⟨rfl, rfl⟩
set_option maxRecDepth 100000 in
set_option maxHeartbeats 4000000 in
theorem fb_any (B u n vc : Nat) (va : Option Addr) (xs : List Nat) (w : World) (hu : u < 2 ^ 64) (hown : w.ownsRow B 5 1 (.slice va n vc) n (bv xs)) (hB : B ≤ w.heap.size) (hn : n ≤ 1000000) :
 Calls Tryd.prog 98 #[.slice va n vc, .int .u64 (u : Int), .int .i64 36, .bool false, .bool true] w fun e w' => ∃ g cap, e = .returned (.tuple #[.slice (some ⟨g, 0, none⟩) (n + (dg u).length) cap, .string ⟨#[]⟩]) ∧ w'.ownsRow B 5 1 (.slice (some ⟨g, 0, none⟩) (n + (dg u).length) cap) (n + (dg u).length) (bv (xs ++ dg u)) ∧ w.grownBy w' (Value.slice va n vc).ownBlock := by
 have HOWN : Hid (w.ownsRow B 5 1 (.slice va n vc) n (bv xs)) := hown
 have HU : Hid (u < 2 ^ 64) := hu
 have hni : (n : Int) ≤ 1000000 := by omega
 have hpw := pow36
 have HPW : Hid (∀ W : World, Calls Tryd.prog 102 #[.int .i64 36] W fun e w' => e = .returned (.bool false) ∧ w' = W) := hpw
 obtain ⟨wA, hwA⟩ : ∃ wA, wA = w.alloc (.cells Tryd.zeroCells171 171) := ⟨_, rfl⟩
 obtain ⟨H, hH⟩ : ∃ H, H = w.heap.size := ⟨_, rfl⟩
 have HBA : Hid (Below w.heap.size w wA) := by rw [hwA]; exact (Below.refl _ w).alloc (Nat.le_refl _) _
 have HWA : Hid (wA.heap[H]? = some (.cells Tryd.zeroCells171 171)) := by show _ = _; rw [hwA, hH]; exact heap_alloc_new w _
 have HHW : Hid (H = w.heap.size) := hH
 obtain ⟨m, hm⟩ : ∃ m, m = (dg u).length := ⟨_, rfl⟩
 have HM : Hid (m = (dg u).length) := hm
 rw [← hm]
 clear hown hu hpw hm
 go_enter Tryd.func98, Tryd.ntmps98
 go_upto_region 7 with fail
 rw [← hH, ← hwA]
 clear hH hwA
 go_wp2_with fail
 refine (HPW.out _).mono ?_
 rintro e w1 ⟨rfl, hw1⟩
 subst hw1
 go_wp2
 go_loopw [1, 13, 18] (fun x1 x13 x18 wr => ∃ (k y : Nat) (sf : List Nat) (cur : Array Value), x1 = .int .u64 (y : Int) ∧ x13 = .int .i64 ((65 - k : Nat) : Int) ∧ y < 2 ^ 64 ∧ dg u = dg y ++ sf ∧ sf.length = k ∧ k ≤ 64 ∧ Below w.heap.size w wr ∧ wr.heap[H]? = some (.cells cur 171) ∧ cur.size = 65 ∧ ∀ j, j < k → cur[65 - k + j]? = (bv sf)[j]?) (fun x1 _ _ _ => (intOf x1).toNat)
 case atStart => exact ⟨0, u, [], Tryd.zeroCells171, rfl, rfl, HU.out, by simp, rfl, by omega, HBA.out, HWA.out, by kernel_rfl, fun j hj => by omega⟩
 case round =>
  obtain ⟨k, y, sf, cur, hx1, hx13, hy, hdg, hsf, hk, hbw, hcb, hcs, hcur⟩ := hrel
  subst hx1 hx13
  have HDG : Hid (dg u = dg y ++ sf) := hdg
  have HSF : Hid (sf.length = k) := hsf
  have HBW : Hid (Below w.heap.size w wr) := hbw
  have HCB : Hid (wr.heap[H]? = some (.cells cur 171) ∧ cur.size = 65 ∧ ∀ j, j < k → cur[65 - k + j]? = (bv sf)[j]?) := ⟨hcb, hcs, hcur⟩
  clear hdg hsf hbw hcb hcs hcur
  have hlen := dg_len u
  rw [HDG.out, List.length_append, HSF.out] at hlen
  by_cases hge : 36 ≤ y
  ·have hst := dg_step hge hy
   have hk2 : k + 2 ≤ 65 := by
    rw [hst, List.length_append] at hlen
    have : 1 ≤ (dg (y / 36)).length := dg_pos _
    simp at hlen
    omega
   obtain ⟨i, hi⟩ : ∃ i, i = 65 - k - 1 := ⟨_, rfl⟩
   have hii : ((65 - k : Nat) : Int) - 1 = (i : Int) := by omega
   have hi64 : (i : Int) < 65 := by omega
   obtain ⟨q, hq⟩ : ∃ q, q = y / 36 := ⟨_, rfl⟩
   obtain ⟨r, hr⟩ : ∃ r, r = y % 36 := ⟨_, rfl⟩
   have hqi : (y : Int) / 36 = (q : Int) := by omega
   have hrlt : r < 36 := by omega
   have hw1 : IntKind.u64.wrap ((q : Int) * 36) = (q : Int) * 36 := by rw [IntKind.wrap_u64]; omega
   have hw2 : IntKind.u64.wrap ((y : Int) - (q : Int) * 36) = (r : Int) := by rw [IntKind.wrap_u64]; omega
   have c0 : wr.cell? ⟨H, i, none⟩ = some (cur[i]'(by rw [HCB.out.2.1]; omega)) := (cell_of_row wr H i _ _ _ HCB.out.1).trans (Array.getElem?_eq_getElem _)
   obtain ⟨x0, hx0⟩ : ∃ x0, x0 = cur[i]'(by rw [HCB.out.2.1]; omega) := ⟨_, rfl⟩
   rw [← hx0] at c0
   have f0 : wr.frozen? ⟨H, i, none⟩ = false := Lib.frozen_of_heap HCB.out.1 i
   obtain ⟨d, hd⟩ : ∃ d, d = dgc r := ⟨_, rfl⟩
   have hdn := dg_nat r hrlt
   rw [← hd] at hdn
   obtain ⟨w2, hw2'⟩ : ∃ w2, w2 = wr.setCell ⟨H, i, none⟩ (.int .u8 (d : Int)) := ⟨_, rfl⟩
   have HN : Hid (q < 2 ^ 64 ∧ dg u = dg q ++ (d :: sf) ∧ (d :: sf).length = k + 1 ∧ k + 1 ≤ 64 ∧ Below w.heap.size w w2 ∧ w2.heap[H]? = some (.cells (cur.setIfInBounds i (.int .u8 (d : Int))) 171) ∧ (cur.setIfInBounds i (.int .u8 (d : Int))).size = 65 ∧ ∀ j, j < k + 1 → (cur.setIfInBounds i (.int .u8 (d : Int)))[65 - (k + 1) + j]? = (bv (d :: sf))[j]?) := by
    refine ⟨by omega, ?_, by simp [HSF.out], by omega, ?_, ?_, by simp [HCB.out.2.1], fun j hj => ?_⟩
    ·rw [HDG.out, hst, ← hq, ← hr, ← hd]; simp
    ·rw [hw2']; exact HBW.out.setCell (p := ⟨H, i, none⟩) (by show w.heap.size ≤ H; rw [HHW.out]; exact Nat.le_refl _) _
    ·rw [hw2']; exact heap_setCell_same wr H i _ _ _ HCB.out.1
    ·cases j with
     | zero =>
       rw [Nat.add_zero, show 65 - (k + 1) = i by omega, Array.getElem?_setIfInBounds, if_pos rfl, if_pos (by rw [HCB.out.2.1]; omega)]
       rfl
     | succ j =>
       rw [Array.getElem?_setIfInBounds_ne (by omega), show 65 - (k + 1) + (j + 1) = 65 - k + j by omega, HCB.out.2.2 j (by omega)]
       rfl
   have hm1 : ((65 - k : Nat) : Int) = 65 - (k : Int) := by omega
   have hik : 65 - (k : Int) - 1 = (i : Int) := by omega
   have HK1 : Hid ((65 - (k + 1) : Nat) = i) := by show _ = i; omega
   clear hx0 hlen hst hk2 hi hq hr hd
   go_upto_region 22 with fail
   rw [← hw2']
   clear hw2' c0 f0
   go_wp2
   go_roundw
   case rel => exact ⟨k + 1, q, d :: sf, _, rfl, by rw [HK1.out], HN.out.1, HN.out.2.1, HN.out.2.2.1, HN.out.2.2.2.1, HN.out.2.2.2.2.1, HN.out.2.2.2.2.2⟩
   case measure => simp [intOf]; omega
  ·have hlt36 : y < 36 := by omega
   obtain ⟨i, hi⟩ : ∃ i, i = 65 - k - 1 := ⟨_, rfl⟩
   have hik : 65 - (k : Int) - 1 = (i : Int) := by omega
   have hi64 : (i : Int) < 65 := by omega
   have hm1 : ((65 - k : Nat) : Int) = 65 - (k : Int) := by omega
   have c0 : wr.cell? ⟨H, i, none⟩ = some (cur[i]'(by rw [HCB.out.2.1]; omega)) := (cell_of_row wr H i _ _ _ HCB.out.1).trans (Array.getElem?_eq_getElem _)
   obtain ⟨x0, hx0⟩ : ∃ x0, x0 = cur[i]'(by rw [HCB.out.2.1]; omega) := ⟨_, rfl⟩
   rw [← hx0] at c0
   have f0 : wr.frozen? ⟨H, i, none⟩ = false := Lib.frozen_of_heap HCB.out.1 i
   obtain ⟨d, hd⟩ : ∃ d, d = dgc y := ⟨_, rfl⟩
   have hdn := dg_nat y hlt36
   rw [← hd] at hdn
   obtain ⟨w2, hw2'⟩ : ∃ w2, w2 = wr.setCell ⟨H, i, none⟩ (.int .u8 (d : Int)) := ⟨_, rfl⟩
   have HDU : Hid (dg u = d :: sf) := by show _ = _; rw [HDG.out, dg_one hlt36, ← hd]; rfl
   have HB2 : Hid (Below w.heap.size w w2) := by rw [hw2']; exact HBW.out.setCell (p := ⟨H, i, none⟩) (by show w.heap.size ≤ H; rw [HHW.out]; exact Nat.le_refl _) _
   have HC2 : Hid (∀ j v, (bv (dg u))[j]? = some v → w2.cell? ((⟨H, i, none⟩ : Addr).add j) = some v) := fun j v hv => by
    rw [HDU.out] at hv
    have hj : j < k + 1 := by
     have := (List.getElem?_eq_some_iff.1 hv).1
     rw [bv_len, List.length_cons, HSF.out] at this
     exact this
    have hh : w2.heap[H]? = some (.cells (cur.setIfInBounds i (.int .u8 (d : Int))) 171) := by rw [hw2']; exact heap_setCell_same wr H i _ _ _ HCB.out.1
    rw [add_lit, cell_of_row w2 H (i + j) _ _ _ hh]
    cases j with
    | zero =>
      rw [Nat.add_zero, Array.getElem?_setIfInBounds, if_pos rfl, if_pos (by rw [HCB.out.2.1]; omega), ← hv]
      rfl
    | succ j =>
      rw [Array.getElem?_setIfInBounds_ne (by omega), show i + (j + 1) = 65 - k + j by omega, HCB.out.2.2 j (by omega), ← hv]
      rfl
   have hmk : m = k + 1 := by rw [HM.out, HDU.out, List.length_cons, HSF.out]
   have hmi : 65 - i = m := by omega
   obtain ⟨i0, ji, jz0, jz1, jz2⟩ := info_parts info_u8
   have HJ : Hid (Tryd.prog.info? 5 = some i0 ∧ i0.zero = some (.int .u8 0) ∧ i0.size = 1 ∧ i0.bytes = 1) := ⟨ji, jz0, jz1, jz2⟩
   have HOW : Hid (w2.ownsRow B 5 1 (.slice va n vc) n (bv xs)) := own_later5 HOWN.out HB2.out
   have HBS : Hid (B ≤ w2.heap.size) := Nat.le_trans hB HB2.out.size
   have hsl : ∀ W : World, (Instr.sliceAt 171 (.pointer (some ⟨H, 0, none⟩)) (some (.int .i64 (i : Int))) none none).run Tryd.prog W = .ok (.slice (some ⟨H, i, none⟩) m m) W := by
    intro W
    have hA : Tryd.prog.arrayLen 171 = 65 := by kernel_rfl
    have hE : Tryd.prog.elem 171 = 5 := by kernel_rfl
    have hz := Tryd.sizeOf5 W
    rw [run_sliceAt_array_l W _ _ (by kernel_rfl) .i64 (i : Int) (by omega) (by rw [hA]; omega), hE, hz, hA]
    simp only [Result.andThen_ok, slicedAt, Int.toNat_natCast]
    rw [if_neg (by omega), add_lit, hmi]
    simp
   have hm65 : m ≤ 65 ∧ 0 < m := by omega
   clear hx0 hi hd ji jz0 jz1 jz2 hlen hmk hmi
   go_upto_region 25 with fail
   rw [← hw2']
   clear hw2' c0 f0
   go_wp2_with (at_builtin; refine wpList_append_lies _ rfl _ _ 146 rfl B 5 i0 _ 1 1 Tryd.underlying146 HJ.out.1 HJ.out.2.1 HJ.out.2.2.1 HJ.out.2.2.2 rfl (by decide) (.slice va n vc) n (bv xs) rfl HOW.out ⟨H, i, none⟩ m m (bv (dg u)) rfl (by rw [bv_len, ← HM.out]; omega) HC2.out (bv_one _) (by omega) (by unfold maxLen; omega) (by omega) HBS.out _ rfl (fun g cap w4 q1 q2 q3 q4 => ?_); have Q1 : Hid (w4.ownsRow B 5 1 (.slice (some ⟨g, 0, none⟩) (n + m) cap) (n + m) (bv xs ++ bv (dg u)) ∧ w2.grownBy w4 (Value.slice va n vc).ownBlock) := ⟨q1, q2⟩; clear q1 q2 q3 q4)
   have HFN : Hid (w4.ownsRow B 5 1 (.slice (some ⟨g, 0, none⟩) (n + m) cap) (n + m) (bv (xs ++ dg u)) ∧ w.grownBy w4 (Value.slice va n vc).ownBlock) := ⟨by rw [bv_app]; exact Q1.out.1, grown_all (grown_none HB2.out _) Q1.out.2⟩
   go_ret2
   exact ⟨g, cap, rfl, HFN.out⟩
end Go.Proofs.YtclogekfdmikpaaDoor

/- Numbers and truths as texts: the walks of AppendUint, AppendInt, AppendBool. -/
namespace Go.Proofs.YtclogekfdmikpaaDoor
open Go.RowKit Go.Shelf
set_option linter.unusedVariables false
set_option linter.unusedSimpArgs false

def ApB (B n : Nat) (va : Option Addr) (vc : Nat) (xs : List Nat) (ys : List Nat) (w : World) (e : Ending) (w' : World) : Prop :=
 ∃ g cap, e = .returned (.slice (some ⟨g, 0, none⟩) (n + ys.length) cap) ∧ w'.ownsRow B 5 1 (.slice (some ⟨g, 0, none⟩) (n + ys.length) cap) (n + ys.length) (bv (xs ++ ys)) ∧ w.grownBy w' (Value.slice va n vc).ownBlock
theorem au_in (B u n vc : Nat) (va : Option Addr) (xs : List Nat) (w : World) (hu : u < 2 ^ 64) (hown : w.ownsRow B 5 1 (.slice va n vc) n (bv xs)) (hB : B ≤ w.heap.size) (hn : n ≤ 1000000) :
 Calls Tryd.prog 91 #[.slice va n vc, .int .u64 (u : Int), .int .i64 36] w (ApB B n va vc xs (dg u) w) := by
 have HC : Hid (Calls Tryd.prog 98 #[.slice va n vc, .int .u64 (u : Int), .int .i64 36, .bool false, .bool true] w fun e w' => ∃ g cap, e = .returned (.tuple #[.slice (some ⟨g, 0, none⟩) (n + (dg u).length) cap, .string ⟨#[]⟩]) ∧ w'.ownsRow B 5 1 (.slice (some ⟨g, 0, none⟩) (n + (dg u).length) cap) (n + (dg u).length) (bv (xs ++ dg u)) ∧ w.grownBy w' (Value.slice va n vc).ownBlock) := fb_any B u n vc va xs w hu hown hB hn
 clear hu hown
 go_enter Tryd.func91, Tryd.ntmps91
 go_wp2_with fail
 refine HC.out.mono ?_
 rintro e w' ⟨g, cap, rfl, h1, h2⟩
 have HF : Hid (w'.ownsRow B 5 1 (.slice (some ⟨g, 0, none⟩) (n + (dg u).length) cap) (n + (dg u).length) (bv (xs ++ dg u)) ∧ w.grownBy w' (Value.slice va n vc).ownBlock) := ⟨h1, h2⟩
 clear h1 h2 HC
 go_wp2
 go_ret
 exact ⟨g, cap, rfl, HF.out⟩
theorem au_any (B u n vc : Nat) (va : Option Addr) (xs : List Nat) (w : World) (hu : u < 2 ^ 64) (hown : w.ownsRow B 5 1 (.slice va n vc) n (bv xs)) (hB : B ≤ w.heap.size) (hn : n ≤ 1000000) :
 Calls Tryd.prog 80 #[.slice va n vc, .int .u64 (u : Int), .int .i64 36] w (ApB B n va vc xs (dg u) w) := by
 have HC : Hid (Calls Tryd.prog 91 #[.slice va n vc, .int .u64 (u : Int), .int .i64 36] w (ApB B n va vc xs (dg u) w)) := au_in B u n vc va xs w hu hown hB hn
 clear hu hown
 go_enter Tryd.func80, Tryd.ntmps80
 go_wp2_with fail
 refine HC.out.mono ?_
 rintro e w' ⟨g, cap, rfl, h1, h2⟩
 have HF : Hid (w'.ownsRow B 5 1 (.slice (some ⟨g, 0, none⟩) (n + (dg u).length) cap) (n + (dg u).length) (bv (xs ++ dg u)) ∧ w.grownBy w' (Value.slice va n vc).ownBlock) := ⟨h1, h2⟩
 clear h1 h2 HC
 go_wp2
 go_ret
 exact ⟨g, cap, rfl, HF.out⟩
set_option maxRecDepth 100000 in
theorem ai_in (B u n vc : Nat) (va : Option Addr) (xs : List Nat) (w : World) (hu : u < 2 ^ 63) (hown : w.ownsRow B 5 1 (.slice va n vc) n (bv xs)) (hB : B ≤ w.heap.size) (hn : n ≤ 1000000) :
 Calls Tryd.prog 93 #[.slice va n vc, .int .i64 (u : Int), .int .i64 36] w (ApB B n va vc xs (dg u) w) := by
 have HC : Hid (Calls Tryd.prog 91 #[.slice va n vc, .int .u64 (u : Int), .int .i64 36] w (ApB B n va vc xs (dg u) w)) := au_in B u n vc va xs w (by omega) hown hB hn
 have hwr : IntKind.u64.wrap (u : Int) = (u : Int) := by rw [IntKind.wrap_u64]; omega
 clear hu hown
 go_enter Tryd.func93, Tryd.ntmps93
 go_wp2_with fail
 refine HC.out.mono ?_
 rintro e w' ⟨g, cap, rfl, h1, h2⟩
 have HF : Hid (w'.ownsRow B 5 1 (.slice (some ⟨g, 0, none⟩) (n + (dg u).length) cap) (n + (dg u).length) (bv (xs ++ dg u)) ∧ w.grownBy w' (Value.slice va n vc).ownBlock) := ⟨h1, h2⟩
 clear h1 h2 HC
 go_wp2
 go_ret
 exact ⟨g, cap, rfl, HF.out⟩
theorem ai_any (B u n vc : Nat) (va : Option Addr) (xs : List Nat) (w : World) (hu : u < 2 ^ 63) (hown : w.ownsRow B 5 1 (.slice va n vc) n (bv xs)) (hB : B ≤ w.heap.size) (hn : n ≤ 1000000) :
 Calls Tryd.prog 84 #[.slice va n vc, .int .i64 (u : Int), .int .i64 36] w (ApB B n va vc xs (dg u) w) := by
 have HC : Hid (Calls Tryd.prog 93 #[.slice va n vc, .int .i64 (u : Int), .int .i64 36] w (ApB B n va vc xs (dg u) w)) := ai_in B u n vc va xs w hu hown hB hn
 clear hu hown
 go_enter Tryd.func84, Tryd.ntmps84
 go_wp2_with fail
 refine HC.out.mono ?_
 rintro e w' ⟨g, cap, rfl, h1, h2⟩
 have HF : Hid (w'.ownsRow B 5 1 (.slice (some ⟨g, 0, none⟩) (n + (dg u).length) cap) (n + (dg u).length) (bv (xs ++ dg u)) ∧ w.grownBy w' (Value.slice va n vc).ownBlock) := ⟨h1, h2⟩
 clear h1 h2 HC
 go_wp2
 go_ret
 exact ⟨g, cap, rfl, HF.out⟩
theorem ab_in (b : Bool) (w : World) : Calls Tryd.prog 90 #[.slice none 0 0, .bool b] w (ApB w.heap.size 0 none 0 [] (bx b) w) := by
 have HO : Hid (w.ownsRow w.heap.size 5 1 (.slice none 0 0) 0 []) := ⟨rfl, .inl ⟨rfl, rfl⟩⟩
 obtain ⟨i0, ji, jz0, jz1, jz2⟩ := info_parts info_u8
 have HJ : Hid (Tryd.prog.info? 5 = some i0 ∧ i0.zero = some (.int .u8 0) ∧ i0.size = 1 ∧ i0.bytes = 1) := ⟨ji, jz0, jz1, jz2⟩
 have HFN : Hid (∀ (s : ByteArray) (v' : Value) (w' : World), s.size = (bx b).length → Lib.strCells s = bv (bx b) → w'.ownsRow w.heap.size 5 1 v' (0 + s.size) ([] ++ Lib.strCells s) → w.grownBy w' (Value.slice none 0 0).ownBlock → ApB w.heap.size 0 none 0 [] (bx b) w (.returned v') w') := fun s v' w' h1 h2 h3 h4 => by
  rw [h1, h2, List.nil_append] at h3
  rcases h3.2 with ⟨_, h0⟩ | ⟨g, cap, cur, rfl, _⟩
  ·have : (bx b).length ≠ 0 := by cases b <;> decide
   omega
  ·exact ⟨g, cap, rfl, h3, h4⟩
 clear ji jz0 jz1 jz2
 cases b with
 | true =>
   go_enter Tryd.func90, Tryd.ntmps90
   go_wp2_with (at_builtin; refine Lib.wpList_append_own_string _ rfl _ _ 146 9 rfl w.heap.size 5 i0 Tryd.underlying146 Tryd.underlying9 HJ.out.1 HJ.out.2.1 HJ.out.2.2.1 HJ.out.2.2.2 (.slice none 0 0) 0 [] rfl HO.out _ rfl (by decide) (by decide) (Nat.le_refl _) ?_; intro v' w' h1 h2 _; have HF : Hid (ApB w.heap.size 0 none 0 [] (bx true) w (.returned v') w') := HFN.out _ v' w' rfl rfl h1 h2; clear h1 h2)
   go_ret
   exact HF.out
 | false =>
   go_enter Tryd.func90, Tryd.ntmps90
   go_wp2_with (at_builtin; refine Lib.wpList_append_own_string _ rfl _ _ 146 9 rfl w.heap.size 5 i0 Tryd.underlying146 Tryd.underlying9 HJ.out.1 HJ.out.2.1 HJ.out.2.2.1 HJ.out.2.2.2 (.slice none 0 0) 0 [] rfl HO.out _ rfl (by decide) (by decide) (Nat.le_refl _) ?_; intro v' w' h1 h2 _; have HF : Hid (ApB w.heap.size 0 none 0 [] (bx false) w (.returned v') w') := HFN.out _ v' w' rfl rfl h1 h2; clear h1 h2)
   go_ret
   exact HF.out
theorem ab_any (b : Bool) (w : World) : Calls Tryd.prog 79 #[.slice none 0 0, .bool b] w (ApB w.heap.size 0 none 0 [] (bx b) w) := by
 have HC : Hid (Calls Tryd.prog 90 #[.slice none 0 0, .bool b] w (ApB w.heap.size 0 none 0 [] (bx b) w)) := ab_in b w
 go_enter Tryd.func79, Tryd.ntmps79
 go_wp2_with fail
 refine HC.out.mono ?_
 rintro e w' ⟨g, cap, rfl, h1, h2⟩
 have HF : Hid (w'.ownsRow w.heap.size 5 1 (.slice (some ⟨g, 0, none⟩) (0 + (bx b).length) cap) (0 + (bx b).length) (bv ([] ++ bx b)) ∧ w.grownBy w' (Value.slice none 0 0).ownBlock) := ⟨h1, h2⟩
 clear h1 h2 HC
 go_wp2
 go_ret
 exact ⟨g, cap, by rw [Nat.zero_add]; rfl, HF.out⟩
def tS (xs : List Nat) : ByteArray := strOfNums (intsN xs)
theorem tS_inj {xs ys : List Nat} (hx : ∀ c ∈ xs, c < 128) (hy : ∀ c ∈ ys, c < 128) (h : (tS xs).data.toList = (tS ys).data.toList) : xs = ys := by
 have h1 : ∀ zs : List Nat, (tS zs).data.toList = (intsN zs).map fun n => UInt8.ofNat n.toNat := fun zs => by simp [tS, strOfNums]
 rw [h1, h1] at h
 have hr : ∀ zs : List Nat, (∀ c ∈ zs, c < 128) → ∀ y ∈ intsN zs, 0 ≤ y ∧ y ≤ 255 := fun zs hz y hy => by
  simp only [intsN, List.mem_map] at hy
  obtain ⟨c, hc, rfl⟩ := hy
  have := hz c hc
  simp
  omega
 have h2 := map_inj _ _ (hr xs hx) (hr ys hy) h
 unfold intsN at h2
 exact (List.map_inj_right (fun a b e => Int.ofNat.inj e)).1 h2
theorem tS_size (xs : List Nat) : (tS xs).size = xs.length := by rw [tS, strOfNums_size]; simp [intsN]
theorem conv_own {w : World} {B n : Nat} {v : Value} {xs : List Nat} (h : w.ownsRow B 5 1 v n (bv xs)) : (convert 146 9 v).run Tryd.prog w = .ok (.string (tS xs)) w := by
 have hb : bv xs = (intsN xs).map (Value.int .u8) := by simp [bv, intsN]
 rw [hb] at h
 obtain ⟨a, cap, rfl, _, _, hl, hc⟩ := rd_own h
 by_cases hz : n = 0
 ·subst hz
  have hx : intsN xs = [] := List.eq_nil_of_length_eq_zero hl
  unfold tS
  rw [hx, run_convert_bytes_string w _ _ 5 _ 0 cap Tryd.underlying146 Tryd.underlying5 Tryd.underlying9]
  cases a <;> simp [Conv.bytesToString, loadCells]
  all_goals rfl
 ·obtain ⟨b, off, rfl, hcc⟩ := hc (by omega)
  exact run_convert_bytes_arg w 146 5 Tryd.underlying146 Tryd.underlying5 b off n cap (intsN xs) hl hcc 9 Tryd.underlying9
end Go.Proofs.YtclogekfdmikpaaDoor
