/- In one text: SegC, BasT, NfaEb, SegD, SegE, SegF, TabI, TabJ. -/
import Derived.Test.YtcafffohnokjgaaDoorJ04
import Derived.Test.YtcafffohnokjgaaDoorJ24
import Derived.Test.YtcafffohnokjgaaDoorJ25
import Derived.Deep.CutBlock
import Derived.Test.YtcafffohnokjgaaDoorJ01
import Derived.Test.YtcafffohnokjgaaDoorJ03
import Derived.Test.YtcafffohnokjgaaDoorJ22
/- The walk of seg's boundaries: it makes the iterator. -/
namespace Go.Proofs.YtcafffohnokjgaaDoor
open Go.RowKit Go.Shelf
set_option linter.unusedVariables false
set_option linter.unusedSimpArgs false

theorem box1 {w : World} {B : Nat} {a : Value} {t : TypeId} (hh : w.heap[B]? = some (.cells #[a] t)) : w.cell? ⟨B, 0, none⟩ = some a ∧ w.frozen? ⟨B, 0, none⟩ = false := ⟨cell_of_row w B 0 _ _ _ hh, Lib.frozen_of_heap hh 0⟩
theorem box4s {w : World} {B : Nat} {a b c d : Value} {t : TypeId} (hh : w.heap[B]? = some (.cells #[a, b, c, d] t)) : w.cell? ⟨B, 0, none⟩ = some a ∧ w.cell? ⟨B, 1, none⟩ = some b :=
 ⟨cell_of_row w B 0 _ _ _ hh, cell_of_row w B 1 _ _ _ hh⟩
def BndP (K : Nat) (l : List Rl) (tb n : Nat) (row : List Int) (w : World) (e : Ending) (w' : World) : Prop := Below w.heap.size w w' ∧
 ((¬ Cls K row ∧ e = .returned (.tuple #[.nilFunc, .int .i64 1])) ∨ (Cls K row ∧ ∃ (nxA : List (List Nat)) (ouA : List Nat) (nxB : List (List Nat)) (ouB : List Nat) (Bn Bt Ba Bb ga gb ca cb : Nat),
  e = .returned (.tuple #[.func (.func 42) #[] #[.pointer (some ⟨Bn, 0, none⟩), .pointer (some ⟨Bt, 0, none⟩), .pointer (some ⟨Ba, 0, none⟩), .pointer (some ⟨Bb, 0, none⟩)], .int .i64 0]) ∧
  SegAt n tb Bn Bt Ba Bb ga gb ca cb (brkN l) l.length (ouR nxA ouA row) (ouR nxB ouB row.reverse) w' ∧ LeastOf K (xsL l) nxA ouA ∧ LeastOf K (xsR l) nxB ouB))
def BhS (W : World) (n : Nat) (nxB : List (List Nat)) (ouB : List Nat) (row : List Int) (Bb : Nat) (V : World) : Prop :=
 Below W.heap.size W V ∧ ∃ gb cb : Nat, V.cell? ⟨Bb, 0, none⟩ = some (.slice (some ⟨gb, 0, none⟩) (n + 1) cb) ∧ ∀ i, i < n + 1 → V.cell? ⟨gb, i, none⟩ = some (.int .u64 ((ouR nxB ouB row.reverse i : Nat) : Int))
set_option maxRecDepth 100000 in
set_option maxHeartbeats 8000000 in
theorem boundaries_any (K tb n xc : Nat) (l : List Rl) (row : List Int) (xa : Option Addr) (w : World) (hta : TabAt w K l tb) (hrd : Rd .i64 w xa n row) (hnone : xa = none → xc = 0) (hn : n ≤ 1000) :
 Calls Tryd.prog 28 #[.pointer (some ⟨tb, 0, none⟩), .slice xa n xc] w (BndP K l tb n row w) := by
 obtain ⟨la, lb, nxA, ouA, nxB, ouB, htb, hma, hla, _, hmb, hlb, _⟩ := hta
 have hmf : ∀ (fn : Fn) (first cap : Array Value) (w : World), (Instr.makeFunc fn first cap).run Tryd.prog w = .ok (.func fn first cap) w := fun _ _ _ _ => rfl
 have HL : Hid (row.length = n) := hrd.1
 have hni : (n : Int) ≤ 1000 := by omega
 obtain ⟨br, hbr⟩ : ∃ br, br = brkN l := ⟨_, rfl⟩
 obtain ⟨N, hN⟩ : ∃ N, N = l.length := ⟨_, rfl⟩
 have HBN : Hid (br = brkN l ∧ N = l.length) := ⟨hbr, hN⟩
 rw [← hbr, ← hN] at htb
 have HTV : Hid (∀ V : World, Below w.heap.size w V → V.heap[tb]? = some (.cells #[.pointer (some ⟨la, 0, none⟩), .pointer (some ⟨lb, 0, none⟩), .int .u64 (br : Int), .int .i64 (N : Int)] 60)) := fun V hV => (hV.block tb (Array.getElem?_eq_some_iff.1 htb).1).trans htb
 have HMV : Hid (∀ V : World, Below w.heap.size w V → MchAt V la K nxA ouA ∧ MchAt V lb K nxB ouB) := fun V hV => ⟨hma.later hV, hmb.later hV⟩
 have HLE : Hid (LeastOf K (xsL l) nxA ouA ∧ LeastOf K (xsR l) nxB ouB) := ⟨hla, hlb⟩
 have HRV : Hid (∀ V : World, Below w.heap.size w V → Rd .i64 V xa n row) := fun V hV => hrd.later hV
 have HNO : Hid (xa = none → xc = 0) := hnone
 obtain ⟨Bt, hBt⟩ : ∃ B, B = w.heap.size := ⟨_, rfl⟩
 obtain ⟨W0, hW0⟩ : ∃ W0, W0 = w.alloc (.cells #[.pointer (some ⟨tb, 0, none⟩)] 29) := ⟨_, rfl⟩
 have HB0 : Hid (Below w.heap.size w W0) := by rw [hW0]; exact (Below.refl _ w).alloc (Nat.le_refl _) _
 have HX0 : Hid (W0.heap[Bt]? = some (.cells #[.pointer (some ⟨tb, 0, none⟩)] 29)) := by show _ = _; rw [hW0, hBt]; exact heap_alloc_new w _
 have HSB : Hid (w.heap.size ≤ Bt) := Nat.le_of_eq hBt.symm
 clear htb hma hla hmb hlb hrd hnone hn hbr hN
 go_enter Tryd.func28, Tryd.ntmps28
 go_upto_region 1 with fail
 rw [← hBt, ← hW0]
 clear hBt hW0
 obtain ⟨b0, _⟩ := box1 HX0.out
 obtain ⟨c0, c1⟩ := box4s (HTV.out W0 HB0.out)
 have HC1 : Hid (Calls Tryd.prog 40 #[.pointer (some ⟨la, 0, none⟩), .slice xa n xc] W0 (RunP K nxA ouA row W0)) := by
  have hle := HLE.out.1
  have h := run_any W0 la K nxA ouA row xa xc (HMV.out W0 HB0.out).1 hle.asMet hle.wide hle.len (by rw [HL.out]; exact HRV.out W0 HB0.out) (by rw [HL.out]; omega)
  rw [HL.out] at h
  exact h
 go_wp2_with fail
 refine HC1.out.mono ?_
 rintro e w1 ⟨hb1, hor⟩
 have HB1 : Hid (Below w.heap.size w w1) := HB0.out.trans (hb1.mono HB0.out.size)
 have HX1 : Hid (w1.heap[Bt]? = some (.cells #[.pointer (some ⟨tb, 0, none⟩)] 29)) := (hb1.block Bt (Array.getElem?_eq_some_iff.1 HX0.out).1).trans HX0.out
 rw [HL.out] at hor
 clear hb1 b0 c0 c1 HC1
 rcases hor with ⟨hnc, rfl⟩ | ⟨hcl, ga, ca, rfl, how⟩
 ·have HNC : Hid (¬ Cls K row) := hnc
  clear hnc
  obtain ⟨W2, hW2⟩ : ∃ W2, W2 = w1.alloc (.cells #[.slice none 0 0] 81) := ⟨_, rfl⟩
  have HB2 : Hid (Below w.heap.size w W2) := by rw [hW2]; exact HB1.out.alloc HB1.out.size _
  go_upto_region 4 with fail
  try rw [← hW2]
  clear hW2
  go_wp2_with fail
  go_ret2
  exact ⟨HB2.out, .inl ⟨HNC.out, rfl⟩⟩
 have HCL : Hid (Cls K row) := hcl
 have HOA : Hid (∀ V : World, Below w1.heap.size w1 V → ∀ i, i < n + 1 → V.cell? ⟨ga, i, none⟩ = some (.int .u64 ((ouR nxA ouA row i : Nat) : Int))) := fun V hV i hi => run_told how hV i hi
 obtain ⟨Ba, hBa⟩ : ∃ B, B = w1.heap.size := ⟨_, rfl⟩
 obtain ⟨W2, hW2⟩ : ∃ W2, W2 = w1.alloc (.cells #[.slice (some ⟨ga, 0, none⟩) (n + 1) ca] 81) := ⟨_, rfl⟩
 have HC2 : Hid (Below w1.heap.size w1 W2) := by rw [hW2]; exact (Below.refl _ w1).alloc (Nat.le_refl _) _
 have HB2 : Hid (Below w.heap.size w W2) := HB1.out.trans (HC2.out.mono HB1.out.size)
 have HA2 : Hid (W2.heap[Ba]? = some (.cells #[.slice (some ⟨ga, 0, none⟩) (n + 1) ca] 81)) := by show _ = _; rw [hW2, hBa]; exact heap_alloc_new w1 _
 have HX2 : Hid (W2.heap[Bt]? = some (.cells #[.pointer (some ⟨tb, 0, none⟩)] 29)) := (HC2.out.block Bt (Array.getElem?_eq_some_iff.1 HX1.out).1).trans HX1.out
 clear hcl how
 go_upto_region 4 with fail
 try rw [← hBa]
 try rw [← hW2]
 clear hBa hW2
 obtain ⟨b0', _⟩ := box1 HX2.out
 obtain ⟨_, c1'⟩ := box4s (HTV.out W2 HB2.out)
 have HTU : Hid (∀ V : World, Below W2.heap.size W2 V → Calls Tryd.prog 41 #[.slice xa n xc] V fun e w' => ∃ a' c', e = .returned (.slice a' n c') ∧ w'.ownsRow V.heap.size 3 1 (.slice a' n c') n (row.reverse.map (Value.int .i64)) ∧ Below V.heap.size V w') := fun V hV =>
  turnedI_any row xa n xc V (HRV.out V (HB2.out.trans (hV.mono HB2.out.size))) HNO.out (by omega)
 have HRU : Hid (∀ (V : World) (av : Option Addr) (c3 : Nat), Below W2.heap.size W2 V → Rd .i64 V av n row.reverse → Calls Tryd.prog 40 #[.pointer (some ⟨lb, 0, none⟩), .slice av n c3] V (RunP K nxB ouB row.reverse V)) := fun V av c3 hV hr => by
  have hle := HLE.out.2
  have hlr : row.reverse.length = n := by rw [List.length_reverse, HL.out]
  have h := run_any V lb K nxB ouB row.reverse av c3 (HMV.out V (HB2.out.trans (hV.mono HB2.out.size))).2 hle.asMet hle.wide hle.len (by rw [hlr]; exact hr) (by omega)
  rw [hlr] at h
  exact h
 go_upto_region 6 with fail
 go_cut [7, 8] (fun x7 x8 wx => ∃ Bb : Nat, x7 = .int .i64 0 ∧ x8 = .pointer (some ⟨Bb, 0, none⟩) ∧ BhS W2 n nxB ouB row Bb wx)
 case first =>
  refine wp_region_noPanic ?_
  have HD0 : Hid (Below W2.heap.size W2 W2.drew) := (Below.refl _ W2).drew
  refine wp_region_held_drew (S := (fun w' => Below W2.heap.size W2 w')) (by kernel_rfl) HD0.out (fun hHeld => ?_)
  obtain ⟨u0, hu0⟩ : ∃ u, u = W2.drew := ⟨_, rfl⟩
  rw [← hu0] at HD0 ⊢
  clear hu0
  refine wpAnyH_take (i := 0) (v := ?_) rfl (by kernel_rfl) (by kernel_rfl) (by kernel_rfl) (fun _ _ _ h => h) (Or.inl ⟨by rfl, ?_⟩) (by assumption) ?_
  rotate_left
  ·intro wS hSw; have b0 := upC hSw b0'; have c1 := upC hSw c1'; clear hSw; go_simp; try with_reducible rfl
  try simp only [Act.put, List.getElem_toArray, List.getElem_cons_succ, List.getElem_cons_zero, List.setIfInBounds_toArray, List.set_cons_zero, List.set_cons_succ]
  refine wpAnyH_take (i := 1) (v := ?_) rfl (by kernel_rfl) (by kernel_rfl) (by kernel_rfl) (fun _ _ _ h => h) (Or.inl ⟨by rfl, ?_⟩) (by assumption) ?_
  rotate_left
  ·intro wS hSw; have b0 := upC hSw b0'; have c1 := upC hSw c1'; clear hSw; go_simp; try with_reducible rfl
  try simp only [Act.put, List.getElem_toArray, List.getElem_cons_succ, List.getElem_cons_zero, List.setIfInBounds_toArray, List.set_cons_zero, List.set_cons_succ]
  refine wpAnyH_take (i := 2) (v := ?_) rfl (by kernel_rfl) (by kernel_rfl) (by kernel_rfl) (fun _ _ _ h => h) (Or.inl ⟨by rfl, ?_⟩) (by assumption) ?_
  rotate_left
  ·intro wS hSw; have b0 := upC hSw b0'; have c1 := upC hSw c1'; clear hSw; go_simp; try with_reducible rfl
  try simp only [Act.put, List.getElem_toArray, List.getElem_cons_succ, List.getElem_cons_zero, List.setIfInBounds_toArray, List.set_cons_zero, List.set_cons_succ]
  refine wpAnyH_take (i := 3) (v := ?_) rfl (by kernel_rfl) (by kernel_rfl) (by kernel_rfl) (fun _ _ _ h => h) (Or.inl ⟨by rfl, ?_⟩) (by assumption) ?_
  rotate_left
  ·intro wS hSw; have b0 := upC hSw b0'; have c1 := upC hSw c1'; clear hSw; go_simp; try with_reducible rfl
  try simp only [Act.put, List.getElem_toArray, List.getElem_cons_succ, List.getElem_cons_zero, List.setIfInBounds_toArray, List.set_cons_zero, List.set_cons_succ]
  refine wpAnyH_take (i := 4) (v := ?_) rfl (by kernel_rfl) (by kernel_rfl) (by kernel_rfl) (fun _ _ _ h => h) (Or.inl ⟨by rfl, ?_⟩) (by assumption) ?_
  rotate_left
  ·intro wS hSw; have b0 := upC hSw b0'; have c1 := upC hSw c1'; clear hSw; go_simp; try with_reducible rfl
  try simp only [Act.put, List.getElem_toArray, List.getElem_cons_succ, List.getElem_cons_zero, List.setIfInBounds_toArray, List.set_cons_zero, List.set_cons_succ]
  refine wpAnyH_ready (rs := [5, 10]) (by kernel_rfl) (by simp) ?_
  refine AllReadyH.cons rfl (fun KK hK => ?_) ?_
  ·skip
   go_simp
   refine (HTU.out u0 HD0.out).mono ?_
   rintro e u1 ⟨au1, cu1, rfl, hou1, hbu1⟩
   have HBu1 : Hid (Below W2.heap.size W2 u1) := HD0.out.trans (hbu1.mono HD0.out.size)
   have HRu1 : Hid (∀ V : World, Below u1.heap.size u1 V → Rd .i64 V au1 n row.reverse) := fun V hV => by
    obtain ⟨a2, c2', e2, _, _, hr, _⟩ := rd_own2 hou1
    cases e2
    exact hr.later hV
   clear hou1 hbu1
   go_simp
   refine hK.out _ _ HBu1.out (fun hHeld => ?_)
   clear hK KK
   try simp only [Act.put, List.getElem_toArray, List.getElem_cons_succ, List.getElem_cons_zero, List.setIfInBounds_toArray, List.set_cons_zero, List.set_cons_succ]
   refine wpAnyH_ready (rs := [6, 10]) (by kernel_rfl) (by simp) ?_
   refine AllReadyH.cons rfl (fun KK hK => ?_) ?_
   ·skip
    go_simp
    refine (HRU.out u1 au1 cu1 HBu1.out (HRu1.out u1 (Below.refl _ _))).mono ?_
    rintro e u2 ⟨hbu2, hor⟩
    have HBu2 : Hid (Below W2.heap.size W2 u2) := HBu1.out.trans (hbu2.mono HBu1.out.size)
    rw [List.length_reverse, HL.out] at hor
    obtain ⟨gu2, cu2, rfl, how⟩ : ∃ g cap, e = .returned (.tuple #[.slice (some ⟨g, 0, none⟩) (n + 1) cap, .int .i64 0]) ∧ u2.ownsRow u1.heap.size 58 1 (.slice (some ⟨g, 0, none⟩) (n + 1) cap) (n + 1) (uv (runO nxB ouB (row.reverse.map Int.toNat) (n + 1))) := by
     rcases hor with ⟨hnc, _⟩ | ⟨_, h⟩
     ·exact absurd (cls_rev HCL.out) hnc
     ·exact h
    have HGu2 : Hid (∀ V : World, Below u2.heap.size u2 V → ∀ i, i < n + 1 → V.cell? ⟨gu2, i, none⟩ = some (.int .u64 ((ouR nxB ouB row.reverse i : Nat) : Int))) := fun V hV i hi => run_told how hV i hi
    clear hbu2 hor how
    go_simp
    refine hK.out _ _ HBu2.out (fun hHeld => ?_)
    clear hK KK
    try simp only [Act.put, List.getElem_toArray, List.getElem_cons_succ, List.getElem_cons_zero, List.setIfInBounds_toArray, List.set_cons_zero, List.set_cons_succ]
    refine wpAnyH_take (i := 7) (v := ?_) rfl (by kernel_rfl) (by kernel_rfl) (by kernel_rfl) (fun _ _ _ h => h) (Or.inl ⟨by rfl, ?_⟩) (by assumption) ?_
    rotate_left
    ·intro wS hSw; have b0 := upC hSw b0'; have c1 := upC hSw c1'; clear hSw; go_simp; try with_reducible rfl
    try simp only [Act.put, List.getElem_toArray, List.getElem_cons_succ, List.getElem_cons_zero, List.setIfInBounds_toArray, List.set_cons_zero, List.set_cons_succ]
    refine wpAnyH_take (i := 8) (v := ?_) rfl (by kernel_rfl) (by kernel_rfl) (by kernel_rfl) (fun _ _ _ h => h) (Or.inl ⟨by rfl, ?_⟩) (by assumption) ?_
    rotate_left
    ·intro wS hSw; have b0 := upC hSw b0'; have c1 := upC hSw c1'; clear hSw; go_simp; try with_reducible rfl
    try simp only [Act.put, List.getElem_toArray, List.getElem_cons_succ, List.getElem_cons_zero, List.setIfInBounds_toArray, List.set_cons_zero, List.set_cons_succ]
    refine wpAnyH_take (i := 9) (v := ?_) rfl (by kernel_rfl) (by kernel_rfl) (by kernel_rfl) (fun _ _ _ h => h) (Or.inl ⟨by rfl, ?_⟩) (by assumption) ?_
    rotate_left
    ·intro wS hSw; have b0 := upC hSw b0'; have c1 := upC hSw c1'; clear hSw; go_simp; try with_reducible rfl
    try simp only [Act.put, List.getElem_toArray, List.getElem_cons_succ, List.getElem_cons_zero, List.setIfInBounds_toArray, List.set_cons_zero, List.set_cons_succ]
    refine wpAnyH_ready (rs := [10]) (by kernel_rfl) (by simp) ?_
    refine AllReadyH.cons rfl (fun KK hK => ?_) ?_
    ·skip
     obtain ⟨u3, hu3⟩ : ∃ u, u = u2.alloc (.cells #[.slice none 0 0] 81) := ⟨_, rfl⟩
     obtain ⟨ou3, hou3⟩ : ∃ o, o = u2.heap.size := ⟨_, rfl⟩
     have hbu3 : Below u2.heap.size u2 u3 := by rw [hu3]; exact (Below.refl _ u2).alloc (Nat.le_refl _) _
     have HBu3 : Hid (Below W2.heap.size W2 u3) := HBu2.out.trans (hbu3.mono HBu2.out.size)
     have HOu3 : Hid (u3.heap[ou3]? = some (.cells #[.slice none 0 0] 81)) := by show _ = _; rw [hu3, hou3]; exact heap_alloc_new u2 _
     have HWu3 : Hid (W2.heap.size ≤ ou3) := by rw [hou3]; exact HBu2.out.size
     have HEu3 : Hid (Below u2.heap.size u2 u3) := hbu3
     go_simp
     try rw [← hou3]
     try rw [← hu3]
     refine hK.out _ _ HBu3.out (fun hHeld => ?_)
     clear hK KK hu3 hou3 hbu3
     try simp only [Act.put, List.getElem_toArray, List.getElem_cons_succ, List.getElem_cons_zero, List.setIfInBounds_toArray, List.set_cons_zero, List.set_cons_succ]
     refine wpAnyH_ready (rs := [11]) (by kernel_rfl) (by simp) ?_
     refine AllReadyH.cons rfl (fun KK hK => ?_) ?_
     ·skip
      have HFN : Hid (BhS W2 n nxB ouB row ou3 (u3.setCell ⟨ou3, 0, none⟩ (.slice (some ⟨gu2, 0, none⟩) (n + 1) cu2))) := by
       have hg := grown_cell u3 ou3 0 (Value.slice (some ⟨gu2, 0, none⟩) (n + 1) cu2)
       refine ⟨HBu3.out.grown hg HBu3.out.size (fun k hk => by cases hk; exact HWu3.out), gu2, cu2, cell_of_row _ _ 0 _ _ _ (heap_setCell_same _ ou3 0 _ _ _ HOu3.out), fun i hi => ?_⟩
       have hx := HGu2.out u3 HEu3.out i hi
       have hne : (⟨gu2, i, none⟩ : Addr).block ≠ ou3 := fun e => by
        have e2 : gu2 = ou3 := e
        rw [e2] at hx
        have h2 := box1 HOu3.out
        rcases i with _ | i
        ·rw [h2.1] at hx; cases hx
        ·rw [cell_of_row _ _ (i + 1) _ _ _ HOu3.out] at hx; simp at hx
       rw [World.cell?_setCell_far u3 ⟨ou3, 0, none⟩ ⟨gu2, i, none⟩ _ (fun e => hne e.symm)]
       exact hx
      obtain ⟨z0, z1⟩ := box1 HOu3.out
      go_simp
      refine hK.out _ _ HFN.out.1 (fun hHeld => ?_)
      clear hK KK z0 z1
      try simp only [Act.put, List.getElem_toArray, List.getElem_cons_succ, List.getElem_cons_zero, List.setIfInBounds_toArray, List.set_cons_zero, List.set_cons_succ]
      refine wpAnyH_ready (rs := [12]) (by kernel_rfl) (by simp) ?_
      refine AllReadyH.cons rfl (fun KK hK => ?_) AllReadyH.nil
      go_simp
      refine hK.out _ _ HFN.out.1 (fun hHeld => ?_)
      clear hK KK
      try simp only [Act.put, List.getElem_toArray, List.getElem_cons_succ, List.getElem_cons_zero, List.setIfInBounds_toArray, List.set_cons_zero, List.set_cons_succ]
      refine wpAnyH_done (by kernel_rfl) ?_ _
      refine NoPanic.normal ?_
      clear hHeld
      go_wp2_with fail
      go_meet
      exact ⟨ou3, rfl, rfl, HFN.out⟩
     exact AllReadyH.nil
    exact AllReadyH.nil
   refine AllReadyH.cons rfl (fun KK hK => ?_) ?_
   ·skip
    obtain ⟨u5, hu5⟩ : ∃ u, u = u1.alloc (.cells #[.slice none 0 0] 81) := ⟨_, rfl⟩
    obtain ⟨ou5, hou5⟩ : ∃ o, o = u1.heap.size := ⟨_, rfl⟩
    have hbu5 : Below u1.heap.size u1 u5 := by rw [hu5]; exact (Below.refl _ u1).alloc (Nat.le_refl _) _
    have HBu5 : Hid (Below W2.heap.size W2 u5) := HBu1.out.trans (hbu5.mono HBu1.out.size)
    have HOu5 : Hid (u5.heap[ou5]? = some (.cells #[.slice none 0 0] 81)) := by show _ = _; rw [hu5, hou5]; exact heap_alloc_new u1 _
    have HWu5 : Hid (W2.heap.size ≤ ou5) := by rw [hou5]; exact HBu1.out.size
    have HDu5 : Hid (Below u1.heap.size u1 u5) := hbu5
    go_simp
    try rw [← hou5]
    try rw [← hu5]
    refine hK.out _ _ HBu5.out (fun hHeld => ?_)
    clear hK KK hu5 hou5 hbu5
    try simp only [Act.put, List.getElem_toArray, List.getElem_cons_succ, List.getElem_cons_zero, List.setIfInBounds_toArray, List.set_cons_zero, List.set_cons_succ]
    refine wpAnyH_ready (rs := [6]) (by kernel_rfl) (by simp) ?_
    refine AllReadyH.cons rfl (fun KK hK => ?_) ?_
    ·skip
     go_simp
     refine (HRU.out u5 au1 cu1 HBu5.out (HRu1.out u5 HDu5.out)).mono ?_
     rintro e u6 ⟨hbu6, hor⟩
     have HBu6 : Hid (Below W2.heap.size W2 u6) := HBu5.out.trans (hbu6.mono HBu5.out.size)
     rw [List.length_reverse, HL.out] at hor
     obtain ⟨gu6, cu6, rfl, how⟩ : ∃ g cap, e = .returned (.tuple #[.slice (some ⟨g, 0, none⟩) (n + 1) cap, .int .i64 0]) ∧ u6.ownsRow u5.heap.size 58 1 (.slice (some ⟨g, 0, none⟩) (n + 1) cap) (n + 1) (uv (runO nxB ouB (row.reverse.map Int.toNat) (n + 1))) := by
      rcases hor with ⟨hnc, _⟩ | ⟨_, h⟩
      ·exact absurd (cls_rev HCL.out) hnc
      ·exact h
     have HGu6 : Hid (∀ V : World, Below u6.heap.size u6 V → ∀ i, i < n + 1 → V.cell? ⟨gu6, i, none⟩ = some (.int .u64 ((ouR nxB ouB row.reverse i : Nat) : Int))) := fun V hV i hi => run_told how hV i hi
     have HOu6 : Hid (u6.heap[ou5]? = some (.cells #[.slice none 0 0] 81)) := (hbu6.block _ (Array.getElem?_eq_some_iff.1 HOu5.out).1).trans HOu5.out
     clear hbu6 hor how
     go_simp
     refine hK.out _ _ HBu6.out (fun hHeld => ?_)
     clear hK KK
     try simp only [Act.put, List.getElem_toArray, List.getElem_cons_succ, List.getElem_cons_zero, List.setIfInBounds_toArray, List.set_cons_zero, List.set_cons_succ]
     refine wpAnyH_take (i := 7) (v := ?_) rfl (by kernel_rfl) (by kernel_rfl) (by kernel_rfl) (fun _ _ _ h => h) (Or.inl ⟨by rfl, ?_⟩) (by assumption) ?_
     rotate_left
     ·intro wS hSw; have b0 := upC hSw b0'; have c1 := upC hSw c1'; clear hSw; go_simp; try with_reducible rfl
     try simp only [Act.put, List.getElem_toArray, List.getElem_cons_succ, List.getElem_cons_zero, List.setIfInBounds_toArray, List.set_cons_zero, List.set_cons_succ]
     refine wpAnyH_take (i := 8) (v := ?_) rfl (by kernel_rfl) (by kernel_rfl) (by kernel_rfl) (fun _ _ _ h => h) (Or.inl ⟨by rfl, ?_⟩) (by assumption) ?_
     rotate_left
     ·intro wS hSw; have b0 := upC hSw b0'; have c1 := upC hSw c1'; clear hSw; go_simp; try with_reducible rfl
     try simp only [Act.put, List.getElem_toArray, List.getElem_cons_succ, List.getElem_cons_zero, List.setIfInBounds_toArray, List.set_cons_zero, List.set_cons_succ]
     refine wpAnyH_take (i := 9) (v := ?_) rfl (by kernel_rfl) (by kernel_rfl) (by kernel_rfl) (fun _ _ _ h => h) (Or.inl ⟨by rfl, ?_⟩) (by assumption) ?_
     rotate_left
     ·intro wS hSw; have b0 := upC hSw b0'; have c1 := upC hSw c1'; clear hSw; go_simp; try with_reducible rfl
     try simp only [Act.put, List.getElem_toArray, List.getElem_cons_succ, List.getElem_cons_zero, List.setIfInBounds_toArray, List.set_cons_zero, List.set_cons_succ]
     refine wpAnyH_ready (rs := [11]) (by kernel_rfl) (by simp) ?_
     refine AllReadyH.cons rfl (fun KK hK => ?_) ?_
     ·skip
      have HFN : Hid (BhS W2 n nxB ouB row ou5 (u6.setCell ⟨ou5, 0, none⟩ (.slice (some ⟨gu6, 0, none⟩) (n + 1) cu6))) := by
       have hg := grown_cell u6 ou5 0 (Value.slice (some ⟨gu6, 0, none⟩) (n + 1) cu6)
       refine ⟨HBu6.out.grown hg HBu6.out.size (fun k hk => by cases hk; exact HWu5.out), gu6, cu6, cell_of_row _ _ 0 _ _ _ (heap_setCell_same _ ou5 0 _ _ _ HOu6.out), fun i hi => ?_⟩
       have hx := HGu6.out u6 (Below.refl _ u6) i hi
       have hne : (⟨gu6, i, none⟩ : Addr).block ≠ ou5 := fun e => by
        have e2 : gu6 = ou5 := e
        rw [e2] at hx
        have h2 := box1 HOu6.out
        rcases i with _ | i
        ·rw [h2.1] at hx; cases hx
        ·rw [cell_of_row _ _ (i + 1) _ _ _ HOu6.out] at hx; simp at hx
       rw [World.cell?_setCell_far u6 ⟨ou5, 0, none⟩ ⟨gu6, i, none⟩ _ (fun e => hne e.symm)]
       exact hx
      obtain ⟨z0, z1⟩ := box1 HOu6.out
      go_simp
      refine hK.out _ _ HFN.out.1 (fun hHeld => ?_)
      clear hK KK z0 z1
      try simp only [Act.put, List.getElem_toArray, List.getElem_cons_succ, List.getElem_cons_zero, List.setIfInBounds_toArray, List.set_cons_zero, List.set_cons_succ]
      refine wpAnyH_ready (rs := [12]) (by kernel_rfl) (by simp) ?_
      refine AllReadyH.cons rfl (fun KK hK => ?_) AllReadyH.nil
      go_simp
      refine hK.out _ _ HFN.out.1 (fun hHeld => ?_)
      clear hK KK
      try simp only [Act.put, List.getElem_toArray, List.getElem_cons_succ, List.getElem_cons_zero, List.setIfInBounds_toArray, List.set_cons_zero, List.set_cons_succ]
      refine wpAnyH_done (by kernel_rfl) ?_ _
      refine NoPanic.normal ?_
      clear hHeld
      go_wp2_with fail
      go_meet
      exact ⟨ou5, rfl, rfl, HFN.out⟩
     exact AllReadyH.nil
    exact AllReadyH.nil
   exact AllReadyH.nil
  refine AllReadyH.cons rfl (fun KK hK => ?_) ?_
  ·skip
   obtain ⟨u8, hu8⟩ : ∃ u, u = u0.alloc (.cells #[.slice none 0 0] 81) := ⟨_, rfl⟩
   obtain ⟨ou8, hou8⟩ : ∃ o, o = u0.heap.size := ⟨_, rfl⟩
   have hbu8 : Below u0.heap.size u0 u8 := by rw [hu8]; exact (Below.refl _ u0).alloc (Nat.le_refl _) _
   have HBu8 : Hid (Below W2.heap.size W2 u8) := HD0.out.trans (hbu8.mono HD0.out.size)
   have HOu8 : Hid (u8.heap[ou8]? = some (.cells #[.slice none 0 0] 81)) := by show _ = _; rw [hu8, hou8]; exact heap_alloc_new u0 _
   have HWu8 : Hid (W2.heap.size ≤ ou8) := by rw [hou8]; exact HD0.out.size
   go_simp
   try rw [← hou8]
   try rw [← hu8]
   refine hK.out _ _ HBu8.out (fun hHeld => ?_)
   clear hK KK hu8 hou8 hbu8
   try simp only [Act.put, List.getElem_toArray, List.getElem_cons_succ, List.getElem_cons_zero, List.setIfInBounds_toArray, List.set_cons_zero, List.set_cons_succ]
   refine wpAnyH_ready (rs := [5]) (by kernel_rfl) (by simp) ?_
   refine AllReadyH.cons rfl (fun KK hK => ?_) ?_
   ·skip
    go_simp
    refine (HTU.out u8 HBu8.out).mono ?_
    rintro e u9 ⟨au9, cu9, rfl, hou9, hbu9⟩
    have HBu9 : Hid (Below W2.heap.size W2 u9) := HBu8.out.trans (hbu9.mono HBu8.out.size)
    have HRu9 : Hid (∀ V : World, Below u9.heap.size u9 V → Rd .i64 V au9 n row.reverse) := fun V hV => by
     obtain ⟨a2, c2', e2, _, _, hr, _⟩ := rd_own2 hou9
     cases e2
     exact hr.later hV
    have HOu9 : Hid (u9.heap[ou8]? = some (.cells #[.slice none 0 0] 81)) := (hbu9.block _ (Array.getElem?_eq_some_iff.1 HOu8.out).1).trans HOu8.out
    clear hou9 hbu9
    go_simp
    refine hK.out _ _ HBu9.out (fun hHeld => ?_)
    clear hK KK
    try simp only [Act.put, List.getElem_toArray, List.getElem_cons_succ, List.getElem_cons_zero, List.setIfInBounds_toArray, List.set_cons_zero, List.set_cons_succ]
    refine wpAnyH_ready (rs := [6]) (by kernel_rfl) (by simp) ?_
    refine AllReadyH.cons rfl (fun KK hK => ?_) ?_
    ·skip
     go_simp
     refine (HRU.out u9 au9 cu9 HBu9.out (HRu9.out u9 (Below.refl _ _))).mono ?_
     rintro e u10 ⟨hbu10, hor⟩
     have HBu10 : Hid (Below W2.heap.size W2 u10) := HBu9.out.trans (hbu10.mono HBu9.out.size)
     rw [List.length_reverse, HL.out] at hor
     obtain ⟨gu10, cu10, rfl, how⟩ : ∃ g cap, e = .returned (.tuple #[.slice (some ⟨g, 0, none⟩) (n + 1) cap, .int .i64 0]) ∧ u10.ownsRow u9.heap.size 58 1 (.slice (some ⟨g, 0, none⟩) (n + 1) cap) (n + 1) (uv (runO nxB ouB (row.reverse.map Int.toNat) (n + 1))) := by
      rcases hor with ⟨hnc, _⟩ | ⟨_, h⟩
      ·exact absurd (cls_rev HCL.out) hnc
      ·exact h
     have HGu10 : Hid (∀ V : World, Below u10.heap.size u10 V → ∀ i, i < n + 1 → V.cell? ⟨gu10, i, none⟩ = some (.int .u64 ((ouR nxB ouB row.reverse i : Nat) : Int))) := fun V hV i hi => run_told how hV i hi
     have HOu10 : Hid (u10.heap[ou8]? = some (.cells #[.slice none 0 0] 81)) := (hbu10.block _ (Array.getElem?_eq_some_iff.1 HOu9.out).1).trans HOu9.out
     clear hbu10 hor how
     go_simp
     refine hK.out _ _ HBu10.out (fun hHeld => ?_)
     clear hK KK
     try simp only [Act.put, List.getElem_toArray, List.getElem_cons_succ, List.getElem_cons_zero, List.setIfInBounds_toArray, List.set_cons_zero, List.set_cons_succ]
     refine wpAnyH_take (i := 7) (v := ?_) rfl (by kernel_rfl) (by kernel_rfl) (by kernel_rfl) (fun _ _ _ h => h) (Or.inl ⟨by rfl, ?_⟩) (by assumption) ?_
     rotate_left
     ·intro wS hSw; have b0 := upC hSw b0'; have c1 := upC hSw c1'; clear hSw; go_simp; try with_reducible rfl
     try simp only [Act.put, List.getElem_toArray, List.getElem_cons_succ, List.getElem_cons_zero, List.setIfInBounds_toArray, List.set_cons_zero, List.set_cons_succ]
     refine wpAnyH_take (i := 8) (v := ?_) rfl (by kernel_rfl) (by kernel_rfl) (by kernel_rfl) (fun _ _ _ h => h) (Or.inl ⟨by rfl, ?_⟩) (by assumption) ?_
     rotate_left
     ·intro wS hSw; have b0 := upC hSw b0'; have c1 := upC hSw c1'; clear hSw; go_simp; try with_reducible rfl
     try simp only [Act.put, List.getElem_toArray, List.getElem_cons_succ, List.getElem_cons_zero, List.setIfInBounds_toArray, List.set_cons_zero, List.set_cons_succ]
     refine wpAnyH_take (i := 9) (v := ?_) rfl (by kernel_rfl) (by kernel_rfl) (by kernel_rfl) (fun _ _ _ h => h) (Or.inl ⟨by rfl, ?_⟩) (by assumption) ?_
     rotate_left
     ·intro wS hSw; have b0 := upC hSw b0'; have c1 := upC hSw c1'; clear hSw; go_simp; try with_reducible rfl
     try simp only [Act.put, List.getElem_toArray, List.getElem_cons_succ, List.getElem_cons_zero, List.setIfInBounds_toArray, List.set_cons_zero, List.set_cons_succ]
     refine wpAnyH_ready (rs := [11]) (by kernel_rfl) (by simp) ?_
     refine AllReadyH.cons rfl (fun KK hK => ?_) ?_
     ·skip
      have HFN : Hid (BhS W2 n nxB ouB row ou8 (u10.setCell ⟨ou8, 0, none⟩ (.slice (some ⟨gu10, 0, none⟩) (n + 1) cu10))) := by
       have hg := grown_cell u10 ou8 0 (Value.slice (some ⟨gu10, 0, none⟩) (n + 1) cu10)
       refine ⟨HBu10.out.grown hg HBu10.out.size (fun k hk => by cases hk; exact HWu8.out), gu10, cu10, cell_of_row _ _ 0 _ _ _ (heap_setCell_same _ ou8 0 _ _ _ HOu10.out), fun i hi => ?_⟩
       have hx := HGu10.out u10 (Below.refl _ u10) i hi
       have hne : (⟨gu10, i, none⟩ : Addr).block ≠ ou8 := fun e => by
        have e2 : gu10 = ou8 := e
        rw [e2] at hx
        have h2 := box1 HOu10.out
        rcases i with _ | i
        ·rw [h2.1] at hx; cases hx
        ·rw [cell_of_row _ _ (i + 1) _ _ _ HOu10.out] at hx; simp at hx
       rw [World.cell?_setCell_far u10 ⟨ou8, 0, none⟩ ⟨gu10, i, none⟩ _ (fun e => hne e.symm)]
       exact hx
      obtain ⟨z0, z1⟩ := box1 HOu10.out
      go_simp
      refine hK.out _ _ HFN.out.1 (fun hHeld => ?_)
      clear hK KK z0 z1
      try simp only [Act.put, List.getElem_toArray, List.getElem_cons_succ, List.getElem_cons_zero, List.setIfInBounds_toArray, List.set_cons_zero, List.set_cons_succ]
      refine wpAnyH_ready (rs := [12]) (by kernel_rfl) (by simp) ?_
      refine AllReadyH.cons rfl (fun KK hK => ?_) AllReadyH.nil
      go_simp
      refine hK.out _ _ HFN.out.1 (fun hHeld => ?_)
      clear hK KK
      try simp only [Act.put, List.getElem_toArray, List.getElem_cons_succ, List.getElem_cons_zero, List.setIfInBounds_toArray, List.set_cons_zero, List.set_cons_succ]
      refine wpAnyH_done (by kernel_rfl) ?_ _
      refine NoPanic.normal ?_
      clear hHeld
      go_wp2_with fail
      go_meet
      exact ⟨ou8, rfl, rfl, HFN.out⟩
     exact AllReadyH.nil
    exact AllReadyH.nil
   exact AllReadyH.nil
  exact AllReadyH.nil
 case rest =>
  obtain ⟨Bb, hx7, hx8, hbs⟩ := hcut
  subst hx7 hx8
  obtain ⟨w3, hw3⟩ : ∃ W, W = wc := ⟨_, rfl⟩
  rw [← hw3] at hbs ⊢
  have HBS : Hid (BhS W2 n nxB ouB row Bb w3) := hbs
  clear hw3 hbs b0' c1'
  obtain ⟨Bn, hBn⟩ : ∃ B, B = w3.heap.size := ⟨_, rfl⟩
  obtain ⟨W4, hW4⟩ : ∃ W4, W4 = w3.alloc (.cells #[.int .i64 (n : Int)] 3) := ⟨_, rfl⟩
  have HC4 : Hid (Below w3.heap.size w3 W4) := by rw [hW4]; exact (Below.refl _ w3).alloc (Nat.le_refl _) _
  have HN4 : Hid (W4.heap[Bn]? = some (.cells #[.int .i64 (n : Int)] 3)) := by show _ = _; rw [hW4, hBn]; exact heap_alloc_new w3 _
  have HFIN : Hid (BndP K l tb n row w (.returned (.tuple #[.func (.func 42) #[] #[.pointer (some ⟨Bn, 0, none⟩), .pointer (some ⟨Bt, 0, none⟩), .pointer (some ⟨Ba, 0, none⟩), .pointer (some ⟨Bb, 0, none⟩)], .int .i64 0])) W4) := by
   obtain ⟨q1, gb, cb, q2, q3⟩ := HBS.out
   have r1 : Below W2.heap.size W2 W4 := q1.trans (HC4.out.mono q1.size)
   have r2 : Below w.heap.size w W4 := HB2.out.trans (r1.mono HB2.out.size)
   have r3 : Below w1.heap.size w1 W4 := HC2.out.trans (r1.mono HC2.out.size)
   refine ⟨r2, .inr ⟨HCL.out, nxA, ouA, nxB, ouB, Bn, Bt, Ba, Bb, ga, gb, ca, cb, rfl, ⟨⟨⟨(box1 HN4.out).1, upC r1 (box1 HX2.out).1⟩, upC r1 (box1 HA2.out).1, upC HC4.out q2⟩, fun i hi => ⟨HOA.out W4 r3 i hi, upC HC4.out (q3 i hi)⟩, .pointer (some ⟨la, 0, none⟩), .pointer (some ⟨lb, 0, none⟩), ?_⟩, HLE.out.1, HLE.out.2⟩⟩
   have := HTV.out W4 r2
   rw [HBN.out.1, HBN.out.2] at this
   exact this
  go_upto_region 10 with fail
  rw [← hBn, ← hW4]
  clear hBn hW4
  go_wp2_with fail
  go_ret2
  exact HFIN.out
end Go.Proofs.YtcafffohnokjgaaDoor

/- Rows of truths in memory; no function of the program is named here. -/
namespace Go.Proofs.YtcafffohnokjgaaDoor
open Go.RowKit
set_option linter.unusedVariables false
set_option linter.unusedSimpArgs false

def RdT (w : World) (a : Option Addr) (len : Nat) (bs : List Bool) : Prop :=
 bs.length = len ∧ (0 < len → ∃ b off, a = some ⟨b, off, none⟩ ∧ ∀ i, i < len → w.cell? ⟨b, off + i, none⟩ = some (.bool (bs.getD i false)))
theorem RdT.later {w w' : World} {a : Option Addr} {len : Nat} {bs : List Bool} (h : RdT w a len bs) (hb : Below w.heap.size w w') : RdT w' a len bs := by
 refine ⟨h.1, fun hp => ?_⟩
 obtain ⟨b, off, ha, hc⟩ := h.2 hp
 refine ⟨b, off, ha, fun i hi => ?_⟩
 exact (hb.cell (p := ⟨b, off + i, none⟩) (World.block_lt_of_cell? w _ (hc i hi))).trans (hc i hi)
theorem rdT_own {w : World} {B : Nat} {e : TypeId} {v : Value} {n : Nat} {bs : List Bool} (h : w.ownsRow B e 1 v n (bs.map Value.bool)) : ∃ a cap, v = .slice a n cap ∧ n ≤ cap ∧ (a = none → cap = 0) ∧ RdT w a n bs := by
 have hl : bs.length = n := by simpa using h.1
 rcases h.2 with ⟨rfl, rfl⟩ | ⟨g, cap, cur, rfl, hb, hg, hn, hm, hs, ht⟩
 ·exact ⟨none, 0, rfl, by omega, fun _ => rfl, hl, fun hp => absurd hp (by omega)⟩
 ·refine ⟨_, cap, rfl, hn, (fun h => by cases h), hl, fun hp => ⟨g, 0, rfl, fun i hi => ?_⟩⟩
  rw [cell_of_row w g (0 + i) cur e (0, 0) hg]
  have h1 : (cur.toList.take (n * 1))[i]? = (bs.map Value.bool)[i]? := by rw [ht]
  rw [List.getElem?_take, if_pos (by omega)] at h1
  simp at h1 ⊢
  rw [h1]
  simp [show i < bs.length by omega]
theorem get_bool (L : List Bool) (k m : Nat) (h : (L.map Value.bool).length = m) (hk : k < m) : ∃ z, (L.map Value.bool)[k]? = some (.bool z) := by
 have hl : k < L.length := by simp at h; omega
 exact ⟨L[k], by rw [List.getElem?_map, List.getElem?_eq_getElem hl]; rfl⟩
end Go.Proofs.YtcafffohnokjgaaDoor

/- The walks of has, many and or of the reference: rows of truths. -/
namespace Go.Proofs.YtcafffohnokjgaaDoor
open Go.RowKit
set_option linter.unusedVariables false
set_option linter.unusedSimpArgs false

theorem made_rowT (v : Value) (n : Nat) : (madeCells #[v] n).toList = List.replicate n v := by
 apply List.ext_getElem
 ·simp [size_madeCells]
 ·intro i h1 h2
  simp [madeCells, Nat.mod_one]
theorem make_b (n : Nat) (hn : n ≤ 1000000) : ∃ CB : Array Value, CB.toList = (List.replicate n false).map Value.bool ∧ CB.size = n ∧ ∀ W : World, (Instr.makeSlice 33 (.int .i64 (n : Int)) (.int .i64 (n : Int))).run Tryd.prog W = .ok (.slice (some ⟨W.heap.size, 0, none⟩) n n) (W.alloc (.cells CB 4)) := by
 obtain ⟨i0, hi, hz0, hz1, hz2⟩ := info_parts info_b
 refine ⟨madeCells (Value.bool false).cells (n * 1), ?_, by rw [size_madeCells]; omega, fun W => ?_⟩
 ·rw [Nat.mul_one, List.map_replicate]; exact made_rowT _ _
 ·have := run_make (P := Tryd.prog) W 33 4 i0 _ Tryd.underlying33 hi hz0 .i64 .i64 (n : Int) (n : Int) (by omega) (by omega) (by rw [hz2]; omega) (by omega)
  rw [show ((n : Int)).toNat = n by omega, hz1] at this
  exact this
end Go.Proofs.YtcafffohnokjgaaDoor

/- The walks of seg's Boundaries, Next and Prev. -/
namespace Go.Proofs.YtcafffohnokjgaaDoor
open Go.RowKit Go.Shelf
set_option linter.unusedVariables false
set_option linter.unusedSimpArgs false
attribute [local go_sem] Oper.semAt_some

abbrev PlN (n : Nat) := { x : Nat // x ≤ n }
theorem bnd_stops (m n tb Bn Bt Ba Bb ga gb ca cb br N : Nat) (OA OB : Nat → Nat) (w0 : World) (hS : SegAt n tb Bn Bt Ba Bb ga gb ca cb br N OA OB w0) (hN : N ≤ 40) (hn : n ≤ 100000) (hbr : br < 2 ^ 64) (hO : ∀ i, OA i < 2 ^ 64 ∧ OB i < 2 ^ 64) :
 SeqStopsK Fence.wide m Tryd.prog 42 #[.pointer (some ⟨Bn, 0, none⟩), .pointer (some ⟨Bt, 0, none⟩), .pointer (some ⟨Ba, 0, none⟩), .pointer (some ⟨Bb, 0, none⟩)] (fun x : PlN n => #[.int .i64 ((x.1 : Nat) : Int)]) (Below w0.heap.size) (fun xs => xs.map (·.1) = allB br N n OA OB) (fun pre => pre.map (·.1) <+: allB br N n OA OB) (n + 2) w0 := by
 intro l J Jx W hW hJ hJx hY h0
 have h := bnd_in m l n tb Bn Bt Ba Bb ga gb ca cb br N OA OB w0 (fun pre W => ∃ ys : List (PlN n), ys.map (·.1) = pre ∧ J ys W) (fun pre W => ∃ ys : List (PlN n), ys.map (·.1) = pre ∧ Jx ys W)
  (fun pre A B ⟨ys, e, hj⟩ hg => ⟨ys, e, hJ _ _ _ _ hj hg (fun r e => by cases e)⟩) hS hN hn hbr hO (fun pre x W1 hx ⟨ys, e, hj⟩ hl => ?_) W hW ⟨[], rfl, h0⟩
 ·refine CallsIn.mono h ?_
  rintro e W' ⟨hv, ⟨xs, rfl, ys, e1, hj⟩ | ⟨pre, hp, ys, e1, hj⟩⟩
  ·exact ⟨hv, .inl ⟨ys, e1, hj⟩⟩
  ·exact ⟨hv, .inr ⟨ys, (show ys.map (·.1) <+: _ by rw [e1]; exact hp), hj⟩⟩
 ·have hlen : ys.length < n + 2 := by rw [← e, List.length_map] at hl; exact hl
  obtain ⟨fn, tmps, assign, body, h1, h2⟩ := hY ys ⟨x, hx⟩ W1 hj hlen
  refine ⟨fn, tmps, assign, body, h1, h2.mono ?_⟩
  rintro e' W' (⟨rfl, hj2, hk⟩ | ⟨rfl, hj2⟩)
  ·exact .inl ⟨rfl, ⟨ys ++ [⟨x, hx⟩], by simp [e], hj2⟩, hk⟩
  ·exact .inr ⟨rfl, ys ++ [⟨x, hx⟩], by simp [e], hj2⟩
def bArr (n : Nat) (l : List Nat) : Array Value := ((List.range (n + 1)).map fun q => Value.bool (decide (q ∈ l))).toArray
theorem bArr_get (n : Nat) (l : List Nat) {i : Nat} (hi : i < n + 1) : (bArr n l)[i]? = some (.bool (decide (i ∈ l))) := by simp [bArr, hi]
theorem bArr_set (n : Nat) (l : List Nat) (x : Nat) : (bArr n l).setIfInBounds x (.bool true) = bArr n (l ++ [x]) := by
 apply Array.ext'
 rw [Array.toList_setIfInBounds]
 refine List.ext_getElem (by simp [bArr]) fun i h1 h2 => ?_
 have hi : i < n + 1 := by simpa [bArr] using h2
 by_cases hx : x = i
 ·subst hx
  rw [List.getElem_set_self]
  simp [bArr]
 ·rw [List.getElem_set_ne hx]
  simp [bArr]
  intro h
  exact absurd h.symm hx
theorem bArr_nil (n : Nat) : (bArr n []).toList = (List.replicate (n + 1) false).map Value.bool := by
 refine List.ext_getElem (by simp [bArr]) fun i h1 h2 => ?_
 simp [bArr]
def BdsP (K : Nat) (l : List Rl) (n : Nat) (row : List Int) (w : World) (e : Ending) (w' : World) : Prop := Below w.heap.size w w' ∧
 ((¬ Cls K row ∧ e = .returned (.tuple #[.slice none 0 0, .int .i64 1])) ∨ (Cls K row ∧ ∃ (nxA : List (List Nat)) (ouA : List Nat) (nxB : List (List Nat)) (ouB : List Nat) (g : Nat),
  e = .returned (.tuple #[.slice (some ⟨g, 0, none⟩) (n + 1) (n + 1), .int .i64 0]) ∧ w'.heap[g]? = some (.cells (bArr n (allB (brkN l) l.length n (ouR nxA ouA row) (ouR nxB ouB row.reverse))) 4) ∧ LeastOf K (xsL l) nxA ouA ∧ LeastOf K (xsR l) nxB ouB))
theorem ouR_lt {K : Nat} {xs : List (Nd × Bool)} {nx : List (List Nat)} {ou : List Nat} (h : LeastOf K xs nx ou) (hl : xs.length ≤ 64) {row : List Int} (hc : Cls K row) (i : Nat) : ouR nx ou row i < 2 ^ 64 := least_lt h hl ((cls_nat hc).2.take i)
theorem blk_kept {W W' : World} {row : Option Nat} {b : Nat} {cs : Array Value} {t : TypeId} {fr : Nat × Nat} (h : W.heap[b]? = some (.cells cs t fr)) (hg : W.grownBy W' row) (hr : ∀ r, row = some r → ∃ o : Obj, W.heap[r]? = some o ∧ o.isCells = false) : W'.heap[b]? = some (.cells cs t fr) := by
 refine (hg.block b (Array.getElem?_eq_some_iff.1 h).1 (fun e => ?_)).trans h
 obtain ⟨o, ho, hc⟩ := hr b e.symm
 rw [h] at ho
 cases ho
 cases hc
set_option maxRecDepth 100000 in
set_option maxHeartbeats 8000000 in
theorem segBounds_any (K tb n xc : Nat) (l : List Rl) (row : List Int) (xa : Option Addr) (w : World) (hta : TabAt w K l tb) (hl40 : l.length ≤ 40) (hrd : Rd .i64 w xa n row) (hnone : xa = none → xc = 0) (hn : n ≤ 1000) :
 Calls Tryd.prog 18 #[.pointer (some ⟨tb, 0, none⟩), .slice xa n xc] w (BdsP K l n row w) := by
 have HBO : Hid (Calls Tryd.prog 28 #[.pointer (some ⟨tb, 0, none⟩), .slice xa n xc] w (BndP K l tb n row w)) := boundaries_any K tb n xc l row xa w hta hrd hnone hn
 have hni : (n : Int) ≤ 1000 := by omega
 have HN : Hid (n ≤ 1000 ∧ l.length ≤ 40) := ⟨hn, hl40⟩
 obtain ⟨CB, hCB, hCs, hmk0⟩ := make_b (n + 1) (by omega)
 obtain rfl : CB = bArr n [] := by apply Array.ext'; rw [hCB, bArr_nil]
 have hmk : ∀ W : World, (Instr.makeSlice 33 (.int .i64 ((n : Int) + 1)) (.int .i64 ((n : Int) + 1))).run Tryd.prog W = .ok (.slice (some ⟨W.heap.size, 0, none⟩) (n + 1) (n + 1)) (W.alloc (.cells (bArr n []) 4)) := fun W => by
  have h := hmk0 W
  rw [show ((n + 1 : Nat) : Int) = (n : Int) + 1 by omega] at h
  exact h
 obtain ⟨CA, hCA⟩ : ∃ CA, CA = bArr n [] := ⟨_, rfl⟩
 rw [← hCA] at hmk
 have HCA : Hid (CA = bArr n []) := hCA
 clear hta hl40 hrd hnone hn hCB hCs hmk0 hCA
 refine callsIn_wide.1 (callsIn_of_wp_marks (n := 3) Tryd.func18 rfl trivial (wpIn_wide.2 ?_) rfl)
 simp only [Tryd.ntmps18, List.size_toArray, List.length_cons, List.length_nil, Nat.reduceAdd, Nat.reduceSub, Array.replicate_succ, Array.replicate_zero, List.push_toArray, List.append_toArray, List.nil_append, List.cons_append]
 go_wp2_with fail
 refine HBO.out.mono ?_
 rintro e w1 ⟨hb1, hor⟩
 have HB1 : Hid (Below w.heap.size w w1) := hb1
 clear hb1 HBO
 rcases hor with ⟨hnc, rfl⟩ | ⟨hcl, nxA, ouA, nxB, ouB, Bn, Bt, Ba, Bb, ga, gb, ca, cb, rfl, hsg, hla, hlb⟩
 ·have HNC : Hid (¬ Cls K row) := hnc
  clear hnc hmk
  go_wp2_with fail
  refine ⟨.tuple #[.slice none 0 0, .int .i64 1], by simp [results, Tryd.f18, go_sem], HB1.out, .inl ⟨HNC.out, rfl⟩⟩
 obtain ⟨OA, hOA⟩ : ∃ F : Nat → Nat, F = ouR nxA ouA row := ⟨_, rfl⟩
 obtain ⟨OB, hOB⟩ : ∃ F : Nat → Nat, F = ouR nxB ouB row.reverse := ⟨_, rfl⟩
 rw [← hOA, ← hOB] at hsg
 have hlx : (xsL l).length ≤ 64 ∧ (xsR l).length ≤ 64 := by have := HN.out.2; simp only [xsL, xsR, List.length_map]; omega
 have HST : Hid (SeqStopsK Fence.wide (3 - 1) Tryd.prog 42 #[.pointer (some ⟨Bn, 0, none⟩), .pointer (some ⟨Bt, 0, none⟩), .pointer (some ⟨Ba, 0, none⟩), .pointer (some ⟨Bb, 0, none⟩)] (fun x : PlN n => #[.int .i64 ((x.1 : Nat) : Int)]) (Below w1.heap.size) (fun xs => xs.map (·.1) = allB (brkN l) l.length n OA OB) (fun pre => pre.map (·.1) <+: allB (brkN l) l.length n OA OB) (n + 2) w1) :=
  bnd_stops (3 - 1) n tb Bn Bt Ba Bb ga gb ca cb (brkN l) l.length OA OB w1 hsg HN.out.2 (by have := HN.out.1; omega) (Nat.lt_of_lt_of_le (brkN_lt l HN.out.2) (by decide)) (fun i => by rw [hOA, hOB]; exact ⟨ouR_lt hla hlx.1 hcl i, ouR_lt hlb hlx.2 (cls_rev hcl) i⟩)
 have HFI : Hid (Cls K row ∧ LeastOf K (xsL l) nxA ouA ∧ LeastOf K (xsR l) nxB ouB ∧ OA = ouR nxA ouA row ∧ OB = ouR nxB ouB row.reverse) := ⟨hcl, hla, hlb, hOA, hOB⟩
 clear hcl hsg hla hlb hOA hOB hlx
 obtain ⟨g, hg⟩ : ∃ g, g = w1.heap.size := ⟨_, rfl⟩
 obtain ⟨X, hX⟩ : ∃ X, X = g + 1 := ⟨_, rfl⟩
 obtain ⟨W2, hW2⟩ : ∃ W2, W2 = (w1.alloc (.cells CA 4)).alloc (.cells #[.slice (some ⟨g, 0, none⟩) (n + 1) (n + 1)] 33) := ⟨_, rfl⟩
 have HC2 : Hid (Below w1.heap.size w1 W2 ∧ W2.heap.size = w1.heap.size + 2) := by rw [hW2]; exact ⟨((Below.refl _ w1).alloc (Nat.le_refl _) _).alloc (by simp) _, by simp⟩
 have HG2 : Hid (W2.heap[g]? = some (.cells (bArr n []) 4) ∧ W2.heap[X]? = some (.cells #[.slice (some ⟨g, 0, none⟩) (n + 1) (n + 1)] 33)) := by
  rw [hW2, hX, hg, HCA.out]
  exact ⟨(((Below.refl _ _).alloc (Nat.le_refl _) _).block w1.heap.size (by simp)).trans (heap_alloc_new w1 _), new_at2 w1 _ _⟩
 have HGX : Hid (g = w1.heap.size ∧ X = g + 1) := ⟨hg, hX⟩
 go_upto_region 5 with fail
 simp only [World.size_alloc, ← hg, ← hX]
 rw [← hW2]
 clear hg hX hW2 hmk
 go_wp2_with fail
 refine (wpIn_wide (n := 3)).1 ?_
 refine wpIn_rangeFunc_ownF rfl (by decide) (gf := 42) (lb := #[.pointer (some ⟨Bn, 0, none⟩), .pointer (some ⟨Bt, 0, none⟩), .pointer (some ⟨Ba, 0, none⟩), .pointer (some ⟨Bb, 0, none⟩)]) rfl trivial (enters_of Tryd.func42 (by kernel_rfl) rfl)
  HST.out belowK_t (belowK_b (by have := HC2.out.2; omega)) HC2.out.1 (fun _ => rfl)
  (fun (pre : List (PlN n)) W => (W.heap[g]? = some (.cells (bArr n (pre.map (·.1))) 4) ∧ W.heap[X]? = some (.cells #[.slice (some ⟨g, 0, none⟩) (n + 1) (n + 1)] 33)) ∧ Below w1.heap.size w1 W)
  (fun _ _ _ => False)
  (OwnFrom.and (Own.from (fun s A B row hs hg hr => ⟨blk_kept hs.1 hg hr, blk_kept hs.2 hg hr⟩) _) (ownFrom_below (Nat.le_refl _) (by have := HC2.out.2; omega)))
  (fun _ _ _ _ _ hs _ _ => hs)
  ⟨⟨HG2.out.1, HG2.out.2⟩, HC2.out.1⟩
  (fun x => { tmps := #[.pointer (some ⟨tb, 0, none⟩), .slice xa n xc, undef, undef, .slice none 0 0, .int .i64 0, .func (.func 42) #[] #[.pointer (some ⟨Bn, 0, none⟩), .pointer (some ⟨Bt, 0, none⟩), .pointer (some ⟨Ba, 0, none⟩), .pointer (some ⟨Bb, 0, none⟩)], .int .i64 0, .pointer (some ⟨X, 0, none⟩), .int .i64 ((x.1 : Nat) : Int), .tuple #[.func (.func 42) #[] #[.pointer (some ⟨Bn, 0, none⟩), .pointer (some ⟨Bt, 0, none⟩), .pointer (some ⟨Ba, 0, none⟩), .pointer (some ⟨Bb, 0, none⟩)], .int .i64 0], .pointer (some ⟨tb, 0, none⟩), .slice xa n xc, .tuple #[.func (.func 42) #[] #[.pointer (some ⟨Bn, 0, none⟩), .pointer (some ⟨Bt, 0, none⟩), .pointer (some ⟨Ba, 0, none⟩), .pointer (some ⟨Bb, 0, none⟩)], .int .i64 0], .func (.func 42) #[] #[.pointer (some ⟨Bn, 0, none⟩), .pointer (some ⟨Bt, 0, none⟩), .pointer (some ⟨Ba, 0, none⟩), .pointer (some ⟨Bb, 0, none⟩)], .int .i64 0, .int .i64 0, .bool false, undef, .slice xa n xc, .int .i64 (n : Int), .int .i64 ((n : Int) + 1), .slice (some ⟨g, 0, none⟩) (n + 1) (n + 1), .func (.func 42) #[] #[.pointer (some ⟨Bn, 0, none⟩), .pointer (some ⟨Bt, 0, none⟩), .pointer (some ⟨Ba, 0, none⟩), .pointer (some ⟨Bb, 0, none⟩)], .int .i64 ((x.1 : Nat) : Int), undef, undef, undef, undef], defers := [] }) ?assign ?body ?done ?stop
 case assign =>
  intro ll x W K hK
  gi_wp2
  exact hK
 case body =>
  rintro ll pre ⟨x, hx⟩ W ⟨⟨h1, h2⟩, hB⟩ _
  have hxi : (x : Int) < (n : Int) + 1 := by omega
  have hx0 : (0 : Int) ≤ (x : Int) := by omega
  obtain ⟨c0, _⟩ := box1 h2
  have c1 : W.cell? ⟨g, x, none⟩ = some (.bool (decide (x ∈ pre.map (·.1)))) := by rw [cell_of_row W g x _ _ _ h1]; exact bArr_get n _ (by omega)
  have c2 : W.frozen? ⟨g, x, none⟩ = false := Lib.frozen_of_heap h1 x
  have HPO : Hid (KeepsOthers W (W.setCell ⟨g, x, none⟩ (.bool true)) ∧ Below w1.heap.size W (W.setCell ⟨g, x, none⟩ (.bool true)) ∧ ((W.setCell ⟨g, x, none⟩ (.bool true)).heap[g]? = some (.cells (bArr n ((pre ++ [(⟨x, hx⟩ : PlN n)]).map (·.1))) 4) ∧ (W.setCell ⟨g, x, none⟩ (.bool true)).heap[X]? = some (.cells #[.slice (some ⟨g, 0, none⟩) (n + 1) (n + 1)] 33)) ∧ Below w1.heap.size w1 (W.setCell ⟨g, x, none⟩ (.bool true))) := by
   have hgx := HGX.out
   refine ⟨KeepsOthers.setCell _ _ _, (Below.refl _ W).setCell (p := ⟨g, x, none⟩) (by show w1.heap.size ≤ g; omega) _, ⟨?_, ?_⟩, hB.setCell (p := ⟨g, x, none⟩) (by show w1.heap.size ≤ g; omega) _⟩
   ·rw [heap_setCell_same W g x _ _ _ h1, bArr_set, List.map_append]; rfl
   ·exact (heap_setCell_other W ⟨g, x, none⟩ X _ (by show X ≠ g; omega)).trans h2
  clear h1 h2 hB
  gi_wp2
  exact HPO.out
 case done =>
  rintro D ys W hD hS ⟨⟨h1, h2⟩, hB⟩ hK
  obtain ⟨c0, _⟩ := box1 h2
  have hDs : w1.heap.size + 2 ≤ D := by have := HC2.out.2; omega
  have HPO : Hid (W.heap[D]? = some (.deferred (some [])) ∧ BdsP K l n row w (.returned (.tuple #[.slice (some ⟨g, 0, none⟩) (n + 1) (n + 1), .int .i64 0])) (W.putObj D (.deferred none))) := by
   refine ⟨hK, ?_, .inr ⟨HFI.out.1, nxA, ouA, nxB, ouB, g, rfl, ?_, HFI.out.2.1, HFI.out.2.2.1⟩⟩
   ·have hb := HB1.out.trans (hB.mono HB1.out.size)
    exact hb.grown (grownBy_putObj' W D _) hb.size (fun k e => by cases e; have := HB1.out.size; omega)
   ·have hgx := HGX.out
    rw [← HFI.out.2.2.2.1, ← HFI.out.2.2.2.2, ← hS]
    exact (World.putObj_heap_other (by omega)).trans h1
  clear h1 h2 hB hS hD hK
  go_wp2
  refine ⟨by simp, .inl ⟨_, _, rfl, run_takeDeferred HPO.out.1, ?_⟩⟩
  refine ⟨.tuple #[.slice (some ⟨g, 0, none⟩) (n + 1) (n + 1), .int .i64 0], by simp [results, Tryd.f18, go_sem], HPO.out.2⟩
 case stop =>
  rintro D c pre W _ _ h _
  exact h.elim
end Go.Proofs.YtcafffohnokjgaaDoor

/- The walks of seg's around and Next. -/
namespace Go.Proofs.YtcafffohnokjgaaDoor
open Go.RowKit Go.Shelf
set_option linter.unusedVariables false
set_option linter.unusedSimpArgs false
attribute [local go_sem] Oper.semAt_some

def ArnP (K : Nat) (l : List Rl) (tb n : Nat) (row : List Int) (at0 : Int) (w : World) (e : Ending) (w' : World) : Prop := Below w.heap.size w w' ∧
 ((¬ Cls K row ∧ e = .returned (.tuple #[.nilFunc, .int .i64 1])) ∨ (Cls K row ∧ (at0 < 0 ∨ (n : Int) < at0) ∧ e = .returned (.tuple #[.nilFunc, .int .i64 3])) ∨ (Cls K row ∧ 0 ≤ at0 ∧ at0 ≤ (n : Int) ∧ ∃ (nxA : List (List Nat)) (ouA : List Nat) (nxB : List (List Nat)) (ouB : List Nat) (Bn Bt Ba Bb ga gb ca cb : Nat),
  e = .returned (.tuple #[.func (.func 42) #[] #[.pointer (some ⟨Bn, 0, none⟩), .pointer (some ⟨Bt, 0, none⟩), .pointer (some ⟨Ba, 0, none⟩), .pointer (some ⟨Bb, 0, none⟩)], .int .i64 0]) ∧
  SegAt n tb Bn Bt Ba Bb ga gb ca cb (brkN l) l.length (ouR nxA ouA row) (ouR nxB ouB row.reverse) w' ∧ LeastOf K (xsL l) nxA ouA ∧ LeastOf K (xsR l) nxB ouB))
set_option maxRecDepth 100000 in
set_option maxHeartbeats 8000000 in
theorem around_any (K tb n xc : Nat) (l : List Rl) (row : List Int) (xa : Option Addr) (at0 : Int) (w : World) (hta : TabAt w K l tb) (hrd : Rd .i64 w xa n row) (hnone : xa = none → xc = 0) (hn : n ≤ 1000) :
 Calls Tryd.prog 27 #[.pointer (some ⟨tb, 0, none⟩), .slice xa n xc, .int .i64 at0] w (ArnP K l tb n row at0 w) := by
 have HBO : Hid (Calls Tryd.prog 28 #[.pointer (some ⟨tb, 0, none⟩), .slice xa n xc] w (BndP K l tb n row w)) := boundaries_any K tb n xc l row xa w hta hrd hnone hn
 have hni : (n : Int) ≤ 1000 := by omega
 clear hta hrd hnone hn
 go_enter Tryd.func27, Tryd.ntmps27
 go_wp2_with fail
 refine HBO.out.mono ?_
 rintro e w1 ⟨hb1, hor⟩
 have HB1 : Hid (Below w.heap.size w w1) := hb1
 clear hb1 HBO
 rcases hor with ⟨hnc, rfl⟩ | ⟨hcl, nxA, ouA, nxB, ouB, Bn, Bt, Ba, Bb, ga, gb, ca, cb, rfl, hsg, hla, hlb⟩
 ·have HNC : Hid (¬ Cls K row) := hnc
  clear hnc
  go_wp2_with fail
  go_ret2
  exact ⟨HB1.out, .inl ⟨HNC.out, rfl⟩⟩
 have HCL : Hid (Cls K row ∧ SegAt n tb Bn Bt Ba Bb ga gb ca cb (brkN l) l.length (ouR nxA ouA row) (ouR nxB ouB row.reverse) w1 ∧ LeastOf K (xsL l) nxA ouA ∧ LeastOf K (xsR l) nxB ouB) := ⟨hcl, hsg, hla, hlb⟩
 clear hcl hsg hla hlb
 by_cases h0 : at0 < 0
 ·have g0 : decide (at0 < 0) = true := decide_eq_true h0
  go_wp2_with fail
  go_ret2
  exact ⟨HB1.out, .inr (.inl ⟨HCL.out.1, .inl h0, rfl⟩)⟩
 have g0 : decide (at0 < 0) = false := decide_eq_false h0
 by_cases h1 : (n : Int) < at0
 ·have g1 : decide ((n : Int) < at0) = true := decide_eq_true h1
  go_wp2_with fail
  go_ret2
  exact ⟨HB1.out, .inr (.inl ⟨HCL.out.1, .inr h1, rfl⟩)⟩
 have g1 : decide ((n : Int) < at0) = false := decide_eq_false h1
 go_wp2_with fail
 go_ret2
 exact ⟨HB1.out, .inr (.inr ⟨HCL.out.1, by omega, by omega, nxA, ouA, nxB, ouB, Bn, Bt, Ba, Bb, ga, gb, ca, cb, rfl, HCL.out.2.1, HCL.out.2.2.1, HCL.out.2.2.2⟩)⟩
def nextL (l : List Nat) (n at0 : Nat) : Nat := (l.find? (fun x => decide (at0 < x))).getD n
def StpP (f : List Nat → Nat → Nat → Nat) (K : Nat) (l : List Rl) (n : Nat) (row : List Int) (at0 : Int) (w : World) (e : Ending) (w' : World) : Prop := Below w.heap.size w w' ∧
 ((¬ Cls K row ∧ e = .returned (.tuple #[.int .i64 0, .int .i64 1])) ∨ (Cls K row ∧ (at0 < 0 ∨ (n : Int) < at0) ∧ e = .returned (.tuple #[.int .i64 0, .int .i64 3])) ∨ (Cls K row ∧ 0 ≤ at0 ∧ at0 ≤ (n : Int) ∧ ∃ (nxA : List (List Nat)) (ouA : List Nat) (nxB : List (List Nat)) (ouB : List Nat),
  e = .returned (.tuple #[.int .i64 ((f (allB (brkN l) l.length n (ouR nxA ouA row) (ouR nxB ouB row.reverse)) n at0.toNat : Nat) : Int), .int .i64 0]) ∧ LeastOf K (xsL l) nxA ouA ∧ LeastOf K (xsR l) nxB ouB))
def NxI (n A H : Nat) (w1 : World) (pre : List (PlN n)) (W : World) : Prop := ((∀ y : PlN n, y ∈ pre → ¬ A < y.1) ∧ W.heap[H]? = some (.cells #[.int .i64 (A : Int)] 3) ∧ W.heap[H + 1]? = some (.cells #[.int .i64 0] 3) ∧ W.heap[H + 2]? = some (.cells #[.int .i64 0] 30)) ∧ Below w1.heap.size w1 W
def NxX (n A H : Nat) (w : World) (c : Code) (pre : List (PlN n)) (W : World) : Prop := (c = .ret ∧ ∃ q : List (PlN n), ∃ x : PlN n, pre = q ++ [x] ∧ (∀ y : PlN n, y ∈ q → ¬ A < y.1) ∧ A < x.1 ∧ W.heap[H + 1]? = some (.cells #[.int .i64 ((x.1 : Nat) : Int)] 3) ∧ W.heap[H + 2]? = some (.cells #[.int .i64 0] 30)) ∧ Below w.heap.size w W
theorem nxI_own (n A H : Nat) (w1 : World) : OwnFrom w1.heap.size (NxI n A H w1) :=
 OwnFrom.and (Own.from (fun s A B row hs hg hr => ⟨hs.1, blk_kept hs.2.1 hg hr, blk_kept hs.2.2.1 hg hr, blk_kept hs.2.2.2 hg hr⟩) _) (ownFrom_below (Nat.le_refl _) (Nat.le_refl _))
theorem nxX_own (n A H B : Nat) (w : World) (c : Code) (hB : w.heap.size ≤ B) : OwnFrom B (NxX n A H w c) :=
 OwnFrom.and (Own.from (fun s A B row hs hg hr => by
  obtain ⟨h1, q, x, h2, h3, h4, h5, h6⟩ := hs
  exact ⟨h1, q, x, h2, h3, h4, blk_kept h5 hg hr, blk_kept h6 hg hr⟩) _) (ownFrom_below (Nat.le_refl _) hB)
theorem find_app {q r : List Nat} {x a n : Nat} {L : List Nat} (hp : q ++ [x] <+: L) (hq : ∀ y, y ∈ q → ¬ a < y) (hx : a < x) : nextL L n a = x := by
 obtain ⟨t, rfl⟩ := hp
 unfold nextL
 rw [List.append_assoc, List.find?_append]
 have : q.find? (fun x => decide (a < x)) = none := by
  rw [List.find?_eq_none]
  intro y hy
  simp [hq y hy]
 rw [this]
 simp [hx]
theorem find_none {a n : Nat} {L : List Nat} (hq : ∀ y, y ∈ L → ¬ a < y) : nextL L n a = n := by
 unfold nextL
 have : L.find? (fun x => decide (a < x)) = none := by
  rw [List.find?_eq_none]
  intro y hy
  simp [hq y hy]
 rw [this]
 rfl
set_option maxRecDepth 100000 in
set_option maxHeartbeats 8000000 in
theorem segNext_any (K tb n xc : Nat) (l : List Rl) (row : List Int) (xa : Option Addr) (at0 : Int) (w : World) (hta : TabAt w K l tb) (hl40 : l.length ≤ 40) (hrd : Rd .i64 w xa n row) (hnone : xa = none → xc = 0) (hn : n ≤ 1000) :
 Calls Tryd.prog 14 #[.pointer (some ⟨tb, 0, none⟩), .slice xa n xc, .int .i64 at0] w (StpP nextL K l n row at0 w) := by
 obtain ⟨H, hH⟩ : ∃ H, H = w.heap.size := ⟨_, rfl⟩
 obtain ⟨W0, hW0⟩ : ∃ W0, W0 = ((w.alloc (.cells #[.int .i64 at0] 3)).alloc (.cells #[.int .i64 0] 3)).alloc (.cells #[.int .i64 0] 30) := ⟨_, rfl⟩
 have HB0 : Hid (Below w.heap.size w W0) := by rw [hW0]; exact (((Below.refl _ w).alloc (Nat.le_refl _) _).alloc (by simp) _).alloc (by simp; omega) _
 have HX0 : Hid (W0.heap[H]? = some (.cells #[.int .i64 at0] 3) ∧ W0.heap[H + 1]? = some (.cells #[.int .i64 0] 3) ∧ W0.heap[H + 2]? = some (.cells #[.int .i64 0] 30)) := by rw [hW0, hH]; exact new_at3 w _ _ _
 have HBO : Hid (Calls Tryd.prog 27 #[.pointer (some ⟨tb, 0, none⟩), .slice xa n xc, .int .i64 at0] W0 (ArnP K l tb n row at0 W0)) := by
  obtain ⟨la, lb, nxA, ouA, nxB, ouB, q1, q2, q3, q4, q5, q6, q7⟩ := hta
  have hV := HB0.out
  exact around_any K tb n xc l row xa at0 W0 ⟨la, lb, nxA, ouA, nxB, ouB, (hV.block tb (Array.getElem?_eq_some_iff.1 q1).1).trans q1, q2.later hV, q3, q4, q5.later hV, q6, q7⟩ (hrd.later hV) hnone hn
 have hni : (n : Int) ≤ 1000 := by omega
 have HN : Hid (n ≤ 1000 ∧ l.length ≤ 40) := ⟨hn, hl40⟩
 have HHS : Hid (H = w.heap.size) := hH
 clear hta hl40 hrd hnone hn
 refine callsIn_wide.1 (callsIn_of_wp_marks (n := 3) Tryd.func14 rfl trivial (wpIn_wide.2 ?_) rfl)
 simp only [Tryd.ntmps14, List.size_toArray, List.length_cons, List.length_nil, Nat.reduceAdd, Nat.reduceSub, Array.replicate_succ, Array.replicate_zero, List.push_toArray, List.append_toArray, List.nil_append, List.cons_append]
 go_upto_region 1 with fail
 simp only [World.size_alloc, ← hH, show H + 1 + 1 = H + 2 from rfl]
 rw [← hW0]
 clear hH hW0
 obtain ⟨a0, _⟩ := box1 HX0.out.1
 go_wp2_with fail
 refine HBO.out.mono ?_
 rintro e w1 ⟨hb1, hor⟩
 have HB1 : Hid (Below w.heap.size w w1) := HB0.out.trans (hb1.mono HB0.out.size)
 have HX1 : Hid (w1.heap[H]? = some (.cells #[.int .i64 at0] 3) ∧ w1.heap[H + 1]? = some (.cells #[.int .i64 0] 3) ∧ w1.heap[H + 2]? = some (.cells #[.int .i64 0] 30)) :=
  ⟨(hb1.block _ (Array.getElem?_eq_some_iff.1 HX0.out.1).1).trans HX0.out.1, (hb1.block _ (Array.getElem?_eq_some_iff.1 HX0.out.2.1).1).trans HX0.out.2.1, (hb1.block _ (Array.getElem?_eq_some_iff.1 HX0.out.2.2).1).trans HX0.out.2.2⟩
 clear hb1 HBO a0
 obtain ⟨a0, _⟩ := box1 HX1.out.1
 obtain ⟨a1, f1⟩ := box1 HX1.out.2.1
 obtain ⟨a2, f2⟩ := box1 HX1.out.2.2
 have HST2 : Hid (∀ (V : World) (x y : Value), Below w.heap.size w V → V.heap[H + 1]? = some (.cells #[.int .i64 0] 3) → V.heap[H + 2]? = some (.cells #[.int .i64 0] 30) → Below w.heap.size w ((V.setCell ⟨H + 1, 0, none⟩ x).setCell ⟨H + 2, 0, none⟩ y) ∧ ((V.setCell ⟨H + 1, 0, none⟩ x).setCell ⟨H + 2, 0, none⟩ y).heap[H + 1]? = some (.cells #[x] 3) ∧ ((V.setCell ⟨H + 1, 0, none⟩ x).setCell ⟨H + 2, 0, none⟩ y).heap[H + 2]? = some (.cells #[y] 30)) := fun V x y hV h1 h2 => by
  have hh := HHS.out
  refine ⟨(hV.setCell (p := ⟨H + 1, 0, none⟩) (by show w.heap.size ≤ H + 1; omega) _).setCell (p := ⟨H + 2, 0, none⟩) (by show w.heap.size ≤ H + 2; omega) _, ?_, ?_⟩
  ·exact (heap_setCell_other _ ⟨H + 2, 0, none⟩ (H + 1) _ (by show H + 1 ≠ H + 2; omega)).trans (heap_setCell_same V (H + 1) 0 _ _ _ h1)
  ·exact heap_setCell_same _ (H + 2) 0 _ _ _ ((heap_setCell_other V ⟨H + 1, 0, none⟩ (H + 2) _ (by show H + 2 ≠ H + 1; omega)).trans h2)
 rcases hor with ⟨hnc, rfl⟩ | ⟨hcl, hat, rfl⟩ | ⟨hcl, hat0, hatn, nxA, ouA, nxB, ouB, Bn, Bt, Ba, Bb, ga, gb, ca, cb, rfl, hsg, hla, hlb⟩
 ·have HNC : Hid (¬ Cls K row) := hnc
  clear hnc
  obtain ⟨r1, r2, r3⟩ := HST2.out w1 (.int .i64 0) (.int .i64 1) HB1.out HX1.out.2.1 HX1.out.2.2
  obtain ⟨W9, hW9⟩ : ∃ W9, W9 = (w1.setCell ⟨H + 1, 0, none⟩ (.int .i64 0)).setCell ⟨H + 2, 0, none⟩ (.int .i64 1) := ⟨_, rfl⟩
  rw [← hW9] at r1 r2 r3
  have HF : Hid (Below w.heap.size w W9) := r1
  have q1 := (box1 r2).1
  have q2 := (box1 r3).1
  clear r1 r2 r3
  go_wp2_with fail
  rw [← hW9]
  clear hW9 a0 a1 a2 f1 f2
  refine ⟨.tuple #[.int .i64 0, .int .i64 1], by simp [results, Tryd.f14, go_sem, q1, q2], HF.out, .inl ⟨HNC.out, rfl⟩⟩
 ·have HNC : Hid (Cls K row ∧ (at0 < 0 ∨ (n : Int) < at0)) := ⟨hcl, hat⟩
  clear hcl hat
  obtain ⟨r1, r2, r3⟩ := HST2.out w1 (.int .i64 0) (.int .i64 3) HB1.out HX1.out.2.1 HX1.out.2.2
  obtain ⟨W9, hW9⟩ : ∃ W9, W9 = (w1.setCell ⟨H + 1, 0, none⟩ (.int .i64 0)).setCell ⟨H + 2, 0, none⟩ (.int .i64 3) := ⟨_, rfl⟩
  rw [← hW9] at r1 r2 r3
  have HF : Hid (Below w.heap.size w W9) := r1
  have q1 := (box1 r2).1
  have q2 := (box1 r3).1
  clear r1 r2 r3
  go_wp2_with fail
  rw [← hW9]
  clear hW9 a0 a1 a2 f1 f2
  refine ⟨.tuple #[.int .i64 0, .int .i64 3], by simp [results, Tryd.f14, go_sem, q1, q2], HF.out, .inr (.inl ⟨HNC.out.1, HNC.out.2, rfl⟩)⟩
 obtain ⟨A, rfl⟩ : ∃ A : Nat, at0 = (A : Int) := ⟨at0.toNat, by omega⟩
 obtain ⟨OA, hOA⟩ : ∃ F : Nat → Nat, F = ouR nxA ouA row := ⟨_, rfl⟩
 obtain ⟨OB, hOB⟩ : ∃ F : Nat → Nat, F = ouR nxB ouB row.reverse := ⟨_, rfl⟩
 rw [← hOA, ← hOB] at hsg
 have hlx : (xsL l).length ≤ 64 ∧ (xsR l).length ≤ 64 := by have := HN.out.2; simp only [xsL, xsR, List.length_map]; omega
 have HST : Hid (SeqStopsK Fence.wide (3 - 1) Tryd.prog 42 #[.pointer (some ⟨Bn, 0, none⟩), .pointer (some ⟨Bt, 0, none⟩), .pointer (some ⟨Ba, 0, none⟩), .pointer (some ⟨Bb, 0, none⟩)] (fun x : PlN n => #[.int .i64 ((x.1 : Nat) : Int)]) (Below w1.heap.size) (fun xs => xs.map (·.1) = allB (brkN l) l.length n OA OB) (fun pre => pre.map (·.1) <+: allB (brkN l) l.length n OA OB) (n + 2) w1) :=
  bnd_stops (3 - 1) n tb Bn Bt Ba Bb ga gb ca cb (brkN l) l.length OA OB w1 hsg HN.out.2 (by have := HN.out.1; omega) (Nat.lt_of_lt_of_le (brkN_lt l HN.out.2) (by decide)) (fun i => by rw [hOA, hOB]; exact ⟨ouR_lt hla hlx.1 hcl i, ouR_lt hlb hlx.2 (cls_rev hcl) i⟩)
 have HFI : Hid (Cls K row ∧ LeastOf K (xsL l) nxA ouA ∧ LeastOf K (xsR l) nxB ouB ∧ OA = ouR nxA ouA row ∧ OB = ouR nxB ouB row.reverse) := ⟨hcl, hla, hlb, hOA, hOB⟩
 clear hcl hsg hla hlb hOA hOB hlx
 have HH1 : Hid (H + 2 < w1.heap.size) := (Array.getElem?_eq_some_iff.1 HX1.out.2.2).1
 go_wp2_with fail
 clear a0 a1 a2 f1 f2
 refine (wpIn_wide (n := 3)).1 ?_
 refine wpIn_rangeFunc_ownF rfl (by decide) (gf := 42) (lb := #[.pointer (some ⟨Bn, 0, none⟩), .pointer (some ⟨Bt, 0, none⟩), .pointer (some ⟨Ba, 0, none⟩), .pointer (some ⟨Bb, 0, none⟩)]) rfl trivial (enters_of Tryd.func42 (by kernel_rfl) rfl)
  HST.out belowK_t (belowK_b (Nat.le_refl _)) (Below.refl _ _) (fun _ => rfl)
  (NxI n A H w1) (NxX n A H w) (nxI_own n A H w1) (fun c => nxX_own n A H _ w c HB1.out.size)
  ⟨⟨fun y hy => by simp at hy, HX1.out.1, HX1.out.2.1, HX1.out.2.2⟩, Below.refl _ _⟩
  (fun x => { tmps := #[.pointer (some ⟨tb, 0, none⟩), .slice xa n xc, .int .i64 (A : Int), undef, undef, .pointer (some ⟨H, 0, none⟩), .pointer (some ⟨H + 1, 0, none⟩), .pointer (some ⟨H + 2, 0, none⟩), .func (.func 42) #[] #[.pointer (some ⟨Bn, 0, none⟩), .pointer (some ⟨Bt, 0, none⟩), .pointer (some ⟨Ba, 0, none⟩), .pointer (some ⟨Bb, 0, none⟩)], .int .i64 0, .int .i64 ((x.1 : Nat) : Int), .tuple #[.func (.func 42) #[] #[.pointer (some ⟨Bn, 0, none⟩), .pointer (some ⟨Bt, 0, none⟩), .pointer (some ⟨Ba, 0, none⟩), .pointer (some ⟨Bb, 0, none⟩)], .int .i64 0], .pointer (some ⟨tb, 0, none⟩), .slice xa n xc, .int .i64 (A : Int), .tuple #[.func (.func 42) #[] #[.pointer (some ⟨Bn, 0, none⟩), .pointer (some ⟨Bt, 0, none⟩), .pointer (some ⟨Ba, 0, none⟩), .pointer (some ⟨Bb, 0, none⟩)], .int .i64 0], .func (.func 42) #[] #[.pointer (some ⟨Bn, 0, none⟩), .pointer (some ⟨Bt, 0, none⟩), .pointer (some ⟨Ba, 0, none⟩), .pointer (some ⟨Bb, 0, none⟩)], .int .i64 0, .int .i64 0, .bool false, undef, .func (.func 42) #[] #[.pointer (some ⟨Bn, 0, none⟩), .pointer (some ⟨Bt, 0, none⟩), .pointer (some ⟨Ba, 0, none⟩), .pointer (some ⟨Bb, 0, none⟩)], .int .i64 ((x.1 : Nat) : Int), undef, undef, undef, undef, undef, undef], defers := [] }) ?assign ?body ?done ?stop
 case assign =>
  intro ll x W K hK
  gi_wp2
  exact hK
 case body =>
  rintro ll pre ⟨x, hx⟩ W ⟨⟨hp, h0, h1, h2⟩, hB⟩ _
  obtain ⟨b0, _⟩ := box1 h0
  obtain ⟨b1, f1⟩ := box1 h1
  obtain ⟨b2, f2⟩ := box1 h2
  have hBw : Below w.heap.size w W := HB1.out.trans (hB.mono HB1.out.size)
  by_cases hgt : A < x
  ·have g1 : (A : Int) < (x : Int) := by omega
   have HPO : Hid (KeepsOthers W ((W.setCell ⟨H + 1, 0, none⟩ (.int .i64 (x : Int))).setCell ⟨H + 2, 0, none⟩ (.int .i64 0)) ∧ NxX n A H w .ret (pre ++ [(⟨x, hx⟩ : PlN n)]) ((W.setCell ⟨H + 1, 0, none⟩ (.int .i64 (x : Int))).setCell ⟨H + 2, 0, none⟩ (.int .i64 0))) := by
    obtain ⟨r1, r2, r3⟩ := HST2.out W (.int .i64 (x : Int)) (.int .i64 0) hBw h1 h2
    exact ⟨(KeepsOthers.setCell _ _ _).trans (KeepsOthers.setCell _ _ _), ⟨rfl, pre, ⟨x, hx⟩, rfl, hp, hgt, r2, r3⟩, r1⟩
   clear h0 h1 h2 hB hBw hp
   gi_wp2
   exact HPO.out
  ·have g1 : ¬ (A : Int) < (x : Int) := by omega
   have HPO : Hid (KeepsOthers W W ∧ Below w1.heap.size W W ∧ NxI n A H w1 (pre ++ [(⟨x, hx⟩ : PlN n)]) W) := by
    refine ⟨KeepsOthers.refl _, Below.refl _ _, ⟨fun y hy => ?_, h0, h1, h2⟩, hB⟩
    rcases List.mem_append.1 hy with hy | hy
    ·exact hp y hy
    ·rw [List.mem_singleton.1 hy]; exact hgt
   clear h0 h1 h2 hB hBw hp
   gi_wp2
   exact HPO.out
 case done =>
  rintro D ys W hD hS ⟨⟨hp, h0, h1, h2⟩, hB⟩ hK
  obtain ⟨b1, f1⟩ := box1 h1
  obtain ⟨b2, f2⟩ := box1 h2
  have hBw : Below w.heap.size w W := HB1.out.trans (hB.mono HB1.out.size)
  obtain ⟨r1, r2, r3⟩ := HST2.out W (.int .i64 (n : Int)) (.int .i64 0) hBw h1 h2
  have hK2 : ((W.setCell ⟨H + 1, 0, none⟩ (.int .i64 (n : Int))).setCell ⟨H + 2, 0, none⟩ (.int .i64 0)).heap[D]? = some (.deferred (some [])) := by
   have := HH1.out
   exact (heap_setCell_other _ ⟨H + 2, 0, none⟩ D _ (by show D ≠ H + 2; omega)).trans ((heap_setCell_other _ ⟨H + 1, 0, none⟩ D _ (by show D ≠ H + 1; omega)).trans hK)
  obtain ⟨W9, hW9⟩ : ∃ W9, W9 = (W.setCell ⟨H + 1, 0, none⟩ (.int .i64 (n : Int))).setCell ⟨H + 2, 0, none⟩ (.int .i64 0) := ⟨_, rfl⟩
  rw [← hW9] at r1 r2 r3 hK2
  have hq1 : (W9.putObj D (.deferred none)).heap[H + 1]? = some (.cells #[.int .i64 (n : Int)] 3) := (World.putObj_heap_other (by have := HH1.out; omega)).trans r2
  have hq2 : (W9.putObj D (.deferred none)).heap[H + 2]? = some (.cells #[.int .i64 0] 30) := (World.putObj_heap_other (by have := HH1.out; omega)).trans r3
  have q1 := (box1 hq1).1
  have q2 := (box1 hq2).1
  have HPO : Hid (W9.heap[D]? = some (.deferred (some [])) ∧ StpP nextL K l n row (A : Int) w (.returned (.tuple #[.int .i64 (n : Int), .int .i64 0])) (W9.putObj D (.deferred none))) := by
   refine ⟨hK2, r1.grown (grownBy_putObj' W9 D _) r1.size (fun k e => by cases e; have := HB1.out.size; omega), .inr (.inr ⟨HFI.out.1, by omega, hatn, nxA, ouA, nxB, ouB, ?_, HFI.out.2.1, HFI.out.2.2.1⟩)⟩
   rw [← HFI.out.2.2.2.1, ← HFI.out.2.2.2.2, ← hS, Int.toNat_natCast, find_none (fun y hy => by obtain ⟨z, hz, rfl⟩ := List.mem_map.1 hy; exact hp z hz)]
  clear h0 h1 h2 hB hBw hp r1 r2 r3 hK2 hK hS hq1 hq2
  go_wp2
  rw [← hW9]
  clear hW9
  refine ⟨by simp, .inl ⟨_, _, rfl, run_takeDeferred HPO.out.1, ?_⟩⟩
  refine ⟨.tuple #[.int .i64 (n : Int), .int .i64 0], by simp [results, Tryd.f14, go_sem, q1, q2], HPO.out.2⟩
 case stop =>
  rintro D c pre W hD hS ⟨⟨rfl, q, x, rfl, hq, hx, h1, h2⟩, hB⟩ hK
  have hq1 : (W.putObj D (.deferred none)).heap[H + 1]? = some (.cells #[.int .i64 ((x.1 : Nat) : Int)] 3) := (World.putObj_heap_other (by have := HH1.out; omega)).trans h1
  have hq2 : (W.putObj D (.deferred none)).heap[H + 2]? = some (.cells #[.int .i64 0] 30) := (World.putObj_heap_other (by have := HH1.out; omega)).trans h2
  have q1 := (box1 hq1).1
  have q2 := (box1 hq2).1
  have HPO : Hid (W.heap[D]? = some (.deferred (some [])) ∧ StpP nextL K l n row (A : Int) w (.returned (.tuple #[.int .i64 ((x.1 : Nat) : Int), .int .i64 0])) (W.putObj D (.deferred none))) := by
   refine ⟨hK, hB.grown (grownBy_putObj' W D _) hB.size (fun k e => by cases e; have := HB1.out.size; omega), .inr (.inr ⟨HFI.out.1, by omega, hatn, nxA, ouA, nxB, ouB, ?_, HFI.out.2.1, HFI.out.2.2.1⟩)⟩
   have hp' : q.map (·.1) ++ [x.1] <+: allB (brkN l) l.length n OA OB := by
    have h := hS
    rw [List.map_append] at h
    exact h
   rw [← HFI.out.2.2.2.1, ← HFI.out.2.2.2.2, Int.toNat_natCast, find_app (r := []) hp' (fun y hy => by obtain ⟨z, hz, rfl⟩ := List.mem_map.1 hy; exact hq z hz) hx]
  clear h1 h2 hB hK hS hq1 hq2
  gi_wp2
  refine ⟨by simp, .inl ⟨_, _, rfl, run_takeDeferred HPO.out.1, ?_⟩⟩
  refine ⟨.tuple #[.int .i64 ((x.1 : Nat) : Int), .int .i64 0], by simp [results, Tryd.f14, go_sem, q1, q2], HPO.out.2⟩
end Go.Proofs.YtcafffohnokjgaaDoor

/- The walk of seg's Prev. -/
namespace Go.Proofs.YtcafffohnokjgaaDoor
open Go.RowKit Go.Shelf
set_option linter.unusedVariables false
set_option linter.unusedSimpArgs false
attribute [local go_sem] Oper.semAt_some

def prevL (l : List Nat) (n at0 : Nat) : Nat := ((l.takeWhile (fun x => decide (x < at0))).getLast?).getD 0
def lastN (l : List Nat) : Nat := l.getLast?.getD 0
def PvI (n A H X : Nat) (w1 : World) (pre : List (PlN n)) (W : World) : Prop := ((∀ y : PlN n, y ∈ pre → y.1 < A) ∧ W.heap[H]? = some (.cells #[.int .i64 (A : Int)] 3) ∧ W.heap[X]? = some (.cells #[.int .i64 ((lastN (pre.map (·.1)) : Nat) : Int)] 3)) ∧ Below w1.heap.size w1 W
def PvX (n A H X : Nat) (w1 : World) (c : Code) (pre : List (PlN n)) (W : World) : Prop := (c = .exit 0 ∧ ∃ q : List (PlN n), ∃ x : PlN n, pre = q ++ [x] ∧ (∀ y : PlN n, y ∈ q → y.1 < A) ∧ ¬ x.1 < A ∧ W.heap[X]? = some (.cells #[.int .i64 ((lastN (q.map (·.1)) : Nat) : Int)] 3)) ∧ Below w1.heap.size w1 W
theorem pvI_own (n A H X B : Nat) (w1 : World) (hB : w1.heap.size ≤ B) : OwnFrom B (PvI n A H X w1) :=
 OwnFrom.and (Own.from (fun s A B row hs hg hr => ⟨hs.1, blk_kept hs.2.1 hg hr, blk_kept hs.2.2 hg hr⟩) _) (ownFrom_below (Nat.le_refl _) hB)
theorem pvX_own (n A H X B : Nat) (w1 : World) (c : Code) (hB : w1.heap.size ≤ B) : OwnFrom B (PvX n A H X w1 c) :=
 OwnFrom.and (Own.from (fun s A B row hs hg hr => by
  obtain ⟨h1, q, x, h2, h3, h4, h5⟩ := hs
  exact ⟨h1, q, x, h2, h3, h4, blk_kept h5 hg hr⟩) _) (ownFrom_below (Nat.le_refl _) hB)
theorem prev_app {q : List Nat} {x a n : Nat} {L : List Nat} (hp : q ++ [x] <+: L) (hq : ∀ y, y ∈ q → y < a) (hx : ¬ x < a) : prevL L n a = lastN q := by
 obtain ⟨t, rfl⟩ := hp
 unfold prevL lastN
 have : (q ++ [x] ++ t).takeWhile (fun x => decide (x < a)) = q := by
  rw [List.append_assoc, List.takeWhile_append_of_pos (fun y hy => by simp [hq y hy])]
  simp [hx]
 rw [this]
theorem prev_all {a n : Nat} {L : List Nat} (hq : ∀ y, y ∈ L → y < a) : prevL L n a = lastN L := by
 unfold prevL lastN
 have : L.takeWhile (fun x => decide (x < a)) = L := by
  have h := List.takeWhile_append_of_pos (p := fun x => decide (x < a)) (l₁ := L) (l₂ := []) (fun y hy => by simp [hq y hy])
  simpa using h
 rw [this]
set_option maxRecDepth 100000 in
set_option maxHeartbeats 8000000 in
theorem segPrev_any (K tb n xc : Nat) (l : List Rl) (row : List Int) (xa : Option Addr) (at0 : Int) (w : World) (hta : TabAt w K l tb) (hl40 : l.length ≤ 40) (hrd : Rd .i64 w xa n row) (hnone : xa = none → xc = 0) (hn : n ≤ 1000) :
 Calls Tryd.prog 15 #[.pointer (some ⟨tb, 0, none⟩), .slice xa n xc, .int .i64 at0] w (StpP prevL K l n row at0 w) := by
 obtain ⟨H, hH⟩ : ∃ H, H = w.heap.size := ⟨_, rfl⟩
 obtain ⟨W0, hW0⟩ : ∃ W0, W0 = w.alloc (.cells #[.int .i64 at0] 3) := ⟨_, rfl⟩
 have HB0 : Hid (Below w.heap.size w W0) := by rw [hW0]; exact (Below.refl _ w).alloc (Nat.le_refl _) _
 have HX0 : Hid (W0.heap[H]? = some (.cells #[.int .i64 at0] 3)) := by show _ = _; rw [hW0, hH]; exact heap_alloc_new w _
 have HBO : Hid (Calls Tryd.prog 27 #[.pointer (some ⟨tb, 0, none⟩), .slice xa n xc, .int .i64 at0] W0 (ArnP K l tb n row at0 W0)) := by
  obtain ⟨la, lb, nxA, ouA, nxB, ouB, q1, q2, q3, q4, q5, q6, q7⟩ := hta
  have hV := HB0.out
  exact around_any K tb n xc l row xa at0 W0 ⟨la, lb, nxA, ouA, nxB, ouB, (hV.block tb (Array.getElem?_eq_some_iff.1 q1).1).trans q1, q2.later hV, q3, q4, q5.later hV, q6, q7⟩ (hrd.later hV) hnone hn
 have hni : (n : Int) ≤ 1000 := by omega
 have HN : Hid (n ≤ 1000 ∧ l.length ≤ 40) := ⟨hn, hl40⟩
 have HHS : Hid (H = w.heap.size) := hH
 clear hta hl40 hrd hnone hn
 refine callsIn_wide.1 (callsIn_of_wp_marks (n := 3) Tryd.func15 rfl trivial (wpIn_wide.2 ?_) rfl)
 simp only [Tryd.ntmps15, List.size_toArray, List.length_cons, List.length_nil, Nat.reduceAdd, Nat.reduceSub, Array.replicate_succ, Array.replicate_zero, List.push_toArray, List.append_toArray, List.nil_append, List.cons_append]
 go_upto_region 1 with fail
 rw [← hH, ← hW0]
 clear hH hW0
 obtain ⟨a0, _⟩ := box1 HX0.out
 go_wp2_with fail
 refine HBO.out.mono ?_
 rintro e w1 ⟨hb1, hor⟩
 have HB1 : Hid (Below w.heap.size w w1) := HB0.out.trans (hb1.mono HB0.out.size)
 have HX1 : Hid (w1.heap[H]? = some (.cells #[.int .i64 at0] 3)) := (hb1.block _ (Array.getElem?_eq_some_iff.1 HX0.out).1).trans HX0.out
 clear hb1 HBO a0
 rcases hor with ⟨hnc, rfl⟩ | ⟨hcl, hat, rfl⟩ | ⟨hcl, hat0, hatn, nxA, ouA, nxB, ouB, Bn, Bt, Ba, Bb, ga, gb, ca, cb, rfl, hsg, hla, hlb⟩
 ·have HNC : Hid (¬ Cls K row) := hnc
  clear hnc
  go_wp2_with fail
  refine ⟨.tuple #[.int .i64 0, .int .i64 1], by simp [results, Tryd.f15, go_sem], HB1.out, .inl ⟨HNC.out, rfl⟩⟩
 ·have HNC : Hid (Cls K row ∧ (at0 < 0 ∨ (n : Int) < at0)) := ⟨hcl, hat⟩
  clear hcl hat
  go_wp2_with fail
  refine ⟨.tuple #[.int .i64 0, .int .i64 3], by simp [results, Tryd.f15, go_sem], HB1.out, .inr (.inl ⟨HNC.out.1, HNC.out.2, rfl⟩)⟩
 obtain ⟨A, rfl⟩ : ∃ A : Nat, at0 = (A : Int) := ⟨at0.toNat, by omega⟩
 obtain ⟨OA, hOA⟩ : ∃ F : Nat → Nat, F = ouR nxA ouA row := ⟨_, rfl⟩
 obtain ⟨OB, hOB⟩ : ∃ F : Nat → Nat, F = ouR nxB ouB row.reverse := ⟨_, rfl⟩
 rw [← hOA, ← hOB] at hsg
 have hlx : (xsL l).length ≤ 64 ∧ (xsR l).length ≤ 64 := by have := HN.out.2; simp only [xsL, xsR, List.length_map]; omega
 have HST : Hid (SeqStopsK Fence.wide (3 - 1) Tryd.prog 42 #[.pointer (some ⟨Bn, 0, none⟩), .pointer (some ⟨Bt, 0, none⟩), .pointer (some ⟨Ba, 0, none⟩), .pointer (some ⟨Bb, 0, none⟩)] (fun x : PlN n => #[.int .i64 ((x.1 : Nat) : Int)]) (Below w1.heap.size) (fun xs => xs.map (·.1) = allB (brkN l) l.length n OA OB) (fun pre => pre.map (·.1) <+: allB (brkN l) l.length n OA OB) (n + 2) w1) :=
  bnd_stops (3 - 1) n tb Bn Bt Ba Bb ga gb ca cb (brkN l) l.length OA OB w1 hsg HN.out.2 (by have := HN.out.1; omega) (Nat.lt_of_lt_of_le (brkN_lt l HN.out.2) (by decide)) (fun i => by rw [hOA, hOB]; exact ⟨ouR_lt hla hlx.1 hcl i, ouR_lt hlb hlx.2 (cls_rev hcl) i⟩)
 have HFI : Hid (Cls K row ∧ LeastOf K (xsL l) nxA ouA ∧ LeastOf K (xsR l) nxB ouB ∧ OA = ouR nxA ouA row ∧ OB = ouR nxB ouB row.reverse) := ⟨hcl, hla, hlb, hOA, hOB⟩
 clear hcl hsg hla hlb hOA hOB hlx
 obtain ⟨X, hX⟩ : ∃ X, X = w1.heap.size := ⟨_, rfl⟩
 obtain ⟨W2, hW2⟩ : ∃ W2, W2 = w1.alloc (.cells #[.int .i64 0] 3) := ⟨_, rfl⟩
 have HC2 : Hid (Below w1.heap.size w1 W2 ∧ W2.heap.size = w1.heap.size + 1) := by rw [hW2]; exact ⟨(Below.refl _ w1).alloc (Nat.le_refl _) _, by simp⟩
 have HXX : Hid (W2.heap[X]? = some (.cells #[.int .i64 0] 3) ∧ W2.heap[H]? = some (.cells #[.int .i64 (A : Int)] 3)) := ⟨by rw [hW2, hX]; exact heap_alloc_new w1 _, (HC2.out.1.block _ (Array.getElem?_eq_some_iff.1 HX1.out).1).trans HX1.out⟩
 have HXS : Hid (X = w1.heap.size ∧ H < X) := ⟨hX, by rw [hX]; exact (Array.getElem?_eq_some_iff.1 HX1.out).1⟩
 go_upto_region 5 with fail
 rw [← hX, ← hW2]
 clear hX hW2
 go_wp2_with fail
 refine (wpIn_wide (n := 3)).1 ?_
 refine wpIn_rangeFunc_ownF rfl (by decide) (gf := 42) (lb := #[.pointer (some ⟨Bn, 0, none⟩), .pointer (some ⟨Bt, 0, none⟩), .pointer (some ⟨Ba, 0, none⟩), .pointer (some ⟨Bb, 0, none⟩)]) rfl trivial (enters_of Tryd.func42 (by kernel_rfl) rfl)
  HST.out belowK_t (belowK_b (by have := HC2.out.2; omega)) HC2.out.1 (fun _ => rfl)
  (PvI n A H X w1) (PvX n A H X w1) (pvI_own n A H X _ w1 HC2.out.1.size) (fun c => pvX_own n A H X _ w1 c HC2.out.1.size)
  ⟨⟨fun y hy => by simp at hy, HXX.out.2, HXX.out.1⟩, HC2.out.1⟩
  (fun x => { tmps := #[.pointer (some ⟨tb, 0, none⟩), .slice xa n xc, .int .i64 (A : Int), undef, undef, .pointer (some ⟨H, 0, none⟩), .int .i64 0, .int .i64 0, .func (.func 42) #[] #[.pointer (some ⟨Bn, 0, none⟩), .pointer (some ⟨Bt, 0, none⟩), .pointer (some ⟨Ba, 0, none⟩), .pointer (some ⟨Bb, 0, none⟩)], .int .i64 0, .pointer (some ⟨X, 0, none⟩), .int .i64 ((x.1 : Nat) : Int), .tuple #[.func (.func 42) #[] #[.pointer (some ⟨Bn, 0, none⟩), .pointer (some ⟨Bt, 0, none⟩), .pointer (some ⟨Ba, 0, none⟩), .pointer (some ⟨Bb, 0, none⟩)], .int .i64 0], .pointer (some ⟨tb, 0, none⟩), .slice xa n xc, .int .i64 (A : Int), .tuple #[.func (.func 42) #[] #[.pointer (some ⟨Bn, 0, none⟩), .pointer (some ⟨Bt, 0, none⟩), .pointer (some ⟨Ba, 0, none⟩), .pointer (some ⟨Bb, 0, none⟩)], .int .i64 0], .func (.func 42) #[] #[.pointer (some ⟨Bn, 0, none⟩), .pointer (some ⟨Bt, 0, none⟩), .pointer (some ⟨Ba, 0, none⟩), .pointer (some ⟨Bb, 0, none⟩)], .int .i64 0, .int .i64 0, .bool false, undef, .func (.func 42) #[] #[.pointer (some ⟨Bn, 0, none⟩), .pointer (some ⟨Bt, 0, none⟩), .pointer (some ⟨Ba, 0, none⟩), .pointer (some ⟨Bb, 0, none⟩)], .int .i64 ((x.1 : Nat) : Int), undef, undef, undef, undef, undef], defers := [] }) ?assign ?body ?done ?stop
 case assign =>
  intro ll x W K hK
  gi_wp2
  exact hK
 case body =>
  rintro ll pre ⟨x, hx⟩ W ⟨⟨hp, h0, h1⟩, hB⟩ _
  obtain ⟨b0, _⟩ := box1 h0
  obtain ⟨b1, f1⟩ := box1 h1
  by_cases hgt : x < A
  ·have g1 : ¬ (A : Int) ≤ (x : Int) := by omega
   have HPO : Hid (KeepsOthers W (W.setCell ⟨X, 0, none⟩ (.int .i64 (x : Int))) ∧ Below w1.heap.size W (W.setCell ⟨X, 0, none⟩ (.int .i64 (x : Int))) ∧ PvI n A H X w1 (pre ++ [(⟨x, hx⟩ : PlN n)]) (W.setCell ⟨X, 0, none⟩ (.int .i64 (x : Int)))) := by
    have hxs := HXS.out
    refine ⟨KeepsOthers.setCell _ _ _, (Below.refl _ W).setCell (p := ⟨X, 0, none⟩) (by show w1.heap.size ≤ X; omega) _, ⟨fun y hy => ?_, ?_, ?_⟩, hB.setCell (p := ⟨X, 0, none⟩) (by show w1.heap.size ≤ X; omega) _⟩
    ·rcases List.mem_append.1 hy with hy | hy
     ·exact hp y hy
     ·rw [List.mem_singleton.1 hy]; exact hgt
    ·exact (heap_setCell_other W ⟨X, 0, none⟩ H _ (by show H ≠ X; omega)).trans h0
    ·rw [heap_setCell_same W X 0 _ _ _ h1]; simp [lastN]
   clear h0 h1 hB hp
   gi_wp2
   exact HPO.out
  ·have g1 : (A : Int) ≤ (x : Int) := by omega
   have HPO : Hid (KeepsOthers W W ∧ PvX n A H X w1 (.exit 0) (pre ++ [(⟨x, hx⟩ : PlN n)]) W) := ⟨KeepsOthers.refl _, ⟨rfl, pre, ⟨x, hx⟩, rfl, hp, hgt, h1⟩, hB⟩
   clear h0 h1 hB hp
   gi_wp2
   exact HPO.out
 case done =>
  rintro D ys W hD hS ⟨⟨hp, h0, h1⟩, hB⟩ hK
  obtain ⟨b1, _⟩ := box1 h1
  obtain ⟨v, hv⟩ : ∃ v, v = lastN (ys.map (·.1)) := ⟨_, rfl⟩
  rw [← hv] at b1
  have HPO : Hid (W.heap[D]? = some (.deferred (some [])) ∧ StpP prevL K l n row (A : Int) w (.returned (.tuple #[.int .i64 (v : Int), .int .i64 0])) (W.putObj D (.deferred none))) := by
   have hb := HB1.out.trans (hB.mono HB1.out.size)
   refine ⟨hK, hb.grown (grownBy_putObj' W D _) hb.size (fun k e => by cases e; have := HB1.out.size; have := HC2.out.2; omega), .inr (.inr ⟨HFI.out.1, by omega, hatn, nxA, ouA, nxB, ouB, ?_, HFI.out.2.1, HFI.out.2.2.1⟩)⟩
   rw [← HFI.out.2.2.2.1, ← HFI.out.2.2.2.2, ← hS, Int.toNat_natCast, prev_all (fun y hy => by obtain ⟨z, hz, rfl⟩ := List.mem_map.1 hy; exact hp z hz), hv]
  clear h0 h1 hB hp hK hS hv
  go_wp2
  refine ⟨by simp, .inl ⟨_, _, rfl, run_takeDeferred HPO.out.1, ?_⟩⟩
  refine ⟨.tuple #[.int .i64 (v : Int), .int .i64 0], by simp [results, Tryd.f15, go_sem], HPO.out.2⟩
 case stop =>
  rintro D c pre W hD hS ⟨⟨rfl, q, x, rfl, hq, hx, h1⟩, hB⟩ hK
  obtain ⟨b1, _⟩ := box1 h1
  obtain ⟨v, hv⟩ : ∃ v, v = lastN (q.map (·.1)) := ⟨_, rfl⟩
  rw [← hv] at b1
  have HPO : Hid (W.heap[D]? = some (.deferred (some [])) ∧ StpP prevL K l n row (A : Int) w (.returned (.tuple #[.int .i64 (v : Int), .int .i64 0])) (W.putObj D (.deferred none))) := by
   have hb := HB1.out.trans (hB.mono HB1.out.size)
   refine ⟨hK, hb.grown (grownBy_putObj' W D _) hb.size (fun k e => by cases e; have := HB1.out.size; have := HC2.out.2; omega), .inr (.inr ⟨HFI.out.1, by omega, hatn, nxA, ouA, nxB, ouB, ?_, HFI.out.2.1, HFI.out.2.2.1⟩)⟩
   have hp' : q.map (·.1) ++ [x.1] <+: allB (brkN l) l.length n OA OB := by
    have h := hS
    rw [List.map_append] at h
    exact h
   rw [← HFI.out.2.2.2.1, ← HFI.out.2.2.2.2, Int.toNat_natCast, prev_app hp' (fun y hy => by obtain ⟨z, hz, rfl⟩ := List.mem_map.1 hy; exact hq z hz) hx, hv]
  clear h1 hB hK hS hv
  gi_wp2
  go_wp2
  refine ⟨by simp, .inl ⟨_, _, rfl, run_takeDeferred HPO.out.1, ?_⟩⟩
  refine ⟨.tuple #[.int .i64 (v : Int), .int .i64 0], by simp [results, Tryd.f15, go_sem], HPO.out.2⟩
end Go.Proofs.YtcafffohnokjgaaDoor

/- The walks of small and few. -/
namespace Go.Proofs.YtcafffohnokjgaaDoor
open Go.RowKit Go.Shelf Go.Maps
set_option linter.unusedVariables false
set_option linter.unusedSimpArgs false

def SmP (n : Nd) (w : World) (e : Ending) (w' : World) : Prop := ∃ b, e = .returned (.bool b) ∧ (b = true → n.cnt ≤ 400 → n.cnt ≤ 30) ∧ Below w.heap.size w w'
set_option maxHeartbeats 4000000 in
theorem small9_any (D : Nat) (n : Nd) (ca pa : Option Addr) (cc pc B : Nat) (w : World) (hin : InV B w D n [.int .i64 n.op, .slice ca n.cl.length cc, .slice pa (toL n.kids).length pc]) (hB : B ≤ w.heap.size) :
 Calls Tryd.prog 22 #[.agg #[.int .i64 n.op, .slice ca n.cl.length cc, .slice pa (toL n.kids).length pc]] w (SmP n w) := by
 obtain ⟨op, hop⟩ : ∃ op, op = n.op := ⟨_, rfl⟩
 obtain ⟨cn, hcn⟩ : ∃ cn, cn = n.cl.length := ⟨_, rfl⟩
 obtain ⟨K, hK⟩ : ∃ K, K = (toL n.kids).length := ⟨_, rfl⟩
 have HIN : Hid (InV w.heap.size w D n [.int .i64 n.op, .slice ca n.cl.length cc, .slice pa (toL n.kids).length pc]) := hin.base hB D
 have HCO : Hid (∀ V : World, Below w.heap.size w V → Calls Tryd.prog 29 #[.agg #[.int .i64 op, .slice ca cn cc, .slice pa K pc]] V fun e w' => ∃ v : Int, e = .returned (.int .i64 v) ∧ (n.cnt ≤ 400 → v = (n.cnt : Int)) ∧ Below V.heap.size V w') := fun V hV => by
  rw [hop, hcn, hK]; exact countX_any D n ca pa cc pc _ V (HIN.out.later hV D)
 have HST : Hid (∀ V : World, Below w.heap.size w V → Calls Tryd.prog 30 #[.agg #[.int .i64 op, .slice ca cn cc, .slice pa K pc]] V fun e w' => ∃ t : Int, e = .returned (.int .i64 t) ∧ Below V.heap.size V w') := fun V hV => by
  rw [hop, hcn, hK]; exact starsX_any D n ca pa cc pc _ V (HIN.out.later hV D)
 obtain ⟨W0, hW0⟩ : ∃ W0, W0 = w.alloc (.cells #[.int .i64 op, .slice ca cn cc, .slice pa K pc] 46) := ⟨_, rfl⟩
 obtain ⟨H, hH⟩ : ∃ H, H = w.heap.size := ⟨_, rfl⟩
 have HB0 : Hid (Below w.heap.size w W0) := by rw [hW0]; exact (Below.refl _ w).alloc (Nat.le_refl _) _
 have HX0 : Hid (W0.heap[H]? = some (.cells #[.int .i64 op, .slice ca cn cc, .slice pa K pc] 46)) := by show _ = _; rw [hW0, hH]; exact heap_alloc_new w _
 rw [← hop, ← hcn, ← hK]
 clear hin hop hcn hK
 go_enter Tryd.func22, Tryd.ntmps22
 go_upto_region 1 with fail
 rw [← hH, ← hW0]
 clear hH hW0
 have e0 : W0.cell? ⟨H, 0, none⟩ = some (.int .i64 op) := cell_of_row W0 H 0 _ _ _ HX0.out
 have e1 : W0.cell? ⟨H, 1, none⟩ = some (.slice ca cn cc) := cell_of_row W0 H 1 _ _ _ HX0.out
 have e2 : W0.cell? ⟨H, 2, none⟩ = some (.slice pa K pc) := cell_of_row W0 H 2 _ _ _ HX0.out
 go_wp2_with fail
 refine (HCO.out W0 HB0.out).mono ?_
 rintro e w1 ⟨v, rfl, hv, hb1⟩
 have HB1 : Hid (Below w.heap.size w w1) := HB0.out.trans (hb1.mono HB0.out.size)
 have HX1 : Hid (w1.heap[H]? = some (.cells #[.int .i64 op, .slice ca cn cc, .slice pa K pc] 46)) := (hb1.block H (Array.getElem?_eq_some_iff.1 HX0.out).1).trans HX0.out
 clear hb1 e0 e1 e2
 have HV : Hid (n.cnt ≤ 400 → v = (n.cnt : Int)) := hv
 clear hv
 by_cases h30 : v ≤ 30
 ·have e0 : w1.cell? ⟨H, 0, none⟩ = some (.int .i64 op) := cell_of_row w1 H 0 _ _ _ HX1.out
  have e1 : w1.cell? ⟨H, 1, none⟩ = some (.slice ca cn cc) := cell_of_row w1 H 1 _ _ _ HX1.out
  have e2 : w1.cell? ⟨H, 2, none⟩ = some (.slice pa K pc) := cell_of_row w1 H 2 _ _ _ HX1.out
  go_wp2_with fail
  refine (HST.out w1 HB1.out).mono ?_
  rintro e w2 ⟨t, rfl, hb2⟩
  have HB2 : Hid (Below w.heap.size w w2) := HB1.out.trans (hb2.mono HB1.out.size)
  clear hb2 e0 e1 e2
  by_cases ht : t ≤ 3
  all_goals
   go_wp2_with fail
   go_ret
   exact ⟨_, rfl, fun _ h => by have := HV.out h; omega, HB2.out⟩
 ·go_wp2_with fail
  go_ret
  exact ⟨false, rfl, fun h => by simp at h, HB1.out⟩
theorem info_Rl : (Tryd.prog.info? 48).map (fun i => (i.zero, i.size, i.bytes)) = some (some (.agg #[.int .i64 0, .slice none 0 0, .slice none 0 0, .int .i64 0, .slice none 0 0, .slice none 0 0, .bool false, .bool false]), 8, 120) := by kernel_rfl
theorem cutS (a : Option Addr) (len cap n : Nat) (h : n ≤ cap) (W : World) : (Instr.slice 22 (.slice a len cap) none (some (.int .i64 n)) none).run Tryd.prog W = .ok (.slice a n cap) W := by
 have h0 : (0 : Int) ≤ (n : Int) := by omega
 have h1 : (n : Int) ≤ (cap : Int) := by omega
 go_simp
def flR (ps : List (Rl × RlP)) : List Value := ps.flatMap fun x => (x.1.vals x.2).toList
theorem flR_len (ps : List (Rl × RlP)) : (flR ps).length = ps.length * 8 := by
 induction ps with
 | nil => rfl
 | cons x r ih => simp only [flR, List.flatMap_cons, List.length_append] at ih ⊢; rw [ih]; simp; omega
def KeptR (w : World) (D : Nat) (l : List Rl) (ps : List (Rl × RlP)) : Prop := ∀ x, x ∈ ps → RlAt w D x.1 x.2 ∧ x.1 ∈ l ∧ (x.1.left.cnt ≤ 400 → x.1.left.cnt ≤ 30) ∧ (x.1.right.cnt ≤ 400 → x.1.right.cnt ≤ 30)
def FwS (w0 w : World) (D : Nat) (l : List Rl) (c0 c1 c2 v : Value) (ps : List (Rl × RlP)) (wr : World) : Prop :=
 Below w.heap.size w wr ∧ wr.heap[w.heap.size]? = some (.cells #[c0, c1] 25) ∧ wr.heap[w.heap.size + 1]? = some (.cells #[.slice none 0 0, .slice none 0 0] 25) ∧ wr.heap[w.heap.size + 2]? = some (.cells #[c2, v] 25) ∧
  wr.ownsRow w.heap.size 48 8 v ps.length (flR ps) ∧ KeptR w0 D l ps
theorem FwS.later {w0 w wr W : World} {D : Nat} {l : List Rl} {c0 c1 c2 v : Value} {ps : List (Rl × RlP)} (h : FwS w0 w D l c0 c1 c2 v ps wr) (hb : Below wr.heap.size wr W) : FwS w0 w D l c0 c1 c2 v ps W := by
 obtain ⟨h1, h2, h3, h4, h5, h6⟩ := h
 exact ⟨h1.trans (hb.mono h1.size), (hb.block _ (Array.getElem?_eq_some_iff.1 h2).1).trans h2, (hb.block _ (Array.getElem?_eq_some_iff.1 h3).1).trans h3, (hb.block _ (Array.getElem?_eq_some_iff.1 h4).1).trans h4, own_later5 h5 hb, h6⟩
theorem FwS.more {w0 w wr W w1 : World} {D : Nat} {l : List Rl} {c0 c1 c2 : Value} {av : Option Addr} {N cv g cp : Nat} {ps : List (Rl × RlP)} {r : Rl} {q : RlP} (h : FwS w0 w D l c0 c1 c2 (.slice av N cv) ps wr) (hN : N = ps.length) (hb : Below wr.heap.size wr W)
 (o1 : w1.ownsRow w.heap.size 48 8 (.slice (some ⟨g, 0, none⟩) (N + 1) cp) (N + 1) (flR ps ++ (r.vals q).toList)) (gr : W.grownBy w1 (Value.slice av N cv).ownBlock) (hk : RlAt w0 D r q ∧ r ∈ l ∧ (r.left.cnt ≤ 400 → r.left.cnt ≤ 30) ∧ (r.right.cnt ≤ 400 → r.right.cnt ≤ 30)) :
 (w1.cell? ⟨w.heap.size + 2, 1, none⟩ = some (.slice av N cv) ∧ w1.frozen? ⟨w.heap.size + 2, 1, none⟩ = false) ∧ FwS w0 w D l c0 c1 c2 (.slice (some ⟨g, 0, none⟩) (N + 1) cp) (ps ++ [(r, q)]) (w1.setCell ⟨w.heap.size + 2, 1, none⟩ (.slice (some ⟨g, 0, none⟩) (N + 1) cp)) := by
 obtain ⟨h1, h2, h3, h4, h5, h6⟩ := h.later hb
 have hne : ∀ (B : Nat) (cs : Array Value), W.heap[B]? = some (.cells cs 25) → w1.heap[B]? = some (.cells cs 25) := fun B cs hB =>
  (gr.block B (Array.getElem?_eq_some_iff.1 hB).1 (fun e => by
   obtain ⟨_, _, cur, hc⟩ := own_lt h5 e.symm
   exact ne_ty hc hB (by decide) rfl)).trans hB
 have k2 := hne _ _ h2
 have k3 := hne _ _ h3
 have k4 := hne _ _ h4
 have hg := grown_cell w1 (w.heap.size + 2) 1 (Value.slice (some ⟨g, 0, none⟩) (N + 1) cp)
 have hb1 : Below w.heap.size w w1 := h1.grown gr h1.size (fun y hy => (own_lt h5 hy).1)
 refine ⟨⟨cell_of_row _ _ 1 _ _ _ k4, Lib.frozen_of_heap k4 1⟩, hb1.grown hg hb1.size (fun y hy => by cases hy; omega), (hg.block _ (Array.getElem?_eq_some_iff.1 k2).1 (fun e => by simp at e)).trans k2, (hg.block _ (Array.getElem?_eq_some_iff.1 k3).1 (fun e => by simp at e)).trans k3, heap_setCell_same _ _ 1 _ _ _ k4, ?_, ?_⟩
 ·rw [show (ps ++ [(r, q)]).length = N + 1 by simp [hN], show flR (ps ++ [(r, q)]) = flR ps ++ (r.vals q).toList by simp [flR]]
  refine o1.kept hg (.inr fun e => ?_)
  obtain ⟨_, _, cur, hc⟩ := own_lt o1 e
  exact ne_ty hc k4 (by decide) rfl
 ·intro x hx
  rcases List.mem_append.1 hx with hx | hx
  ·exact h6 x hx
  ·rw [List.mem_singleton.1 hx]; exact hk
def Few9 (D : Nat) (l : List Rl) (ca : Option Addr) (m cc : Nat) (w0 w : World) (e : Ending) (w' : World) : Prop :=
 Below w.heap.size w w' ∧ ∃ (ps : List (Rl × RlP)) (a : Option Addr) (c : Nat), e = .returned (.agg #[.slice ca m cc, .slice a ps.length c]) ∧ ps.length ≤ 8 ∧ KeptR w0 D l ps ∧ w'.ownsRow w.heap.size 48 8 (.slice a ps.length c) ps.length (flR ps)
end Go.Proofs.YtcafffohnokjgaaDoor

/- The walk of few. -/
namespace Go.Proofs.YtcafffohnokjgaaDoor
open Go.RowKit Go.Shelf Go.Maps
set_option linter.unusedVariables false
set_option linter.unusedSimpArgs false

set_option maxRecDepth 100000 in
set_option maxHeartbeats 8000000 in
theorem few9_any (D K m : Nat) (l : List Rl) (ca ra : Option Addr) (cc rc : Nat) (w0 w : World) (hb0 : Below w0.heap.size w0 w) (hr : RowR w0 D ra l.length l) (hl : l.length ≤ 140737488355328) (hK : K ≤ cc) (hK2 : K ≤ 140737488355328) (hm : m = min K 30) :
 Calls Tryd.prog 11 #[.agg #[.slice ca K cc, .slice ra l.length rc]] w (Few9 D l ca m cc w0 w) := by
 obtain ⟨RN, hRN⟩ : ∃ RN, RN = l.length := ⟨_, rfl⟩
 have HRN : Hid (RN = l.length) := hRN
 have HR : Hid (RowR w0 D ra l.length l) := hr
 have HB0 : Hid (Below w0.heap.size w0 w) := hb0
 have hRi : (RN : Int) ≤ 140737488355328 := by omega
 have hKi : (K : Int) ≤ 140737488355328 := by omega
 have hmin := min_run K m 30 (by omega)
 have hcut := cutS ca K cc m (by omega)
 obtain ⟨j0, ji, jz0, jz1, jz2⟩ := info_parts info_Rl
 have HJ : Hid (Tryd.prog.info? 48 = some j0 ∧ j0.zero = some (.agg #[.int .i64 0, .slice none 0 0, .slice none 0 0, .int .i64 0, .slice none 0 0, .slice none 0 0, .bool false, .bool false]) ∧ j0.size = 8 ∧ j0.bytes = 120) := ⟨ji, jz0, jz1, jz2⟩
 obtain ⟨H, hH⟩ : ∃ H, H = w.heap.size := ⟨_, rfl⟩
 have HH : Hid (H = w.heap.size) := hH
 rw [← hRN]
 obtain ⟨W0, hW0⟩ : ∃ W0, W0 = ((w.alloc (.cells #[.slice ca K cc, .slice ra RN rc] 25)).alloc (.cells #[.slice none 0 0, .slice none 0 0] 25)).alloc (.cells #[.slice ca m cc, .slice none 0 0] 25) := ⟨_, rfl⟩
 have HF0 : Hid (FwS w0 w D l (.slice ca K cc) (.slice ra RN rc) (.slice ca m cc) (.slice none 0 0) [] W0) := by
  obtain ⟨b1, b2, b3⟩ := new_at3 w (.cells #[.slice ca K cc, .slice ra RN rc] 25) (.cells #[.slice none 0 0, .slice none 0 0] 25) (.cells #[.slice ca m cc, .slice none 0 0] 25)
  rw [← hW0] at b1 b2 b3
  refine ⟨?_, b1, b2, b3, ⟨rfl, .inl ⟨rfl, rfl⟩⟩, fun x hx => by simp at hx⟩
  rw [hW0]; exact (((Below.refl _ w).alloc (Nat.le_refl _) _).alloc (by simp) _).alloc (by simp; omega) _
 clear hr hb0 hl hRN hK hK2 hm ji jz0 jz1 jz2
 go_enter Tryd.func11, Tryd.ntmps11
 go_upto_region 2 with fail
 simp only [World.size_alloc, ← hH, show H + 1 + 1 = H + 2 from rfl]
 rw [← hW0]
 clear hH hW0 hmin hcut
 go_wp2_with fail
 go_loopw [4] (fun x4 wr => ∃ (k N cv : Nat) (av : Option Addr) (ps : List (Rl × RlP)), k ≤ RN ∧ N = ps.length ∧ N ≤ 8 ∧ x4 = .int .i64 (k : Int) ∧ FwS w0 w D l (.slice ca K cc) (.slice ra RN rc) (.slice ca m cc) (.slice av N cv) ps wr) (fun x4 _ => RN - (intOf x4).toNat)
 case atStart => exact ⟨0, 0, 0, none, [], by omega, rfl, by omega, rfl, HF0.out⟩
 case round =>
  obtain ⟨k, N, cv, av, ps, hk, hN, hN8, hx4, hfs⟩ := hrel
  subst hx4
  have HFS : Hid (FwS w0 w D l (.slice ca K cc) (.slice ra RN rc) (.slice ca m cc) (.slice av N cv) ps wr) := hfs
  have HN : Hid (N = ps.length) := hN
  clear hfs hN
  have d1 : wr.cell? ⟨H, 1, none⟩ = some (.slice ra RN rc) := by rw [HH.out]; exact cell_of_row _ _ 1 _ _ _ HFS.out.2.1
  have o0 : wr.cell? ⟨H + 2, 0, none⟩ = some (.slice ca m cc) := by rw [HH.out]; exact cell_of_row _ _ 0 _ _ _ HFS.out.2.2.2.1
  have o1 : wr.cell? ⟨H + 2, 1, none⟩ = some (.slice av N cv) := by rw [HH.out]; exact cell_of_row _ _ 1 _ _ _ HFS.out.2.2.2.1
  have hNi : (N : Int) ≤ 8 := by omega
  by_cases hlt : k < RN ∧ N < 8
  ·have hk1 : (k : Int) < (RN : Int) := by omega
   have hk2 : (N : Int) < 8 := by omega
   have hkl : k < l.length := by rw [← HRN.out]; exact hlt.1
   obtain ⟨b, off, q, rfl, hr0, t0, t1, t2, t3, t4, t5, t6, t7⟩ := HR.out.cells k hkl
   replace t0 := upC (HB0.out.trans (HFS.out.1.mono HB0.out.size)) t0
   replace t1 := upC (HB0.out.trans (HFS.out.1.mono HB0.out.size)) t1
   replace t2 := upC (HB0.out.trans (HFS.out.1.mono HB0.out.size)) t2
   replace t3 := upC (HB0.out.trans (HFS.out.1.mono HB0.out.size)) t3
   replace t4 := upC (HB0.out.trans (HFS.out.1.mono HB0.out.size)) t4
   replace t5 := upC (HB0.out.trans (HFS.out.1.mono HB0.out.size)) t5
   replace t6 := upC (HB0.out.trans (HFS.out.1.mono HB0.out.size)) t6
   replace t7 := upC (HB0.out.trans (HFS.out.1.mono HB0.out.size)) t7
   obtain ⟨r, hrr⟩ : ∃ r, r = l[k] := ⟨_, rfl⟩
   have HRR : Hid (r ∈ l) := by rw [hrr]; exact List.getElem_mem hkl
   have HRA : Hid (RlAt w0 D r q) := by rw [hrr]; exact hr0
   rw [← hrr] at t0 t1 t2 t3 t4 t5 t6 t7
   have HMO : Hid (∀ (W w1 : World) (g cp : Nat), Below wr.heap.size wr W → w1.ownsRow w.heap.size 48 8 (.slice (some ⟨g, 0, none⟩) (N + 1) cp) (N + 1) (flR ps ++ (r.vals q).toList) → W.grownBy w1 (Value.slice av N cv).ownBlock → (r.left.cnt ≤ 400 → r.left.cnt ≤ 30) → (r.right.cnt ≤ 400 → r.right.cnt ≤ 30) →
    (w1.cell? ⟨H + 2, 1, none⟩ = some (.slice av N cv) ∧ w1.frozen? ⟨H + 2, 1, none⟩ = false) ∧ FwS w0 w D l (.slice ca K cc) (.slice (some ⟨b, off, none⟩) RN rc) (.slice ca m cc) (.slice (some ⟨g, 0, none⟩) (N + 1) cp) (ps ++ [(r, q)]) (w1.setCell ⟨H + 2, 1, none⟩ (.slice (some ⟨g, 0, none⟩) (N + 1) cp))) := fun W w1 g cp hW h1 h2 h3 h4 => by
    rw [HH.out]; exact HFS.out.more HN.out hW h1 h2 ⟨HRA.out, HRR.out, h3, h4⟩
   clear hrr hr0
   obtain ⟨la, lc, lp, lpc, ra, rcc, rp, rpc⟩ := q
   have HSL : Hid (∀ V : World, Below wr.heap.size wr V → Calls Tryd.prog 22 #[.agg #[.int .i64 r.left.op, .slice la r.left.cl.length lc, .slice lp (toL r.left.kids).length lpc]] V (SmP r.left V)) := fun V hV => by
    have hB1 := HFS.out.1.trans (hV.mono HFS.out.1.size)
    have hB := HB0.out.trans (hB1.mono HB0.out.size)
    exact small9_any D r.left la lp lc lpc _ V (HRA.out.1.later hB D) hB.size
   have HSR : Hid (∀ V : World, Below wr.heap.size wr V → Calls Tryd.prog 22 #[.agg #[.int .i64 r.right.op, .slice ra r.right.cl.length rcc, .slice rp (toL r.right.kids).length rpc]] V (SmP r.right V)) := fun V hV => by
    have hB1 := HFS.out.1.trans (hV.mono HFS.out.1.size)
    have hB := HB0.out.trans (hB1.mono HB0.out.size)
    exact small9_any D r.right ra rp rcc rpc _ V (HRA.out.2.later hB D) hB.size
   obtain ⟨lo, hlo⟩ : ∃ lo, lo = r.left.op := ⟨_, rfl⟩
   obtain ⟨ln, hln⟩ : ∃ ln, ln = r.left.cl.length := ⟨_, rfl⟩
   obtain ⟨lk, hlk⟩ : ∃ lk, lk = (toL r.left.kids).length := ⟨_, rfl⟩
   obtain ⟨ro, hro⟩ : ∃ ro, ro = r.right.op := ⟨_, rfl⟩
   obtain ⟨rn, hrn⟩ : ∃ rn, rn = r.right.cl.length := ⟨_, rfl⟩
   obtain ⟨rk, hrk⟩ : ∃ rk, rk = (toL r.right.kids).length := ⟨_, rfl⟩
   obtain ⟨st, hst⟩ : ∃ st, st = r.start := ⟨_, rfl⟩
   obtain ⟨br, hbr⟩ : ∃ br, br = r.brk := ⟨_, rfl⟩
   simp only [Rl.vals, ← hlo, ← hln, ← hlk, ← hro, ← hrn, ← hrk, ← hst, ← hbr] at HMO HSL HSR t0 t1 t2 t3 t4 t5 t6 t7
   clear hlo hln hlk hro hrn hrk hst hbr
   obtain ⟨S, hS⟩ : ∃ S, S = wr.heap.size := ⟨_, rfl⟩
   obtain ⟨W1, hW1⟩ : ∃ W1, W1 = wr.alloc (.cells #[.int .i64 lo, .slice la ln lc, .slice lp lk lpc, .int .i64 ro, .slice ra rn rcc, .slice rp rk rpc, .bool br, .bool st] 48) := ⟨_, rfl⟩
   have HB1 : Hid (Below wr.heap.size wr W1) := by rw [hW1]; exact (Below.refl _ wr).alloc (Nat.le_refl _) _
   have HX1 : Hid (W1.heap[S]? = some (.cells #[.int .i64 lo, .slice la ln lc, .slice lp lk lpc, .int .i64 ro, .slice ra rn rcc, .slice rp rk rpc, .bool br, .bool st] 48)) := by show _ = _; rw [hS, hW1]; exact heap_alloc_new wr _
   go_upto_region 6 with fail
   rw [← hS, ← hW1]
   clear hS hW1 t0 t1 t2 t3 t4 t5 t6 t7 d1 o0 o1
   obtain ⟨t0, t1, t2, t3, t4, t5, t6, t7⟩ := box8 HX1.out
   go_wp2_with fail
   refine (HSL.out W1 HB1.out).mono ?_
   rintro e W2 ⟨bL, rfl, hbL, hb2⟩
   have HB2 : Hid (Below wr.heap.size wr W2) := HB1.out.trans (hb2.mono HB1.out.size)
   have HX2 : Hid (W2.heap[S]? = some (.cells #[.int .i64 lo, .slice la ln lc, .slice lp lk lpc, .int .i64 ro, .slice ra rn rcc, .slice rp rk rpc, .bool br, .bool st] 48)) := (hb2.block S (Array.getElem?_eq_some_iff.1 HX1.out).1).trans HX1.out
   clear hb2 t0 t1 t2 t3 t4 t5 t6 t7 HX1 HB1
   cases bL with
   | false =>
     clear hbL
     go_wp2_with fail
     go_roundw
     case rel => exact ⟨k + 1, N, cv, av, ps, by omega, HN.out, by omega, by go_num, HFS.out.later HB2.out⟩
     case measure => simp [intOf]; omega
   | true =>
     have HL1 : Hid (r.left.cnt ≤ 400 → r.left.cnt ≤ 30) := hbL rfl
     clear hbL
     obtain ⟨t0, t1, t2, t3, t4, t5, t6, t7⟩ := box8 HX2.out
     go_wp2_with fail
     refine (HSR.out W2 HB2.out).mono ?_
     rintro e W3 ⟨bR, rfl, hbR, hb3⟩
     have HB3 : Hid (Below wr.heap.size wr W3) := HB2.out.trans (hb3.mono HB2.out.size)
     have HX3 : Hid (W3.heap[S]? = some (.cells #[.int .i64 lo, .slice la ln lc, .slice lp lk lpc, .int .i64 ro, .slice ra rn rcc, .slice rp rk rpc, .bool br, .bool st] 48)) := (hb3.block S (Array.getElem?_eq_some_iff.1 HX2.out).1).trans HX2.out
     clear hb3 t0 t1 t2 t3 t4 t5 t6 t7 HX2 HB2
     cases bR with
     | false =>
       clear hbR
       go_wp2_with fail
       go_roundw
       case rel => exact ⟨k + 1, N, cv, av, ps, by omega, HN.out, by omega, by go_num, HFS.out.later HB3.out⟩
       case measure => simp [intOf]; omega
     | true =>
       have HR1 : Hid (r.right.cnt ≤ 400 → r.right.cnt ≤ 30) := hbR rfl
       clear hbR
       obtain ⟨t0, t1, t2, t3, t4, t5, t6, t7⟩ := box8 HX3.out
       have HF3 : Hid (FwS w0 w D l (.slice ca K cc) (.slice (some ⟨b, off, none⟩) RN rc) (.slice ca m cc) (.slice av N cv) ps W3) := HFS.out.later HB3.out
       have o1 : W3.cell? ⟨H + 2, 1, none⟩ = some (.slice av N cv) := by rw [HH.out]; exact cell_of_row _ _ 1 _ _ _ HF3.out.2.2.2.1
       have HBA : Hid (Below W3.heap.size W3 (W3.alloc (.cells #[.int .i64 lo, .slice la ln lc, .slice lp lk lpc, .int .i64 ro, .slice ra rn rcc, .slice rp rk rpc, .bool br, .bool st] 48))) := (Below.refl _ W3).alloc (Nat.le_refl _) _
       have HOW : Hid ((W3.alloc (.cells #[.int .i64 lo, .slice la ln lc, .slice lp lk lpc, .int .i64 ro, .slice ra rn rcc, .slice rp rk rpc, .bool br, .bool st] 48)).ownsRow w.heap.size 48 8 (.slice av N cv) N (flR ps)) := by
        have := own_later5 HF3.out.2.2.2.2.1 HBA.out
        rw [← HN.out] at this
        exact this
       have HFL : Hid ((flR ps).length = N * 8) := by show _ = _; rw [flR_len, HN.out]
       go_wp2_with (at_builtin; refine wpList_append_lies _ rfl _ _ 23 rfl w.heap.size 48 j0 _ 8 120 Tryd.underlying23 HJ.out.1 HJ.out.2.1 HJ.out.2.2.1 HJ.out.2.2.2 rfl (by decide) (.slice av N cv) N (flR ps) rfl HOW.out ⟨W3.heap.size, 0, none⟩ 1 1 [.int .i64 lo, .slice la ln lc, .slice lp lk lpc, .int .i64 ro, .slice ra rn rcc, .slice rp rk rpc, .bool br, .bool st] rfl rfl (World.news_of_block (cs := #[.int .i64 lo, .slice la ln lc, .slice lp lk lpc, .int .i64 ro, .slice ra rn rcc, .slice rp rk rpc, .bool br, .bool st]) (t := 48) (fr := (0, 0)) (heap_alloc_new W3 _)) (by simp [Value.oneCell']) (by omega) (by unfold maxLen; omega) (by omega) (by have := HF3.out.1.size; simp; omega) _ rfl (fun g4 cap4 w4 q1 q2 q3 q4 => ?_); obtain ⟨⟨x1, x2⟩, hf4⟩ := HMO.out _ w4 g4 cap4 (HB3.out.trans (HBA.out.mono HB3.out.size)) q1 q2 HL1.out HR1.out; have HF4 : Hid (FwS w0 w D l (.slice ca K cc) (.slice (some ⟨b, off, none⟩) RN rc) (.slice ca m cc) (.slice (some ⟨g4, 0, none⟩) (N + 1) cap4) (ps ++ [(r, ⟨la, lc, lp, lpc, ra, rcc, rp, rpc⟩)]) (w4.setCell ⟨H + 2, 1, none⟩ (.slice (some ⟨g4, 0, none⟩) (N + 1) cap4))) := hf4; clear q1 q2 q3 q4 hf4 o1 t0 t1 t2 t3 t4 t5 t6 t7)
       go_roundw
       case rel => exact ⟨k + 1, N + 1, cap4, some ⟨g4, 0, none⟩, ps ++ [(r, ⟨la, lc, lp, lpc, ra, rcc, rp, rpc⟩)], by omega, by simp [HN.out], by omega, by go_num, HF4.out⟩
       case measure => simp [intOf]; omega
  ·have z0 : wr.cell? ⟨H + 1, 0, none⟩ = some (.slice none 0 0) := by rw [HH.out]; exact cell_of_row _ _ 0 _ _ _ HFS.out.2.2.1
   have z1 : wr.cell? ⟨H + 1, 1, none⟩ = some (.slice none 0 0) := by rw [HH.out]; exact cell_of_row _ _ 1 _ _ _ HFS.out.2.2.1
   have y0 : wr.frozen? ⟨H + 1, 0, none⟩ = false := by rw [HH.out]; exact Lib.frozen_of_heap HFS.out.2.2.1 0
   have y1 : wr.frozen? ⟨H + 1, 1, none⟩ = false := by rw [HH.out]; exact Lib.frozen_of_heap HFS.out.2.2.1 1
   have HFIN : Hid (Few9 D l ca m cc w0 w (.returned (.agg #[.slice ca m cc, .slice av N cv])) ((wr.setCell ⟨H + 1, 0, none⟩ (.slice ca m cc)).setCell ⟨H + 1, 1, none⟩ (.slice av N cv))) := by
    obtain ⟨h1, h2, h3, h4, h5, h6⟩ := HFS.out
    have hg := grown_all (grown_cell wr (H + 1) 0 (Value.slice ca m cc)) (grown_cell _ (H + 1) 1 (Value.slice av N cv))
    refine ⟨h1.grown hg h1.size (fun y hy => by cases hy; have := HH.out; omega), ps, av, cv, by rw [← HN.out], by rw [← HN.out]; exact hN8, h6, ?_⟩
    rw [← HN.out] at h5 ⊢
    refine h5.kept hg ?_
    cases hx : (Value.slice av N cv).ownBlock with
    | none => exact .inl rfl
    | some g =>
      refine .inr fun e => ?_
      obtain ⟨_, _, cur, hc⟩ := own_lt h5 hx
      cases e
      rw [HH.out] at hc
      exact ne_ty hc h3 (by decide) rfl
   by_cases hkR : k < RN
   ·have hk1 : (k : Int) < (RN : Int) := by omega
    have hk2 : ¬ (N : Int) < 8 := by omega
    go_wp2
    refine bodyPost_ret (v := .agg #[.slice ca m cc, .slice av N cv]) ?_ rfl HFIN.out
    rw [results_cell_one rfl]
    go_simp
   ·have hk1 : ¬ (k : Int) < (RN : Int) := by omega
    go_wp2
    refine bodyPost_ret (v := .agg #[.slice ca m cc, .slice av N cv]) ?_ rfl HFIN.out
    rw [results_cell_one rfl]
    go_simp
end Go.Proofs.YtcafffohnokjgaaDoor
