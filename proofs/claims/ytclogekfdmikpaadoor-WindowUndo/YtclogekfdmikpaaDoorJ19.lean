/- The walk of step, whole. -/
import Derived.Test.YtclogekfdmikpaaDoorJ17
import Derived.Deep.CutBlock
namespace Go.Proofs.YtclogekfdmikpaaDoor
open Go.RowKit Go.Shelf
set_option linter.unusedVariables false
set_option linter.unusedSimpArgs false
attribute [local go_sem] Oper.semAt_some

set_option maxRecDepth 100000 in
set_option maxHeartbeats 8000000 in
theorem step_true (w : World) (bp : Nat) (s : Sp) (l : Pl) (x : Nat × Bool) (c : Nat) (hc : c < 24) (hT : TabD w) (h : PlanR w bp s true l) :
 Calls Tryd.prog 66 #[.pointer (some ⟨bp, 0, none⟩), spV x, .int .i64 (c : Int)] w fun e w' => e = .returned (spV (stepS true s l x (Int.ofNat c))) ∧ Below w.heap.size w w' := by
 obtain ⟨S, b⟩ := x
 obtain ⟨n0, cs, v, hp, hpc⟩ := h.at_
 have HP : Hid (PlanAt n0 w bp cs v true l) := hp
 have HPC : Hid (PlanC cs s true l) := hpc
 have HTD : Hid (TabD w) := hT
 have HR : Hid (PlanR w bp s true l) := h
 obtain ⟨wA, hwA⟩ : ∃ wA, wA = (((w.alloc (.cells #[.pointer (some ⟨bp, 0, none⟩)] 114)).alloc (.cells #[.int .u64 (nw S 0 : Int), .int .u64 (nw S 1 : Int), .int .u64 (nw S 2 : Int), .int .u64 (nw S 3 : Int), .int .u64 (nw S 4 : Int), .int .u64 (nw S 5 : Int), .int .u64 (nw S 6 : Int), .bool b] 122)).alloc (.cells #[.int .u64 0, .int .u64 0, .int .u64 0, .int .u64 0, .int .u64 0, .int .u64 0, .int .u64 0, .bool false] 122)).alloc (.cells #[.int .u64 0, .int .u64 0, .int .u64 0, .int .u64 0, .int .u64 0, .int .u64 0, .int .u64 0, .bool false] 122) := ⟨_, rfl⟩
 obtain ⟨H, hH⟩ : ∃ H, H = w.heap.size := ⟨_, rfl⟩
 have hBA : Below w.heap.size w wA := by rw [hwA]; exact ((((Below.refl _ w).alloc (Nat.le_refl _) _).alloc (by simp) _).alloc (by simp; omega) _).alloc (by simp; omega) _
 have HBA : Hid (Below w.heap.size w wA) := hBA
 have HH : Hid (H = w.heap.size) := hH
 have HA : Hid (wA.heap[H]? = some (.cells #[.pointer (some ⟨bp, 0, none⟩)] 114) ∧ wA.heap[H + 1]? = some (.cells (spC S b) 122) ∧ wA.heap[H + 2]? = some (.cells (spC 0 false) 122) ∧ wA.heap[H + 3]? = some (.cells (spC 0 false) 122)) := by
  have hz : spC 0 false = #[.int .u64 0, .int .u64 0, .int .u64 0, .int .u64 0, .int .u64 0, .int .u64 0, .int .u64 0, .bool false] := by simp [spC, nwV, nw_zero]
  rw [hwA, hH, hz]
  refine ⟨?_, ?_, ?_, ?_⟩
  ·exact four_0 w _ _ _ _
  ·exact four_1 w _ _ _ _
  ·exact four_2 w _ _ _ _
  ·exact four_3 w _ _ _ _
 have HPA : Hid (PlanAt n0 wA bp cs v true l) := hp.later hBA
 have HBPA : Hid (wA.heap[bp]? = some (.cells cs 142)) := HPA.out.blk
 obtain ⟨va, vc, hv⟩ := own_sl1 hp.own
 subst hv
 have hci : (c : Int) < 24 := by omega
 obtain ⟨U, hU⟩ : ∃ U, U = tkM (Int.ofNat c) l 0 := ⟨_, rfl⟩
 have HU : Hid (U = tkM (Int.ofNat c) l 0) := hU
 have HTK : Hid (NsIn cs (16 + c * 7) U) := by rw [hU]; exact hp.tk c hc
 have HAND : Hid (∀ (X Y : Nat) (W : World), Calls Tryd.prog 81 #[.agg #[.int .u64 (nw X 0 : Int), .int .u64 (nw X 1 : Int), .int .u64 (nw X 2 : Int), .int .u64 (nw X 3 : Int), .int .u64 (nw X 4 : Int), .int .u64 (nw X 5 : Int), .int .u64 (nw X 6 : Int)], .agg #[.int .u64 (nw Y 0 : Int), .int .u64 (nw Y 1 : Int), .int .u64 (nw Y 2 : Int), .int .u64 (nw Y 3 : Int), .int .u64 (nw Y 4 : Int), .int .u64 (nw Y 5 : Int), .int .u64 (nw Y 6 : Int)]] W fun e w' => e = .returned (.agg #[.int .u64 (nw (X &&& Y) 0 : Int), .int .u64 (nw (X &&& Y) 1 : Int), .int .u64 (nw (X &&& Y) 2 : Int), .int .u64 (nw (X &&& Y) 3 : Int), .int .u64 (nw (X &&& Y) 4 : Int), .int .u64 (nw (X &&& Y) 5 : Int), .int .u64 (nw (X &&& Y) 6 : Int)]) ∧ Below W.heap.size W w') := fun X Y W => and_any X Y W
 clear hp hpc hT h hBA hU
 refine callsIn_wide.1 (callsIn_of_wp_marks (n := 3) Tryd.func66 rfl trivial (wpIn_wide.2 ?_) rfl)
 simp only [Tryd.ntmps66, List.size_toArray, List.length_cons, List.length_nil, Nat.reduceAdd, Nat.reduceSub, Array.replicate_succ, Array.replicate_zero, List.push_toArray, List.append_toArray, List.nil_append, List.cons_append]
 show Code.wp _ _ _ _ _
 unfold spV
 unfold nwV
 go_upto_region 2 with fail
 rw [← hH, ← hwA]
 clear hH hwA
 obtain ⟨T, hTT⟩ : ∃ T, T = H + 1 + 1 + 1 := ⟨_, rfl⟩
 obtain ⟨G, hGG⟩ : ∃ G, G = H + 1 + 1 := ⟨_, rfl⟩
 have HTG : Hid (T = H + 3 ∧ G = H + 2) := ⟨by omega, by omega⟩
 rw [← hTT, ← hGG]
 have HA0 := HA.out
 rw [show H + 2 = G by omega, show H + 3 = T by omega] at HA0
 clear hTT hGG HA
 have HA : Hid (wA.heap[H]? = some (.cells #[.pointer (some ⟨bp, 0, none⟩)] 114) ∧ wA.heap[H + 1]? = some (.cells (spC S b) 122) ∧ wA.heap[G]? = some (.cells (spC 0 false) 122) ∧ wA.heap[T]? = some (.cells (spC 0 false) 122)) := HA0
 clear HA0
 have h0 : wA.cell? ⟨H, 0, none⟩ = some (.pointer (some ⟨bp, 0, none⟩)) := cell_of_row wA H 0 _ _ _ HA.out.1
 have h15 : wA.cell? ⟨bp, 15, none⟩ = some (.bool true) := (cell_of_row wA bp 15 _ _ _ HBPA.out).trans HP.out.wh
 obtain ⟨wB, hwB⟩ : ∃ wB, wB = wA := ⟨_, rfl⟩
 go_upto_region 4 with fail
 rw [← hwB] at HA HBA ⊢
 have HBB : Hid (Below w.heap.size w wB) := HBA.out
 have HTB : Hid (wB.heap[T]? = some (.cells (spC 0 false) 122)) := HA.out.2.2.2
 have HMB : Hid (wB.heap[H]? = some (.cells #[.pointer (some ⟨bp, 0, none⟩)] 114) ∧ wB.heap[H + 1]? = some (.cells (spC S b) 122) ∧ wB.heap[G]? = some (.cells (spC 0 false) 122)) := ⟨HA.out.1, HA.out.2.1, HA.out.2.2.1⟩
 clear hwB h0 h15
 have HPB : Hid (PlanAt n0 wB bp cs (.slice va l.length vc) true l) := HP.out.later HBB.out
 have h0 : wB.cell? ⟨H, 0, none⟩ = some (.pointer (some ⟨bp, 0, none⟩)) := cell_of_row wB H 0 _ _ _ HMB.out.1
 have a0 : wB.cell? ⟨H + 1, 0, none⟩ = some (.int .u64 (nw S 0 : Int)) := cell_of_row wB (H + 1) 0 _ _ _ HMB.out.2.1
 have b0 : wB.cell? ⟨bp, 16 + c * 7, none⟩ = some (.int .u64 (nw U 0 : Int)) := (cell_of_row wB bp (16 + c * 7 + 0) _ _ _ HPB.out.blk).trans (HTK.out 0 (by omega))
 have a1 : wB.cell? ⟨H + 1, 1, none⟩ = some (.int .u64 (nw S 1 : Int)) := cell_of_row wB (H + 1) 1 _ _ _ HMB.out.2.1
 have b1 : wB.cell? ⟨bp, 16 + c * 7 + 1, none⟩ = some (.int .u64 (nw U 1 : Int)) := (cell_of_row wB bp (16 + c * 7 + 1) _ _ _ HPB.out.blk).trans (HTK.out 1 (by omega))
 have a2 : wB.cell? ⟨H + 1, 2, none⟩ = some (.int .u64 (nw S 2 : Int)) := cell_of_row wB (H + 1) 2 _ _ _ HMB.out.2.1
 have b2 : wB.cell? ⟨bp, 16 + c * 7 + 2, none⟩ = some (.int .u64 (nw U 2 : Int)) := (cell_of_row wB bp (16 + c * 7 + 2) _ _ _ HPB.out.blk).trans (HTK.out 2 (by omega))
 have a3 : wB.cell? ⟨H + 1, 3, none⟩ = some (.int .u64 (nw S 3 : Int)) := cell_of_row wB (H + 1) 3 _ _ _ HMB.out.2.1
 have b3 : wB.cell? ⟨bp, 16 + c * 7 + 3, none⟩ = some (.int .u64 (nw U 3 : Int)) := (cell_of_row wB bp (16 + c * 7 + 3) _ _ _ HPB.out.blk).trans (HTK.out 3 (by omega))
 have a4 : wB.cell? ⟨H + 1, 4, none⟩ = some (.int .u64 (nw S 4 : Int)) := cell_of_row wB (H + 1) 4 _ _ _ HMB.out.2.1
 have b4 : wB.cell? ⟨bp, 16 + c * 7 + 4, none⟩ = some (.int .u64 (nw U 4 : Int)) := (cell_of_row wB bp (16 + c * 7 + 4) _ _ _ HPB.out.blk).trans (HTK.out 4 (by omega))
 have a5 : wB.cell? ⟨H + 1, 5, none⟩ = some (.int .u64 (nw S 5 : Int)) := cell_of_row wB (H + 1) 5 _ _ _ HMB.out.2.1
 have b5 : wB.cell? ⟨bp, 16 + c * 7 + 5, none⟩ = some (.int .u64 (nw U 5 : Int)) := (cell_of_row wB bp (16 + c * 7 + 5) _ _ _ HPB.out.blk).trans (HTK.out 5 (by omega))
 have a6 : wB.cell? ⟨H + 1, 6, none⟩ = some (.int .u64 (nw S 6 : Int)) := cell_of_row wB (H + 1) 6 _ _ _ HMB.out.2.1
 have b6 : wB.cell? ⟨bp, 16 + c * 7 + 6, none⟩ = some (.int .u64 (nw U 6 : Int)) := (cell_of_row wB bp (16 + c * 7 + 6) _ _ _ HPB.out.blk).trans (HTK.out 6 (by omega))
 have HUP : Hid (∀ W : World, Below wB.heap.size wB W → W.cell? ⟨H, 0, none⟩ = some (.pointer (some ⟨bp, 0, none⟩)) ∧ W.cell? ⟨H + 1, 0, none⟩ = some (.int .u64 (nw S 0 : Int)) ∧ W.cell? ⟨H + 1, 1, none⟩ = some (.int .u64 (nw S 1 : Int)) ∧ W.cell? ⟨H + 1, 2, none⟩ = some (.int .u64 (nw S 2 : Int)) ∧ W.cell? ⟨H + 1, 3, none⟩ = some (.int .u64 (nw S 3 : Int)) ∧ W.cell? ⟨H + 1, 4, none⟩ = some (.int .u64 (nw S 4 : Int)) ∧ W.cell? ⟨H + 1, 5, none⟩ = some (.int .u64 (nw S 5 : Int)) ∧ W.cell? ⟨H + 1, 6, none⟩ = some (.int .u64 (nw S 6 : Int)) ∧ W.cell? ⟨bp, 16 + c * 7, none⟩ = some (.int .u64 (nw U 0 : Int)) ∧ W.cell? ⟨bp, 16 + c * 7 + 1, none⟩ = some (.int .u64 (nw U 1 : Int)) ∧ W.cell? ⟨bp, 16 + c * 7 + 2, none⟩ = some (.int .u64 (nw U 2 : Int)) ∧ W.cell? ⟨bp, 16 + c * 7 + 3, none⟩ = some (.int .u64 (nw U 3 : Int)) ∧ W.cell? ⟨bp, 16 + c * 7 + 4, none⟩ = some (.int .u64 (nw U 4 : Int)) ∧ W.cell? ⟨bp, 16 + c * 7 + 5, none⟩ = some (.int .u64 (nw U 5 : Int)) ∧ W.cell? ⟨bp, 16 + c * 7 + 6, none⟩ = some (.int .u64 (nw U 6 : Int))) := fun W hW => ⟨upC hW h0, upC hW a0, upC hW a1, upC hW a2, upC hW a3, upC hW a4, upC hW a5, upC hW a6, upC hW b0, upC hW b1, upC hW b2, upC hW b3, upC hW b4, upC hW b5, upC hW b6⟩
 have HD : Hid (Below wB.heap.size wB wB.drew) := (Below.refl _ _).drew
 have HDA : Hid (Below wB.heap.size wB (wB.drew.alloc (.cells #[.int .u64 0, .int .u64 0, .int .u64 0, .int .u64 0, .int .u64 0, .int .u64 0, .int .u64 0] 120))) := HD.out.alloc HD.out.size _
 have HDB : Hid (Below wB.heap.size wB (wB.alloc (.cells #[.int .u64 0, .int .u64 0, .int .u64 0, .int .u64 0, .int .u64 0, .int .u64 0, .int .u64 0] 120)).drew) := ((Below.refl _ wB).alloc (Nat.le_refl _) _).drew
 go_cut [8] from 17 to 25 (fun x8 wx => ∃ Y, x8 = .pointer (some ⟨Y, 0, none⟩) ∧ wx.heap[Y]? = some (.cells (nsA (S &&& U)) 120) ∧ Below wB.heap.size wB wx ∧ wB.heap.size ≤ Y)
 case first =>
  refine wp_region_noPanic ?_
  refine wp_region_held_drew (S := fun w' => Below wB.heap.size wB w') (by kernel_rfl) HD.out (fun hHeld => ?_)
  refine wpAnyH_take (i := 0) (v := ?_) rfl (by kernel_rfl) (by kernel_rfl) (by kernel_rfl) (fun _ _ _ h => h) (Or.inl ⟨by rfl, ?_⟩) (by assumption) ?_
  rotate_left
  ·intro w hSw; obtain ⟨c_h, c_a0, c_a1, c_a2, c_a3, c_a4, c_a5, c_a6, c_b0, c_b1, c_b2, c_b3, c_b4, c_b5, c_b6⟩ := HUP.out w hSw; clear hSw; go_simp; try with_reducible rfl
  try simp only [Act.put, List.setIfInBounds_toArray, List.set_cons_zero, List.set_cons_succ]
  refine wpAnyH_take (i := 1) (v := ?_) rfl (by kernel_rfl) (by kernel_rfl) (by kernel_rfl) (fun _ _ _ h => h) (Or.inl ⟨by rfl, ?_⟩) (by assumption) ?_
  rotate_left
  ·intro w hSw; obtain ⟨c_h, c_a0, c_a1, c_a2, c_a3, c_a4, c_a5, c_a6, c_b0, c_b1, c_b2, c_b3, c_b4, c_b5, c_b6⟩ := HUP.out w hSw; clear hSw; go_simp; try with_reducible rfl
  try simp only [Act.put, List.setIfInBounds_toArray, List.set_cons_zero, List.set_cons_succ]
  refine wpAnyH_take (i := 2) (v := ?_) rfl (by kernel_rfl) (by kernel_rfl) (by kernel_rfl) (fun _ _ _ h => h) (Or.inl ⟨by rfl, ?_⟩) (by assumption) ?_
  rotate_left
  ·intro w hSw; obtain ⟨c_h, c_a0, c_a1, c_a2, c_a3, c_a4, c_a5, c_a6, c_b0, c_b1, c_b2, c_b3, c_b4, c_b5, c_b6⟩ := HUP.out w hSw; clear hSw; go_simp; try with_reducible rfl
  try simp only [Act.put, List.setIfInBounds_toArray, List.set_cons_zero, List.set_cons_succ]
  refine wpAnyH_take (i := 3) (v := ?_) rfl (by kernel_rfl) (by kernel_rfl) (by kernel_rfl) (fun _ _ _ h => h) (Or.inl ⟨by rfl, ?_⟩) (by assumption) ?_
  rotate_left
  ·intro w hSw; obtain ⟨c_h, c_a0, c_a1, c_a2, c_a3, c_a4, c_a5, c_a6, c_b0, c_b1, c_b2, c_b3, c_b4, c_b5, c_b6⟩ := HUP.out w hSw; clear hSw; go_simp; try with_reducible rfl
  try simp only [Act.put, List.setIfInBounds_toArray, List.set_cons_zero, List.set_cons_succ]
  refine wpAnyH_take (i := 4) (v := ?_) rfl (by kernel_rfl) (by kernel_rfl) (by kernel_rfl) (fun _ _ _ h => h) (Or.inl ⟨by rfl, ?_⟩) (by assumption) ?_
  rotate_left
  ·intro w hSw; obtain ⟨c_h, c_a0, c_a1, c_a2, c_a3, c_a4, c_a5, c_a6, c_b0, c_b1, c_b2, c_b3, c_b4, c_b5, c_b6⟩ := HUP.out w hSw; clear hSw; go_simp; try with_reducible rfl
  try simp only [Act.put, List.setIfInBounds_toArray, List.set_cons_zero, List.set_cons_succ]
  refine wpAnyH_take (i := 5) (v := ?_) rfl (by kernel_rfl) (by kernel_rfl) (by kernel_rfl) (fun _ _ _ h => h) (Or.inl ⟨by rfl, ?_⟩) (by assumption) ?_
  rotate_left
  ·intro w hSw; obtain ⟨c_h, c_a0, c_a1, c_a2, c_a3, c_a4, c_a5, c_a6, c_b0, c_b1, c_b2, c_b3, c_b4, c_b5, c_b6⟩ := HUP.out w hSw; clear hSw; go_simp; try with_reducible rfl
  try simp only [Act.put, List.setIfInBounds_toArray, List.set_cons_zero, List.set_cons_succ]
  refine wpAnyH_take (i := 6) (v := ?_) rfl (by kernel_rfl) (by kernel_rfl) (by kernel_rfl) (fun _ _ _ h => h) (Or.inl ⟨by rfl, ?_⟩) (by assumption) ?_
  rotate_left
  ·intro w hSw; obtain ⟨c_h, c_a0, c_a1, c_a2, c_a3, c_a4, c_a5, c_a6, c_b0, c_b1, c_b2, c_b3, c_b4, c_b5, c_b6⟩ := HUP.out w hSw; clear hSw; go_simp; try with_reducible rfl
  try simp only [Act.put, List.setIfInBounds_toArray, List.set_cons_zero, List.set_cons_succ]
  refine wpAnyH_take (i := 7) (v := ?_) rfl (by kernel_rfl) (by kernel_rfl) (by kernel_rfl) (fun _ _ _ h => h) (Or.inl ⟨by rfl, ?_⟩) (by assumption) ?_
  rotate_left
  ·intro w hSw; obtain ⟨c_h, c_a0, c_a1, c_a2, c_a3, c_a4, c_a5, c_a6, c_b0, c_b1, c_b2, c_b3, c_b4, c_b5, c_b6⟩ := HUP.out w hSw; clear hSw; go_simp; try with_reducible rfl
  try simp only [Act.put, List.setIfInBounds_toArray, List.set_cons_zero, List.set_cons_succ]
  refine wpAnyH_ready (rs := [8, 9]) (by kernel_rfl) (by simp) ?_
  refine AllReadyH.cons rfl (fun K hK => ?_) ?_
  ·go_simp
   refine (HAND.out S U _).mono ?_
   rintro e w2 ⟨rfl, hb2⟩
   have HB2 : Hid (Below wB.heap.size wB w2) := HD.out.trans (hb2.mono HD.out.size)
   go_simp
   refine hK.out _ _ HB2.out (fun hHeld => ?_)
   clear hK K hb2
   try simp only [Act.put, List.setIfInBounds_toArray, List.set_cons_zero, List.set_cons_succ]
   refine wpAnyH_ready (rs := [9]) (by kernel_rfl) (by simp) ?_
   refine AllReadyH.cons rfl (fun K hK => ?_) AllReadyH.nil
   go_simp
   refine hK.out _ _ (HB2.out.alloc HB2.out.size _) (fun hHeld => ?_)
   clear hK K
   try simp only [Act.put, List.setIfInBounds_toArray, List.set_cons_zero, List.set_cons_succ]
   refine wpAnyH_ready (rs := [10]) (by kernel_rfl) (by simp) ?_
   refine AllReadyH.cons rfl (fun K hK => ?_) AllReadyH.nil
   go_simp
   refine hK.out _ _ (HB2.out.alloc HB2.out.size _) (fun hHeld => ?_)
   clear hK K
   try simp only [Act.put, List.setIfInBounds_toArray, List.set_cons_zero, List.set_cons_succ]
   refine wpAnyH_done (by kernel_rfl) ?_ _
   refine NoPanic.normal ?_
   go_wp2_with fail
   go_meet
   exact ⟨_, rfl, heap_alloc_new w2 _, HB2.out.alloc HB2.out.size _, HB2.out.size⟩
  refine AllReadyH.cons rfl (fun K hK => ?_) AllReadyH.nil
  go_simp
  refine hK.out _ _ HDB.out (fun hHeld => ?_)
  clear hK K
  try simp only [Act.put, List.setIfInBounds_toArray, List.set_cons_zero, List.set_cons_succ]
  refine wpAnyH_ready (rs := [8]) (by kernel_rfl) (by simp) ?_
  refine AllReadyH.cons rfl (fun K hK => ?_) AllReadyH.nil
  go_simp
  refine (HAND.out S U _).mono ?_
  rintro e w2 ⟨rfl, hb2⟩
  have HB2 : Hid (Below wB.heap.size wB w2) := HDB.out.trans (hb2.mono HDB.out.size)
  have HZB : Hid (w2.heap[wB.heap.size]? = some (.cells #[.int .u64 0, .int .u64 0, .int .u64 0, .int .u64 0, .int .u64 0, .int .u64 0, .int .u64 0] 120)) := (hb2.block wB.heap.size (by simp)).trans (heap_alloc_new wB _)
  obtain ⟨k0, k1, k2, k3, k4, k5, k6, z0, z1, z2, z3, z4, z5, z6⟩ := ns_cells HZB.out
  have HST : Hid (Below wB.heap.size wB ((((((((w2).setCell ⟨wB.heap.size, 0, none⟩ (.int .u64 (nw (S &&& U) 0 : Int))).setCell ⟨wB.heap.size, 1, none⟩ (.int .u64 (nw (S &&& U) 1 : Int))).setCell ⟨wB.heap.size, 2, none⟩ (.int .u64 (nw (S &&& U) 2 : Int))).setCell ⟨wB.heap.size, 3, none⟩ (.int .u64 (nw (S &&& U) 3 : Int))).setCell ⟨wB.heap.size, 4, none⟩ (.int .u64 (nw (S &&& U) 4 : Int))).setCell ⟨wB.heap.size, 5, none⟩ (.int .u64 (nw (S &&& U) 5 : Int))).setCell ⟨wB.heap.size, 6, none⟩ (.int .u64 (nw (S &&& U) 6 : Int)))) := ((((((((((((((HB2.out).setCell (p := ⟨wB.heap.size, 0, none⟩) (Nat.le_refl _) _)).setCell (p := ⟨wB.heap.size, 1, none⟩) (Nat.le_refl _) _)).setCell (p := ⟨wB.heap.size, 2, none⟩) (Nat.le_refl _) _)).setCell (p := ⟨wB.heap.size, 3, none⟩) (Nat.le_refl _) _)).setCell (p := ⟨wB.heap.size, 4, none⟩) (Nat.le_refl _) _)).setCell (p := ⟨wB.heap.size, 5, none⟩) (Nat.le_refl _) _)).setCell (p := ⟨wB.heap.size, 6, none⟩) (Nat.le_refl _) _)
  have HSH : Hid (((((((((w2).setCell ⟨wB.heap.size, 0, none⟩ (.int .u64 (nw (S &&& U) 0 : Int))).setCell ⟨wB.heap.size, 1, none⟩ (.int .u64 (nw (S &&& U) 1 : Int))).setCell ⟨wB.heap.size, 2, none⟩ (.int .u64 (nw (S &&& U) 2 : Int))).setCell ⟨wB.heap.size, 3, none⟩ (.int .u64 (nw (S &&& U) 3 : Int))).setCell ⟨wB.heap.size, 4, none⟩ (.int .u64 (nw (S &&& U) 4 : Int))).setCell ⟨wB.heap.size, 5, none⟩ (.int .u64 (nw (S &&& U) 5 : Int))).setCell ⟨wB.heap.size, 6, none⟩ (.int .u64 (nw (S &&& U) 6 : Int))).heap[wB.heap.size]? = some (.cells (nsA (S &&& U)) 120)) := (heap_setCell_same _ wB.heap.size 6 _ _ _ (heap_setCell_same _ wB.heap.size 5 _ _ _ (heap_setCell_same _ wB.heap.size 4 _ _ _ (heap_setCell_same _ wB.heap.size 3 _ _ _ (heap_setCell_same _ wB.heap.size 2 _ _ _ (heap_setCell_same _ wB.heap.size 1 _ _ _ (heap_setCell_same _ wB.heap.size 0 _ _ _ HZB.out)))))))
  go_simp
  refine hK.out _ _ HB2.out (fun hHeld => ?_)
  clear hK K hb2
  try simp only [Act.put, List.setIfInBounds_toArray, List.set_cons_zero, List.set_cons_succ]
  refine wpAnyH_ready (rs := [10]) (by kernel_rfl) (by simp) ?_
  refine AllReadyH.cons rfl (fun K hK => ?_) AllReadyH.nil
  go_simp
  refine hK.out _ _ HST.out (fun hHeld => ?_)
  clear hK K
  try simp only [Act.put, List.setIfInBounds_toArray, List.set_cons_zero, List.set_cons_succ]
  refine wpAnyH_done (by kernel_rfl) ?_ _
  refine NoPanic.normal ?_
  go_wp2_with fail
  go_meet
  exact ⟨_, rfl, HSH.out, HST.out, Nat.le_refl _⟩
 case rest =>
  obtain ⟨Y, hx8, hyb, hbc, hYl⟩ := hcut
  subst hx8
  obtain ⟨w3, hw3⟩ : ∃ W, W = wc := ⟨_, rfl⟩
  rw [← hw3] at hyb hbc ⊢
  clear hw3 HUP HD HDA HDB h0 a0 b0 a1 b1 a2 b2 a3 b3 a4 b4 a5 b5 a6 b6
  obtain ⟨V, hV⟩ : ∃ V, V = S &&& U := ⟨_, rfl⟩
  rw [← hV] at hyb
  have HV : Hid (V = S &&& U) := hV
  have HY : Hid (w3.heap[Y]? = some (.cells (nsA V) 120)) := hyb
  have HB3 : Hid (Below w.heap.size w w3) := HBB.out.trans (hbc.mono HBB.out.size)
  have HM3 : Hid (w3.heap[H]? = some (.cells #[.pointer (some ⟨bp, 0, none⟩)] 114) ∧ w3.heap[G]? = some (.cells (spC 0 false) 122)) := ⟨(hbc.block H (Array.getElem?_eq_some_iff.1 HMB.out.1).1).trans HMB.out.1, (hbc.block G (Array.getElem?_eq_some_iff.1 HMB.out.2.2).1).trans HMB.out.2.2⟩
  have HT3 : Hid (w3.heap[T]? = some (.cells (spC 0 false) 122)) := (hbc.block T (Array.getElem?_eq_some_iff.1 HTB.out).1).trans HTB.out
  have HP3 : Hid (PlanAt n0 w3 bp cs (.slice va l.length vc) true l) := HPB.out.later hbc
  have HTW : Hid (w.heap.size ≤ T ∧ w.heap.size ≤ G) := by have := HTG.out; have := HH.out; exact ⟨by omega, by omega⟩
  have HVL : Hid (∀ p, V.testBit p = true → p < l.length) := fun p hp => by
   rw [HV.out, Nat.testBit_and, Bool.and_eq_true, HU.out] at hp
   exact tkM_lt _ _ _ hp.2
  have hmf : ∀ (fn : Fn) (first cap : Array Value) (w : World), (Instr.makeFunc fn first cap).run Tryd.prog w = .ok (.func fn first cap) w := fun _ _ _ _ => rfl
  clear hyb hbc hYl hV
  have y0 : w3.cell? ⟨Y, 0, none⟩ = some (.int .u64 (nw V 0 : Int)) := cell_of_row w3 Y 0 _ _ _ HY.out
  have y1 : w3.cell? ⟨Y, 1, none⟩ = some (.int .u64 (nw V 1 : Int)) := cell_of_row w3 Y 1 _ _ _ HY.out
  have y2 : w3.cell? ⟨Y, 2, none⟩ = some (.int .u64 (nw V 2 : Int)) := cell_of_row w3 Y 2 _ _ _ HY.out
  have y3 : w3.cell? ⟨Y, 3, none⟩ = some (.int .u64 (nw V 3 : Int)) := cell_of_row w3 Y 3 _ _ _ HY.out
  have y4 : w3.cell? ⟨Y, 4, none⟩ = some (.int .u64 (nw V 4 : Int)) := cell_of_row w3 Y 4 _ _ _ HY.out
  have y5 : w3.cell? ⟨Y, 5, none⟩ = some (.int .u64 (nw V 5 : Int)) := cell_of_row w3 Y 5 _ _ _ HY.out
  have y6 : w3.cell? ⟨Y, 6, none⟩ = some (.int .u64 (nw V 6 : Int)) := cell_of_row w3 Y 6 _ _ _ HY.out
  obtain ⟨VV, hVV⟩ : ∃ VV, VV = Value.agg (nsA V) := ⟨_, rfl⟩
  have HVV : Hid (VV = Value.agg (nsA V)) := hVV
  go_wp2
  rw [show Value.agg #[.int .u64 (nw V 0 : Int), .int .u64 (nw V 1 : Int), .int .u64 (nw V 2 : Int), .int .u64 (nw V 3 : Int), .int .u64 (nw V 4 : Int), .int .u64 (nw V 5 : Int), .int .u64 (nw V 6 : Int)] = VV from hVV.symm]
  clear hVV y0 y1 y2 y3 y4 y5 y6
  refine wp_each V (by rw [← HVV.out]; rfl) (fun pre W => w3.grownBy W (some T) ∧ W.heap[T]? = some (.cells (spC (unF l (0) pre) false) 122)) ?own ?tab ?start
   (fun x => { tmps := #[.pointer (some ⟨bp, 0, none⟩), .agg #[.int .u64 (nw S 0 : Int), .int .u64 (nw S 1 : Int), .int .u64 (nw S 2 : Int), .int .u64 (nw S 3 : Int), .int .u64 (nw S 4 : Int), .int .u64 (nw S 5 : Int), .int .u64 (nw S 6 : Int), .bool b], .int .i64 (c : Int), .pointer (some ⟨H, 0, none⟩), .pointer (some ⟨H + 1, 0, none⟩), undef, .pointer (some ⟨G, 0, none⟩), .pointer (some ⟨T, 0, none⟩), .pointer (some ⟨Y, 0, none⟩), .int .i64 (x : Int), .pointer (some ⟨bp, 0, none⟩), .pointer (some ⟨bp, 0, none⟩), .pointer (some ⟨bp, 15, none⟩), .bool true, .bool false, undef, undef, u17, u18, u19, u20, u21, u22, u23, u24, u25, VV, .func (.func 82) #[VV] #[], .int .i64 (x : Int), undef, undef, undef, undef, undef, undef, undef, undef, undef, undef, undef, undef, undef, undef, undef, undef, undef, undef, undef], defers := [] }) ?assign ?body ?done
  case own =>
   rintro pre X B row ⟨h1, h2⟩ hgr hr
   have hlt := (Array.getElem?_eq_some_iff.1 HT3.out).1
   refine ⟨⟨hgr.os.trans h1.os, hgr.tape.trans h1.tape, hgr.output.trans h1.output, Nat.le_trans h1.size hgr.size, fun k hk hn => ?_⟩, ?_⟩
   ·exact (hgr.block k (Nat.lt_of_lt_of_le hk h1.size) (fun e => by have := (hr k e.symm).1; omega)).trans (h1.block k hk hn)
   ·exact (hgr.block T (Nat.lt_of_lt_of_le hlt h1.size) (fun e => by have := (hr T e.symm).1; omega)).trans h2
  case tab =>
   rintro pre W ⟨h1, h2⟩ j hj
   have hc := HTD.out j hj
   have hlt := World.block_lt_of_cell? w _ hc
   refine (cell_same ?_).trans ((HB3.out.cell hlt).trans hc)
   refine h1.block _ (Nat.lt_of_lt_of_le hlt HB3.out.size) (fun e => ?_)
   have h3 := Option.some.inj e
   have h4 : (⟨0, j, none⟩ : Addr).block < w.heap.size := hlt
   have := HTW.out.1
   omega
  case start => exact ⟨grown_refl _ _, HT3.out⟩
  case assign =>
   intro l x W K hK
   gi_wp2
   exact hK
  case body =>
   rintro ll pre x W hx hSx ⟨hgr, hTb⟩
   have hxl : x < l.length := HVL.out x hSx
   obtain ⟨n, hn⟩ : ∃ n, n = l.length := ⟨_, rfl⟩
   have hle : n ≤ 448 := by rw [hn]; exact HP3.out.few
   have HPW : Hid (PlanAt n0 W bp cs (.slice va l.length vc) true l) := HP3.out.kept hgr HT3.out (by decide) (by decide)
   have HTB : Hid (W.heap[T]? = some (.cells (spC (unF l (0) pre) false) 122)) := hTb
   have HGR : Hid (w3.grownBy W (some T)) := hgr
   obtain ⟨g, hva⟩ : ∃ g, va = some ⟨g, 0, none⟩ := by
    rcases HPW.out.own.2 with ⟨_, h0⟩ | ⟨g, _, _, hv, _⟩
    ·omega
    ·cases hv; exact ⟨g, rfl⟩
   subst hva
   obtain ⟨hg1, hg2, cur, hcur⟩ := own_lt HPW.out.own (g := g) rfl
   have hHW := (hgr.block H (Array.getElem?_eq_some_iff.1 HM3.out.1).1 (fun e => by have := Option.some.inj e; have := HTG.out.1; omega)).trans HM3.out.1
   have c0 : W.cell? ⟨H, 0, none⟩ = some (.pointer (some ⟨bp, 0, none⟩)) := cell_of_row W H 0 _ _ _ hHW
   have c1 : W.cell? ⟨bp, 184, none⟩ = some (.slice (some ⟨g, 0, none⟩) n vc) := by
    rw [hn]
    exact (cell_of_row W bp 184 _ _ _ HPW.out.blk).trans HPW.out.beh
   have hns : NsIn cur (x * 7) l[x].2 := fun i hi => by
    rcases HPW.out.own.2 with ⟨hv, _⟩ | ⟨g', cap', cur', hv, _, hgg, _, _, _, ht⟩
    ·cases hv
    ·cases hv
     rw [hcur] at hgg
     cases hgg
     have h1 := behA_get _ x i hxl hi
     rw [← ht, List.getElem?_take, if_pos (by omega), Array.getElem?_toList] at h1
     exact h1
   have hgT : T ≠ g := fun e => by subst e; rw [hTb] at hcur; exact absurd (cells_ty hcur) (by decide)
   have HC : Hid (Calls Tryd.prog 83 #[.pointer (some ⟨T, 0, none⟩), .pointer (some ⟨g, x * 7, none⟩)] W fun e w' => e = .returned (.tuple #[]) ∧ W.grownBy w' (some T) ∧ ∃ cs', w'.heap[T]? = some (.cells cs' 122) ∧ JnP (spC (unF l (0) pre) false) cs' 0 7 (unF l (0) pre) l[x].2) :=
    join_any (unF l (0) pre) l[x].2 W T 0 g (x * 7) (spC (unF l (0) pre) false) cur _ _ _ hgT hTb hcur (spC_ns _ _) hns
   have HLT : Hid (T < w3.heap.size) := (Array.getElem?_eq_some_iff.1 HT3.out).1
   have hxn : (x : Int) < (n : Int) := by omega
   clear hgr hTb hcur hHW hns hgT hg1 hg2
   gi_wp2
   refine ⟨trivial, ?_⟩
   refine (CallsIn.inRound ll (callsIn_wide.2 HC.out)).mono ?_
   rintro e w5 ⟨rfl, hg5, cs', hcs', hj⟩
   have he := jn_sp hj
   subst he
   have HF : Hid (KeepsFrom w3.heap.size W w5 ∧ w3.grownBy w5 (some T) ∧ w5.heap[T]? = some (.cells (spC (unF l (0) (pre ++ [x])) false) 122)) := by
    refine ⟨KeepsFrom.of_grownBy hg5 (fun j e => by cases e; exact HLT.out), grown_all HGR.out hg5, ?_⟩
    have h1 : unF l (0) (pre ++ [x]) = unF l (0) pre ||| l[x].2 := by
     simp [unF, List.getD_eq_getElem?_getD, hxl]
    rw [h1]
    exact hcs'
   clear hg5 hcs' hj HC
   gi_wp2
   exact HF.out
  case done =>
   rintro D W hD ⟨hgr, hTb⟩ hdf
   have hHW := (hgr.block H (Array.getElem?_eq_some_iff.1 HM3.out.1).1 (fun e => by have := Option.some.inj e; have := HTG.out.1; omega)).trans HM3.out.1
   have hTlt := (Array.getElem?_eq_some_iff.1 HT3.out).1
   have hYT : Y ≠ T := fun e => by have h1 := HY.out; rw [e, HT3.out] at h1; exact absurd (cells_ty h1) (by decide)
   have hbT : bp ≠ T := fun e => by have h1 := HP3.out.blk; rw [e, HT3.out] at h1; exact absurd (cells_ty h1) (by decide)
   have hYW := (hgr.block Y (Array.getElem?_eq_some_iff.1 HY.out).1 (fun e => hYT (Option.some.inj e))).trans HY.out
   have hbW := (hgr.block bp (Array.getElem?_eq_some_iff.1 HP3.out.blk).1 (fun e => hbT (Option.some.inj e))).trans HP3.out.blk
   have hGW := (hgr.block G (Array.getElem?_eq_some_iff.1 HM3.out.2).1 (fun e => by have := Option.some.inj e; have := HTG.out; omega)).trans HM3.out.2
   have HUP : Hid (∀ W' : World, Below W.heap.size W W' → W'.cell? ⟨H, 0, none⟩ = some (.pointer (some ⟨bp, 0, none⟩)) ∧ W'.cell? ⟨Y, 0, none⟩ = some (.int .u64 (nw V 0 : Int)) ∧ W'.cell? ⟨Y, 1, none⟩ = some (.int .u64 (nw V 1 : Int)) ∧ W'.cell? ⟨Y, 2, none⟩ = some (.int .u64 (nw V 2 : Int)) ∧ W'.cell? ⟨Y, 3, none⟩ = some (.int .u64 (nw V 3 : Int)) ∧ W'.cell? ⟨Y, 4, none⟩ = some (.int .u64 (nw V 4 : Int)) ∧ W'.cell? ⟨Y, 5, none⟩ = some (.int .u64 (nw V 5 : Int)) ∧ W'.cell? ⟨Y, 6, none⟩ = some (.int .u64 (nw V 6 : Int)) ∧ W'.cell? ⟨bp, 8, none⟩ = some (.int .u64 (nw s.en 0 : Int)) ∧ W'.cell? ⟨bp, 9, none⟩ = some (.int .u64 (nw s.en 1 : Int)) ∧ W'.cell? ⟨bp, 10, none⟩ = some (.int .u64 (nw s.en 2 : Int)) ∧ W'.cell? ⟨bp, 11, none⟩ = some (.int .u64 (nw s.en 3 : Int)) ∧ W'.cell? ⟨bp, 12, none⟩ = some (.int .u64 (nw s.en 4 : Int)) ∧ W'.cell? ⟨bp, 13, none⟩ = some (.int .u64 (nw s.en 5 : Int)) ∧ W'.cell? ⟨bp, 14, none⟩ = some (.int .u64 (nw s.en 6 : Int))) := fun W' hW => ⟨upC hW (cell_of_row W H 0 _ _ _ hHW), upC hW (cell_of_row W Y 0 _ _ _ hYW), upC hW (cell_of_row W Y 1 _ _ _ hYW), upC hW (cell_of_row W Y 2 _ _ _ hYW), upC hW (cell_of_row W Y 3 _ _ _ hYW), upC hW (cell_of_row W Y 4 _ _ _ hYW), upC hW (cell_of_row W Y 5 _ _ _ hYW), upC hW (cell_of_row W Y 6 _ _ _ hYW), upC hW ((cell_of_row W bp 8 _ _ _ hbW).trans (HPC.out.en 0 (by omega))), upC hW ((cell_of_row W bp 9 _ _ _ hbW).trans (HPC.out.en 1 (by omega))), upC hW ((cell_of_row W bp 10 _ _ _ hbW).trans (HPC.out.en 2 (by omega))), upC hW ((cell_of_row W bp 11 _ _ _ hbW).trans (HPC.out.en 3 (by omega))), upC hW ((cell_of_row W bp 12 _ _ _ hbW).trans (HPC.out.en 4 (by omega))), upC hW ((cell_of_row W bp 13 _ _ _ hbW).trans (HPC.out.en 5 (by omega))), upC hW ((cell_of_row W bp 14 _ _ _ hbW).trans (HPC.out.en 6 (by omega)))⟩
   have HD : Hid (Below W.heap.size W W.drew) := (Below.refl _ _).drew
   obtain ⟨X, hX⟩ : ∃ X, X = (0) ||| unM V l 0 := ⟨_, rfl⟩
   have HV448 : Hid (∀ p, V.testBit p = true → p < 448) := fun p hp => Nat.lt_of_lt_of_le (HVL.out p hp) HP3.out.few
   rw [unF_all V (0) l HV448.out, ← hX] at hTb
   obtain ⟨z, hz⟩ : ∃ z, z = decide (V &&& s.en ≠ 0) := ⟨_, rfl⟩
   have HRES : Hid (stepS true s l (S, b) (Int.ofNat c) = (X, false || z)) := by
    show _ = _
    rw [hX, hz, HV.out, HU.out]
    simp [stepS]
   have heq : ∀ W' : World, (Op.equalIn 10000 120 (.agg #[.int .u64 (nw (V &&& s.en) 0 : Int), .int .u64 (nw (V &&& s.en) 1 : Int), .int .u64 (nw (V &&& s.en) 2 : Int), .int .u64 (nw (V &&& s.en) 3 : Int), .int .u64 (nw (V &&& s.en) 4 : Int), .int .u64 (nw (V &&& s.en) 5 : Int), .int .u64 (nw (V &&& s.en) 6 : Int)]) (.agg #[.int .u64 0, .int .u64 0, .int .u64 0, .int .u64 0, .int .u64 0, .int .u64 0, .int .u64 0])).run Tryd.prog W' = .ok (!z) W' := fun W' => by
    rw [eq_ns, nw_none (fun p hp => HV448.out p (by rw [Nat.testBit_and, Bool.and_eq_true] at hp; exact hp.1)), hz]
    by_cases h0 : V &&& s.en = 0 <;> simp [h0]
   have HBW : Hid (Below w.heap.size w W) := HB3.out.grown hgr HB3.out.size (fun k e => by cases e; exact HTW.out.1)
   have HTW2 : Hid (W.heap[T]? = some (.cells (spC X false) 122) ∧ W.heap[G]? = some (.cells (spC 0 false) 122) ∧ W.heap[D]? = some (.deferred (some []))) := ⟨hTb, hGW, hdf⟩
   have HDN : Hid (D ≠ T ∧ D ≠ G ∧ w.heap.size ≤ D ∧ T ≠ G) := ⟨by omega, by have := (Array.getElem?_eq_some_iff.1 HM3.out.2).1; omega, by have := HB3.out.size; omega, by have := HTG.out; omega⟩
   clear hgr hTb hdf hHW hYW hbW hGW hYT hbT hTlt hX hz hD
   go_upto_region 8 with fail
   go_cut [45] from 37 to 44 (fun x45 wx => x45 = .bool z ∧ Below W.heap.size W wx)
   case first =>
    refine wp_region_noPanic ?_
    refine wp_region_held_drew (S := fun w' => Below W.heap.size W w') (by kernel_rfl) HD.out (fun hHeld => ?_)
    refine wpAnyH_take (i := 0) (v := ?_) rfl (by kernel_rfl) (by kernel_rfl) (by kernel_rfl) (fun _ _ _ h => h) (Or.inl ⟨by rfl, ?_⟩) (by assumption) ?_
    rotate_left
    ·intro w hSw; obtain ⟨c_h, c_a0, c_a1, c_a2, c_a3, c_a4, c_a5, c_a6, c_b0, c_b1, c_b2, c_b3, c_b4, c_b5, c_b6⟩ := HUP.out w hSw; clear hSw; go_simp; try with_reducible rfl
    try simp only [Act.put, List.setIfInBounds_toArray, List.set_cons_zero, List.set_cons_succ]
    refine wpAnyH_take (i := 1) (v := ?_) rfl (by kernel_rfl) (by kernel_rfl) (by kernel_rfl) (fun _ _ _ h => h) (Or.inl ⟨by rfl, ?_⟩) (by assumption) ?_
    rotate_left
    ·intro w hSw; obtain ⟨c_h, c_a0, c_a1, c_a2, c_a3, c_a4, c_a5, c_a6, c_b0, c_b1, c_b2, c_b3, c_b4, c_b5, c_b6⟩ := HUP.out w hSw; clear hSw; go_simp; try with_reducible rfl
    try simp only [Act.put, List.setIfInBounds_toArray, List.set_cons_zero, List.set_cons_succ]
    refine wpAnyH_take (i := 2) (v := ?_) rfl (by kernel_rfl) (by kernel_rfl) (by kernel_rfl) (fun _ _ _ h => h) (Or.inl ⟨by rfl, ?_⟩) (by assumption) ?_
    rotate_left
    ·intro w hSw; obtain ⟨c_h, c_a0, c_a1, c_a2, c_a3, c_a4, c_a5, c_a6, c_b0, c_b1, c_b2, c_b3, c_b4, c_b5, c_b6⟩ := HUP.out w hSw; clear hSw; go_simp; try with_reducible rfl
    try simp only [Act.put, List.setIfInBounds_toArray, List.set_cons_zero, List.set_cons_succ]
    refine wpAnyH_take (i := 3) (v := ?_) rfl (by kernel_rfl) (by kernel_rfl) (by kernel_rfl) (fun _ _ _ h => h) (Or.inl ⟨by rfl, ?_⟩) (by assumption) ?_
    rotate_left
    ·intro w hSw; obtain ⟨c_h, c_a0, c_a1, c_a2, c_a3, c_a4, c_a5, c_a6, c_b0, c_b1, c_b2, c_b3, c_b4, c_b5, c_b6⟩ := HUP.out w hSw; clear hSw; go_simp; try with_reducible rfl
    try simp only [Act.put, List.setIfInBounds_toArray, List.set_cons_zero, List.set_cons_succ]
    refine wpAnyH_take (i := 4) (v := ?_) rfl (by kernel_rfl) (by kernel_rfl) (by kernel_rfl) (fun _ _ _ h => h) (Or.inl ⟨by rfl, ?_⟩) (by assumption) ?_
    rotate_left
    ·intro w hSw; obtain ⟨c_h, c_a0, c_a1, c_a2, c_a3, c_a4, c_a5, c_a6, c_b0, c_b1, c_b2, c_b3, c_b4, c_b5, c_b6⟩ := HUP.out w hSw; clear hSw; go_simp; try with_reducible rfl
    try simp only [Act.put, List.setIfInBounds_toArray, List.set_cons_zero, List.set_cons_succ]
    refine wpAnyH_take (i := 5) (v := ?_) rfl (by kernel_rfl) (by kernel_rfl) (by kernel_rfl) (fun _ _ _ h => h) (Or.inl ⟨by rfl, ?_⟩) (by assumption) ?_
    rotate_left
    ·intro w hSw; obtain ⟨c_h, c_a0, c_a1, c_a2, c_a3, c_a4, c_a5, c_a6, c_b0, c_b1, c_b2, c_b3, c_b4, c_b5, c_b6⟩ := HUP.out w hSw; clear hSw; go_simp; try with_reducible rfl
    try simp only [Act.put, List.setIfInBounds_toArray, List.set_cons_zero, List.set_cons_succ]
    refine wpAnyH_take (i := 7) (v := ?_) rfl (by kernel_rfl) (by kernel_rfl) (by kernel_rfl) (fun _ _ _ h => h) (Or.inl ⟨by rfl, ?_⟩) (by assumption) ?_
    rotate_left
    ·intro w hSw; obtain ⟨c_h, c_a0, c_a1, c_a2, c_a3, c_a4, c_a5, c_a6, c_b0, c_b1, c_b2, c_b3, c_b4, c_b5, c_b6⟩ := HUP.out w hSw; clear hSw; go_simp; try with_reducible rfl
    try simp only [Act.put, List.setIfInBounds_toArray, List.set_cons_zero, List.set_cons_succ]
    refine wpAnyH_ready (rs := [6]) (by kernel_rfl) (by simp) ?_
    refine AllReadyH.cons rfl (fun K hK => ?_) AllReadyH.nil
    go_simp
    refine (HAND.out V s.en _).mono ?_
    rintro e w6 ⟨rfl, hb6⟩
    have HB6 : Hid (Below W.heap.size W w6) := HD.out.trans (hb6.mono HD.out.size)
    go_simp
    refine hK.out _ _ HB6.out (fun hHeld => ?_)
    clear hK K hb6
    try simp only [Act.put, List.setIfInBounds_toArray, List.set_cons_zero, List.set_cons_succ]
    refine wpAnyH_ready (rs := [8]) (by kernel_rfl) (by simp) ?_
    refine AllReadyH.cons rfl (fun K hK => ?_) AllReadyH.nil
    go_simp
    refine hK.out _ _ HB6.out (fun hHeld => ?_)
    clear hK K
    try simp only [Act.put, List.setIfInBounds_toArray, List.set_cons_zero, List.set_cons_succ]
    refine wpAnyH_done (by kernel_rfl) ?_ _
    refine NoPanic.normal ?_
    go_wp2_with fail
    go_meet
    exact ⟨rfl, HB6.out⟩
   case rest =>
    obtain ⟨hx45, hb6⟩ := hcut
    subst hx45
    obtain ⟨w6, hw6⟩ : ∃ W, W = wc := ⟨_, rfl⟩
    rw [← hw6] at hb6 ⊢
    have HT6 : Hid (w6.heap[T]? = some (.cells (spC X false) 122) ∧ w6.heap[G]? = some (.cells (spC 0 false) 122) ∧ w6.heap[D]? = some (.deferred (some []))) := ⟨(hb6.block T (Array.getElem?_eq_some_iff.1 HTW2.out.1).1).trans HTW2.out.1, (hb6.block G (Array.getElem?_eq_some_iff.1 HTW2.out.2.1).1).trans HTW2.out.2.1, (hb6.block D (Array.getElem?_eq_some_iff.1 HTW2.out.2.2).1).trans HTW2.out.2.2⟩
    have HBW6 : Hid (Below w.heap.size w w6) := HBW.out.trans (hb6.mono HBW.out.size)
    clear hw6 hb6 heq HUP HD
    cases z with
    | false =>
      have p0 : w6.cell? ⟨T, 0, none⟩ = some (.int .u64 (nw X 0 : Int)) := cell_of_row w6 T 0 _ _ _ HT6.out.1
      have d0 : w6.cell? ⟨G, 0, none⟩ = some (.int .u64 (nw 0 0 : Int)) := cell_of_row w6 G 0 _ _ _ HT6.out.2.1
      have e0 : w6.frozen? ⟨G, 0, none⟩ = false := Lib.frozen_of_heap HT6.out.2.1 0
      have p1 : w6.cell? ⟨T, 1, none⟩ = some (.int .u64 (nw X 1 : Int)) := cell_of_row w6 T 1 _ _ _ HT6.out.1
      have d1 : w6.cell? ⟨G, 1, none⟩ = some (.int .u64 (nw 0 1 : Int)) := cell_of_row w6 G 1 _ _ _ HT6.out.2.1
      have e1 : w6.frozen? ⟨G, 1, none⟩ = false := Lib.frozen_of_heap HT6.out.2.1 1
      have p2 : w6.cell? ⟨T, 2, none⟩ = some (.int .u64 (nw X 2 : Int)) := cell_of_row w6 T 2 _ _ _ HT6.out.1
      have d2 : w6.cell? ⟨G, 2, none⟩ = some (.int .u64 (nw 0 2 : Int)) := cell_of_row w6 G 2 _ _ _ HT6.out.2.1
      have e2 : w6.frozen? ⟨G, 2, none⟩ = false := Lib.frozen_of_heap HT6.out.2.1 2
      have p3 : w6.cell? ⟨T, 3, none⟩ = some (.int .u64 (nw X 3 : Int)) := cell_of_row w6 T 3 _ _ _ HT6.out.1
      have d3 : w6.cell? ⟨G, 3, none⟩ = some (.int .u64 (nw 0 3 : Int)) := cell_of_row w6 G 3 _ _ _ HT6.out.2.1
      have e3 : w6.frozen? ⟨G, 3, none⟩ = false := Lib.frozen_of_heap HT6.out.2.1 3
      have p4 : w6.cell? ⟨T, 4, none⟩ = some (.int .u64 (nw X 4 : Int)) := cell_of_row w6 T 4 _ _ _ HT6.out.1
      have d4 : w6.cell? ⟨G, 4, none⟩ = some (.int .u64 (nw 0 4 : Int)) := cell_of_row w6 G 4 _ _ _ HT6.out.2.1
      have e4 : w6.frozen? ⟨G, 4, none⟩ = false := Lib.frozen_of_heap HT6.out.2.1 4
      have p5 : w6.cell? ⟨T, 5, none⟩ = some (.int .u64 (nw X 5 : Int)) := cell_of_row w6 T 5 _ _ _ HT6.out.1
      have d5 : w6.cell? ⟨G, 5, none⟩ = some (.int .u64 (nw 0 5 : Int)) := cell_of_row w6 G 5 _ _ _ HT6.out.2.1
      have e5 : w6.frozen? ⟨G, 5, none⟩ = false := Lib.frozen_of_heap HT6.out.2.1 5
      have p6 : w6.cell? ⟨T, 6, none⟩ = some (.int .u64 (nw X 6 : Int)) := cell_of_row w6 T 6 _ _ _ HT6.out.1
      have d6 : w6.cell? ⟨G, 6, none⟩ = some (.int .u64 (nw 0 6 : Int)) := cell_of_row w6 G 6 _ _ _ HT6.out.2.1
      have e6 : w6.frozen? ⟨G, 6, none⟩ = false := Lib.frozen_of_heap HT6.out.2.1 6
      have p7 : w6.cell? ⟨T, 7, none⟩ = some (.bool false) := cell_of_row w6 T 7 _ _ _ HT6.out.1
      have d7 : w6.cell? ⟨G, 7, none⟩ = some (.bool false) := cell_of_row w6 G 7 _ _ _ HT6.out.2.1
      have e7 : w6.frozen? ⟨G, 7, none⟩ = false := Lib.frozen_of_heap HT6.out.2.1 7
      obtain ⟨wF, hwF⟩ : ∃ wF, wF = ((((((((w6).setCell ⟨G, 0, none⟩ (.int .u64 (nw X 0 : Int))).setCell ⟨G, 1, none⟩ (.int .u64 (nw X 1 : Int))).setCell ⟨G, 2, none⟩ (.int .u64 (nw X 2 : Int))).setCell ⟨G, 3, none⟩ (.int .u64 (nw X 3 : Int))).setCell ⟨G, 4, none⟩ (.int .u64 (nw X 4 : Int))).setCell ⟨G, 5, none⟩ (.int .u64 (nw X 5 : Int))).setCell ⟨G, 6, none⟩ (.int .u64 (nw X 6 : Int))).setCell ⟨G, 7, none⟩ (.bool false) := ⟨_, rfl⟩
      have hgF : w6.grownBy wF (some G) := by rw [hwF]; exact grown_put (i := 7) _ (grown_put (i := 6) _ (grown_put (i := 5) _ (grown_put (i := 4) _ (grown_put (i := 3) _ (grown_put (i := 2) _ (grown_put (i := 1) _ (grown_put (i := 0) _ (grown_refl w6 (some G)))))))))
      have hGF : wF.heap[G]? = some (.cells (spC X false) 122) := by rw [hwF]; exact (heap_setCell_same _ G 7 _ _ _ (heap_setCell_same _ G 6 _ _ _ (heap_setCell_same _ G 5 _ _ _ (heap_setCell_same _ G 4 _ _ _ (heap_setCell_same _ G 3 _ _ _ (heap_setCell_same _ G 2 _ _ _ (heap_setCell_same _ G 1 _ _ _ (heap_setCell_same _ G 0 _ _ _ HT6.out.2.1))))))))
      have hDF : wF.heap[D]? = some (.deferred (some [])) := (hgF.block D (Array.getElem?_eq_some_iff.1 HT6.out.2.2).1 (fun e => HDN.out.2.1 (Option.some.inj e))).trans HT6.out.2.2
      have hBF : Below w.heap.size w wF := HBW6.out.grown hgF HBW6.out.size (fun k e => by cases e; exact HTW.out.2)
      have hGP : (wF.putObj D (.deferred none)).heap[G]? = some (.cells (spC X false) 122) := (World.putObj_heap_other (fun e => HDN.out.2.1 e.symm)).trans hGF
      have r0 : (wF.putObj D (.deferred none)).cell? ⟨G, 0, none⟩ = some (.int .u64 (nw X 0 : Int)) := cell_of_row _ G 0 _ _ _ hGP
      have r1 : (wF.putObj D (.deferred none)).cell? ⟨G, 1, none⟩ = some (.int .u64 (nw X 1 : Int)) := cell_of_row _ G 1 _ _ _ hGP
      have r2 : (wF.putObj D (.deferred none)).cell? ⟨G, 2, none⟩ = some (.int .u64 (nw X 2 : Int)) := cell_of_row _ G 2 _ _ _ hGP
      have r3 : (wF.putObj D (.deferred none)).cell? ⟨G, 3, none⟩ = some (.int .u64 (nw X 3 : Int)) := cell_of_row _ G 3 _ _ _ hGP
      have r4 : (wF.putObj D (.deferred none)).cell? ⟨G, 4, none⟩ = some (.int .u64 (nw X 4 : Int)) := cell_of_row _ G 4 _ _ _ hGP
      have r5 : (wF.putObj D (.deferred none)).cell? ⟨G, 5, none⟩ = some (.int .u64 (nw X 5 : Int)) := cell_of_row _ G 5 _ _ _ hGP
      have r6 : (wF.putObj D (.deferred none)).cell? ⟨G, 6, none⟩ = some (.int .u64 (nw X 6 : Int)) := cell_of_row _ G 6 _ _ _ hGP
      have r7 : (wF.putObj D (.deferred none)).cell? ⟨G, 7, none⟩ = some (.bool false) := cell_of_row _ G 7 _ _ _ hGP
      have HFI : Hid (wF.heap[D]? = some (.deferred (some [])) ∧ Below w.heap.size w (wF.putObj D (.deferred none))) := ⟨hDF, hBF.grown (grownBy_putObj' wF D _) hBF.size (fun k e => by cases e; exact HDN.out.2.2.1)⟩
      clear hgF hGF hDF hBF hGP
      go_wp2_with fail
      rw [← hwF]
      clear hwF p0 d0 e0 p1 d1 e1 p2 d2 e2 p3 d3 e3 p4 d4 e4 p5 d5 e5 p6 d6 e6 p7 d7 e7
      refine ⟨by simp, .inl ⟨_, _, rfl, run_takeDeferred HFI.out.1, ?_⟩⟩
      refine ⟨.agg #[.int .u64 (nw X 0 : Int), .int .u64 (nw X 1 : Int), .int .u64 (nw X 2 : Int), .int .u64 (nw X 3 : Int), .int .u64 (nw X 4 : Int), .int .u64 (nw X 5 : Int), .int .u64 (nw X 6 : Int), .bool false], ?_, ?_, HFI.out.2⟩
      ·rw [results_cell_one rfl]
       go_simp
      ·rw [HRES.out]
       simp [spV, nwV]
    | true =>
      have t7 : w6.cell? ⟨T, 7, none⟩ = some (.bool false) := cell_of_row w6 T 7 _ _ _ HT6.out.1
      have f7 : w6.frozen? ⟨T, 7, none⟩ = false := Lib.frozen_of_heap HT6.out.1 7
      obtain ⟨w7, hw7⟩ : ∃ w7, w7 = w6.setCell ⟨T, 7, none⟩ (.bool true) := ⟨_, rfl⟩
      have hg7 : w6.grownBy w7 (some T) := by rw [hw7]; exact grown_cell w6 T 7 _
      have HT7 : Hid (w7.heap[T]? = some (.cells (spC X true) 122) ∧ w7.heap[G]? = some (.cells (spC 0 false) 122) ∧ w7.heap[D]? = some (.deferred (some []))) := ⟨by rw [hw7]; exact heap_setCell_same w6 T 7 _ _ _ HT6.out.1, (hg7.block G (Array.getElem?_eq_some_iff.1 HT6.out.2.1).1 (fun e => HDN.out.2.2.2 (Option.some.inj e).symm)).trans HT6.out.2.1, (hg7.block D (Array.getElem?_eq_some_iff.1 HT6.out.2.2).1 (fun e => HDN.out.1 (Option.some.inj e))).trans HT6.out.2.2⟩
      have HBW7 : Hid (Below w.heap.size w w7) := HBW6.out.grown hg7 HBW6.out.size (fun k e => by cases e; exact HTW.out.1)
      clear hg7
      go_upto_region 10 with fail
      rw [← hw7]
      clear hw7 t7 f7
      have p0 : w7.cell? ⟨T, 0, none⟩ = some (.int .u64 (nw X 0 : Int)) := cell_of_row w7 T 0 _ _ _ HT7.out.1
      have d0 : w7.cell? ⟨G, 0, none⟩ = some (.int .u64 (nw 0 0 : Int)) := cell_of_row w7 G 0 _ _ _ HT7.out.2.1
      have e0 : w7.frozen? ⟨G, 0, none⟩ = false := Lib.frozen_of_heap HT7.out.2.1 0
      have p1 : w7.cell? ⟨T, 1, none⟩ = some (.int .u64 (nw X 1 : Int)) := cell_of_row w7 T 1 _ _ _ HT7.out.1
      have d1 : w7.cell? ⟨G, 1, none⟩ = some (.int .u64 (nw 0 1 : Int)) := cell_of_row w7 G 1 _ _ _ HT7.out.2.1
      have e1 : w7.frozen? ⟨G, 1, none⟩ = false := Lib.frozen_of_heap HT7.out.2.1 1
      have p2 : w7.cell? ⟨T, 2, none⟩ = some (.int .u64 (nw X 2 : Int)) := cell_of_row w7 T 2 _ _ _ HT7.out.1
      have d2 : w7.cell? ⟨G, 2, none⟩ = some (.int .u64 (nw 0 2 : Int)) := cell_of_row w7 G 2 _ _ _ HT7.out.2.1
      have e2 : w7.frozen? ⟨G, 2, none⟩ = false := Lib.frozen_of_heap HT7.out.2.1 2
      have p3 : w7.cell? ⟨T, 3, none⟩ = some (.int .u64 (nw X 3 : Int)) := cell_of_row w7 T 3 _ _ _ HT7.out.1
      have d3 : w7.cell? ⟨G, 3, none⟩ = some (.int .u64 (nw 0 3 : Int)) := cell_of_row w7 G 3 _ _ _ HT7.out.2.1
      have e3 : w7.frozen? ⟨G, 3, none⟩ = false := Lib.frozen_of_heap HT7.out.2.1 3
      have p4 : w7.cell? ⟨T, 4, none⟩ = some (.int .u64 (nw X 4 : Int)) := cell_of_row w7 T 4 _ _ _ HT7.out.1
      have d4 : w7.cell? ⟨G, 4, none⟩ = some (.int .u64 (nw 0 4 : Int)) := cell_of_row w7 G 4 _ _ _ HT7.out.2.1
      have e4 : w7.frozen? ⟨G, 4, none⟩ = false := Lib.frozen_of_heap HT7.out.2.1 4
      have p5 : w7.cell? ⟨T, 5, none⟩ = some (.int .u64 (nw X 5 : Int)) := cell_of_row w7 T 5 _ _ _ HT7.out.1
      have d5 : w7.cell? ⟨G, 5, none⟩ = some (.int .u64 (nw 0 5 : Int)) := cell_of_row w7 G 5 _ _ _ HT7.out.2.1
      have e5 : w7.frozen? ⟨G, 5, none⟩ = false := Lib.frozen_of_heap HT7.out.2.1 5
      have p6 : w7.cell? ⟨T, 6, none⟩ = some (.int .u64 (nw X 6 : Int)) := cell_of_row w7 T 6 _ _ _ HT7.out.1
      have d6 : w7.cell? ⟨G, 6, none⟩ = some (.int .u64 (nw 0 6 : Int)) := cell_of_row w7 G 6 _ _ _ HT7.out.2.1
      have e6 : w7.frozen? ⟨G, 6, none⟩ = false := Lib.frozen_of_heap HT7.out.2.1 6
      have p7 : w7.cell? ⟨T, 7, none⟩ = some (.bool true) := cell_of_row w7 T 7 _ _ _ HT7.out.1
      have d7 : w7.cell? ⟨G, 7, none⟩ = some (.bool false) := cell_of_row w7 G 7 _ _ _ HT7.out.2.1
      have e7 : w7.frozen? ⟨G, 7, none⟩ = false := Lib.frozen_of_heap HT7.out.2.1 7
      obtain ⟨wF, hwF⟩ : ∃ wF, wF = ((((((((w7).setCell ⟨G, 0, none⟩ (.int .u64 (nw X 0 : Int))).setCell ⟨G, 1, none⟩ (.int .u64 (nw X 1 : Int))).setCell ⟨G, 2, none⟩ (.int .u64 (nw X 2 : Int))).setCell ⟨G, 3, none⟩ (.int .u64 (nw X 3 : Int))).setCell ⟨G, 4, none⟩ (.int .u64 (nw X 4 : Int))).setCell ⟨G, 5, none⟩ (.int .u64 (nw X 5 : Int))).setCell ⟨G, 6, none⟩ (.int .u64 (nw X 6 : Int))).setCell ⟨G, 7, none⟩ (.bool true) := ⟨_, rfl⟩
      have hgF : w7.grownBy wF (some G) := by rw [hwF]; exact grown_put (i := 7) _ (grown_put (i := 6) _ (grown_put (i := 5) _ (grown_put (i := 4) _ (grown_put (i := 3) _ (grown_put (i := 2) _ (grown_put (i := 1) _ (grown_put (i := 0) _ (grown_refl w7 (some G)))))))))
      have hGF : wF.heap[G]? = some (.cells (spC X true) 122) := by rw [hwF]; exact (heap_setCell_same _ G 7 _ _ _ (heap_setCell_same _ G 6 _ _ _ (heap_setCell_same _ G 5 _ _ _ (heap_setCell_same _ G 4 _ _ _ (heap_setCell_same _ G 3 _ _ _ (heap_setCell_same _ G 2 _ _ _ (heap_setCell_same _ G 1 _ _ _ (heap_setCell_same _ G 0 _ _ _ HT7.out.2.1))))))))
      have hDF : wF.heap[D]? = some (.deferred (some [])) := (hgF.block D (Array.getElem?_eq_some_iff.1 HT7.out.2.2).1 (fun e => HDN.out.2.1 (Option.some.inj e))).trans HT7.out.2.2
      have hBF : Below w.heap.size w wF := HBW7.out.grown hgF HBW7.out.size (fun k e => by cases e; exact HTW.out.2)
      have hGP : (wF.putObj D (.deferred none)).heap[G]? = some (.cells (spC X true) 122) := (World.putObj_heap_other (fun e => HDN.out.2.1 e.symm)).trans hGF
      have r0 : (wF.putObj D (.deferred none)).cell? ⟨G, 0, none⟩ = some (.int .u64 (nw X 0 : Int)) := cell_of_row _ G 0 _ _ _ hGP
      have r1 : (wF.putObj D (.deferred none)).cell? ⟨G, 1, none⟩ = some (.int .u64 (nw X 1 : Int)) := cell_of_row _ G 1 _ _ _ hGP
      have r2 : (wF.putObj D (.deferred none)).cell? ⟨G, 2, none⟩ = some (.int .u64 (nw X 2 : Int)) := cell_of_row _ G 2 _ _ _ hGP
      have r3 : (wF.putObj D (.deferred none)).cell? ⟨G, 3, none⟩ = some (.int .u64 (nw X 3 : Int)) := cell_of_row _ G 3 _ _ _ hGP
      have r4 : (wF.putObj D (.deferred none)).cell? ⟨G, 4, none⟩ = some (.int .u64 (nw X 4 : Int)) := cell_of_row _ G 4 _ _ _ hGP
      have r5 : (wF.putObj D (.deferred none)).cell? ⟨G, 5, none⟩ = some (.int .u64 (nw X 5 : Int)) := cell_of_row _ G 5 _ _ _ hGP
      have r6 : (wF.putObj D (.deferred none)).cell? ⟨G, 6, none⟩ = some (.int .u64 (nw X 6 : Int)) := cell_of_row _ G 6 _ _ _ hGP
      have r7 : (wF.putObj D (.deferred none)).cell? ⟨G, 7, none⟩ = some (.bool true) := cell_of_row _ G 7 _ _ _ hGP
      have HFI : Hid (wF.heap[D]? = some (.deferred (some [])) ∧ Below w.heap.size w (wF.putObj D (.deferred none))) := ⟨hDF, hBF.grown (grownBy_putObj' wF D _) hBF.size (fun k e => by cases e; exact HDN.out.2.2.1)⟩
      clear hgF hGF hDF hBF hGP
      go_wp2_with fail
      rw [← hwF]
      clear hwF p0 d0 e0 p1 d1 e1 p2 d2 e2 p3 d3 e3 p4 d4 e4 p5 d5 e5 p6 d6 e6 p7 d7 e7
      refine ⟨by simp, .inl ⟨_, _, rfl, run_takeDeferred HFI.out.1, ?_⟩⟩
      refine ⟨.agg #[.int .u64 (nw X 0 : Int), .int .u64 (nw X 1 : Int), .int .u64 (nw X 2 : Int), .int .u64 (nw X 3 : Int), .int .u64 (nw X 4 : Int), .int .u64 (nw X 5 : Int), .int .u64 (nw X 6 : Int), .bool true], ?_, ?_, HFI.out.2⟩
      ·rw [results_cell_one rfl]
       go_simp
      ·rw [HRES.out]
       simp [spV, nwV]
end Go.Proofs.YtclogekfdmikpaaDoor
