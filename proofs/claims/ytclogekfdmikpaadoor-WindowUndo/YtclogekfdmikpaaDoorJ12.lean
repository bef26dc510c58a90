/- The walk of spanOf, all depths. -/
import Derived.Test.YtclogekfdmikpaaDoorJ09
namespace Go.Proofs.YtclogekfdmikpaaDoor
open Go.RowKit Go.Shelf
set_option linter.unusedVariables false
set_option linter.unusedSimpArgs false

set_option maxRecDepth 100000 in
set_option maxHeartbeats 16000000 in
theorem sp_up2 (D : Nat) (HP : ∀ D', D' < D → SpC D') (n : Nd) (dd : Nat) (ca pa : Option Addr) (cc pc : Nat) (w0 w : World) (bp : Nat) (cs : Array Value) (v : Value) (wh : Bool) (l : Pl) (hok : okN dd n = true) (hin : InV w0.heap.size w0 D n [.int .i64 n.op, .slice ca n.cl.length cc, .slice pa (toL n.kids).length pc]) (hb0 : Below w0.heap.size w0 w) (hT : TabD w0) (hpl : PlanAt w0.heap.size w bp cs v wh l) (hcnt : l.length + n.cnt ≤ 400) (hop0 : n.op = 2) :
 Calls Tryd.prog 77 #[.pointer (some ⟨bp, 0, none⟩), .agg #[.int .i64 n.op, .slice ca n.cl.length cc, .slice pa (toL n.kids).length pc]] w fun e w' => e = .returned (.agg (spnA (n.span l).1)) ∧ (∃ cs' v', PlanAt w0.heap.size w' bp cs' v' wh (n.span l).2) ∧ Below w0.heap.size w0 w' ∧ FrS w w' := by
 have HPC : Hid (∀ D', D' < D → SpC D') := HP
 have HIN : Hid (InV w0.heap.size w0 D n [.int .i64 n.op, .slice ca n.cl.length cc, .slice pa (toL n.kids).length pc]) := hin
 have hbd := hin.bounds
 have hcls := hin.classes
 cases dd with
 | zero => simp [okN] at hok
 | succ dd =>
 simp only [okN, Bool.and_eq_true, List.all_eq_true] at hok
 obtain ⟨⟨hrc, hrcl⟩, hkids⟩ := hok
 have HKO : Hid (∀ x, x ∈ toL n.kids → okN dd x = true) := hkids
 have HTD : Hid (TabD w0) := hT
 have HRCL : Hid (rclB n.op n.cl = true) := hrcl
 have HRC : Hid (rcB n.op (toL n.kids).length = true) := hrc
 have HCNT : Hid (l.length + n.cnt ≤ 400) := hcnt
 have HCLS : Hid (Rd .i64 w0 ca n.cl.length n.cl ∧ n.cl.length ≤ 140737488355328) := hcls
 obtain ⟨op, hop⟩ : ∃ op, op = n.op := ⟨_, rfl⟩
 obtain ⟨cn, hcn⟩ : ∃ cn, cn = n.cl.length := ⟨_, rfl⟩
 obtain ⟨K, hK⟩ : ∃ K, K = (toL n.kids).length := ⟨_, rfl⟩
 have HOP : Hid (op = n.op) := hop
 have HCN : Hid (cn = n.cl.length) := hcn
 have HK : Hid (K = (toL n.kids).length) := hK
 have hKi : (K : Int) ≤ 2600000000000 := by omega
 have hci : (cn : Int) ≤ 140737488355328 := by omega
 obtain ⟨wA, hwA⟩ : ∃ wA, wA = (w.alloc (.cells #[.int .i64 op, .slice ca cn cc, .slice pa K pc] 56)).alloc (.cells #[.bool false, .int .u64 0, .int .u64 0, .int .u64 0, .int .u64 0, .int .u64 0, .int .u64 0, .int .u64 0, .int .u64 0, .int .u64 0, .int .u64 0, .int .u64 0, .int .u64 0, .int .u64 0, .int .u64 0] 138) := ⟨_, rfl⟩
 obtain ⟨H, hH⟩ : ∃ H, H = w.heap.size := ⟨_, rfl⟩
 have HHW : Hid (w.heap.size ≤ H + 1 ∧ w0.heap.size ≤ H + 1) := by rw [hH]; have := hb0.size; exact ⟨by omega, by omega⟩
 have hbA : Below w.heap.size w wA := by rw [hwA]; exact ((Below.refl _ w).alloc (Nat.le_refl _) _).alloc (by simp) _
 have HBA : Hid (Below w.heap.size w wA) := hbA
 have HB0A : Hid (Below w0.heap.size w0 wA) := hb0.trans (hbA.mono hb0.size)
 have HPA : Hid (PlanAt w0.heap.size wA bp cs v wh l) := hpl.later hbA
 have HN : Hid (wA.heap[H]? = some (.cells #[.int .i64 op, .slice ca cn cc, .slice pa K pc] 56)) := by
  show _ = _
  rw [hwA, hH]
  exact (((Below.refl _ (w.alloc _)).alloc (Nat.le_refl _) _).block w.heap.size (by simp)).trans (heap_alloc_new w _)
 have HRES : Hid (wA.heap[H + 1]? = some (.cells #[.bool false, .int .u64 0, .int .u64 0, .int .u64 0, .int .u64 0, .int .u64 0, .int .u64 0, .int .u64 0, .int .u64 0, .int .u64 0, .int .u64 0, .int .u64 0, .int .u64 0, .int .u64 0, .int .u64 0] 138)) := by
  show _ = _
  rw [hwA, hH]
  have := heap_alloc_new (w.alloc (.cells #[.int .i64 op, .slice ca cn cc, .slice pa K pc] 56)) (.cells #[.bool false, .int .u64 0, .int .u64 0, .int .u64 0, .int .u64 0, .int .u64 0, .int .u64 0, .int .u64 0, .int .u64 0, .int .u64 0, .int .u64 0, .int .u64 0, .int .u64 0, .int .u64 0, .int .u64 0] 138)
  rw [show (w.alloc (.cells #[.int .i64 op, .slice ca cn cc, .slice pa K pc] 56)).heap.size = w.heap.size + 1 by simp] at this
  exact this
 have n0 : wA.cell? ⟨H, 0, none⟩ = some (.int .i64 op) := cell_of_row wA H 0 _ _ _ HN.out
 have n1 : wA.cell? ⟨H, 1, none⟩ = some (.slice ca cn cc) := cell_of_row wA H 1 _ _ _ HN.out
 have n2 : wA.cell? ⟨H, 2, none⟩ = some (.slice pa K pc) := cell_of_row wA H 2 _ _ _ HN.out
 have HOP1 : Hid (op = 2) := by show op = _; rw [hop]; exact hop0
 rw [← hop, ← hcn, ← hK]
 clear HP hin hbd hcls hrc hrcl hkids hT hcnt hop0 hop hcn hK hb0 hpl hbA
 go_enter Tryd.func77, Tryd.ntmps77
 go_upto_region 1 with fail
 rw [← hH, ← hwA]
 clear hH hwA
 have hop := HOP1.out
 have h0 : n.op = 2 := by rw [← HOP.out]; exact hop
 subst hop
 have HC : Hid (Calls Tryd.prog 87 #[.pointer (some ⟨bp, 0, none⟩), .slice pa K pc] wA fun e w' => e = .returned (.agg #[.bool (n.span l).1.em, .int .u64 (nw (n.span l).1.fi 0 : Int), .int .u64 (nw (n.span l).1.fi 1 : Int), .int .u64 (nw (n.span l).1.fi 2 : Int), .int .u64 (nw (n.span l).1.fi 3 : Int), .int .u64 (nw (n.span l).1.fi 4 : Int), .int .u64 (nw (n.span l).1.fi 5 : Int), .int .u64 (nw (n.span l).1.fi 6 : Int), .int .u64 (nw (n.span l).1.en 0 : Int), .int .u64 (nw (n.span l).1.en 1 : Int), .int .u64 (nw (n.span l).1.en 2 : Int), .int .u64 (nw (n.span l).1.en 3 : Int), .int .u64 (nw (n.span l).1.en 4 : Int), .int .u64 (nw (n.span l).1.en 5 : Int), .int .u64 (nw (n.span l).1.en 6 : Int)]) ∧ (∃ cs' v', PlanAt w0.heap.size w' bp cs' v' wh (n.span l).2) ∧ Below w0.heap.size w0 w' ∧ FrS wA w') := by
  have hsp : n.span l = spL true (toL n.kids) ⟨true, 0, 0⟩ l := by unfold Nd.span topQ; rw [h0, spF_L, spF_L]; rfl
  rw [hsp, HK.out]
  refine (row_of D HPC.out n dd ca pa cc pc w0 wA bp cs v wh l HKO.out HIN.out HB0A.out HTD.out HPA.out (by have := HCNT.out; rw [cnt_eq] at this; omega)).mono ?_
  rintro e w' ⟨h1, h2, h3, h4⟩
  exact ⟨h1, h2, h3, h4⟩
 go_wp2_with fail
 refine HC.out.mono ?_
 rintro e w2 ⟨rfl, hp2, hb2, hf2⟩
 have HP2 : Hid (∃ cs' v', PlanAt w0.heap.size w2 bp cs' v' wh (n.span l).2) := hp2
 have HB2 : Hid (Below w0.heap.size w0 w2) := hb2
 have HF2 : Hid (FrS w w2) := (FrS.below HBA.out).trans hf2
 have HRS2 : Hid (w2.heap[H + 1]? = some (.cells #[.bool false, .int .u64 0, .int .u64 0, .int .u64 0, .int .u64 0, .int .u64 0, .int .u64 0, .int .u64 0, .int .u64 0, .int .u64 0, .int .u64 0, .int .u64 0, .int .u64 0, .int .u64 0, .int .u64 0] 138)) := hf2.same _ _ _ _ HRES.out (by decide) (by decide)
 clear HC hp2 hb2 hf2 n0 n1 n2
 have d0 : w2.cell? ⟨H + 1, 0, none⟩ = some (.bool false) := cell_of_row w2 (H + 1) 0 _ _ _ HRS2.out
 have e0 : w2.frozen? ⟨H + 1, 0, none⟩ = false := Lib.frozen_of_heap HRS2.out 0
 have d1 : w2.cell? ⟨H + 1, 1, none⟩ = some (.int .u64 0) := cell_of_row w2 (H + 1) 1 _ _ _ HRS2.out
 have e1 : w2.frozen? ⟨H + 1, 1, none⟩ = false := Lib.frozen_of_heap HRS2.out 1
 have d2 : w2.cell? ⟨H + 1, 2, none⟩ = some (.int .u64 0) := cell_of_row w2 (H + 1) 2 _ _ _ HRS2.out
 have e2 : w2.frozen? ⟨H + 1, 2, none⟩ = false := Lib.frozen_of_heap HRS2.out 2
 have d3 : w2.cell? ⟨H + 1, 3, none⟩ = some (.int .u64 0) := cell_of_row w2 (H + 1) 3 _ _ _ HRS2.out
 have e3 : w2.frozen? ⟨H + 1, 3, none⟩ = false := Lib.frozen_of_heap HRS2.out 3
 have d4 : w2.cell? ⟨H + 1, 4, none⟩ = some (.int .u64 0) := cell_of_row w2 (H + 1) 4 _ _ _ HRS2.out
 have e4 : w2.frozen? ⟨H + 1, 4, none⟩ = false := Lib.frozen_of_heap HRS2.out 4
 have d5 : w2.cell? ⟨H + 1, 5, none⟩ = some (.int .u64 0) := cell_of_row w2 (H + 1) 5 _ _ _ HRS2.out
 have e5 : w2.frozen? ⟨H + 1, 5, none⟩ = false := Lib.frozen_of_heap HRS2.out 5
 have d6 : w2.cell? ⟨H + 1, 6, none⟩ = some (.int .u64 0) := cell_of_row w2 (H + 1) 6 _ _ _ HRS2.out
 have e6 : w2.frozen? ⟨H + 1, 6, none⟩ = false := Lib.frozen_of_heap HRS2.out 6
 have d7 : w2.cell? ⟨H + 1, 7, none⟩ = some (.int .u64 0) := cell_of_row w2 (H + 1) 7 _ _ _ HRS2.out
 have e7 : w2.frozen? ⟨H + 1, 7, none⟩ = false := Lib.frozen_of_heap HRS2.out 7
 have d8 : w2.cell? ⟨H + 1, 8, none⟩ = some (.int .u64 0) := cell_of_row w2 (H + 1) 8 _ _ _ HRS2.out
 have e8 : w2.frozen? ⟨H + 1, 8, none⟩ = false := Lib.frozen_of_heap HRS2.out 8
 have d9 : w2.cell? ⟨H + 1, 9, none⟩ = some (.int .u64 0) := cell_of_row w2 (H + 1) 9 _ _ _ HRS2.out
 have e9 : w2.frozen? ⟨H + 1, 9, none⟩ = false := Lib.frozen_of_heap HRS2.out 9
 have d10 : w2.cell? ⟨H + 1, 10, none⟩ = some (.int .u64 0) := cell_of_row w2 (H + 1) 10 _ _ _ HRS2.out
 have e10 : w2.frozen? ⟨H + 1, 10, none⟩ = false := Lib.frozen_of_heap HRS2.out 10
 have d11 : w2.cell? ⟨H + 1, 11, none⟩ = some (.int .u64 0) := cell_of_row w2 (H + 1) 11 _ _ _ HRS2.out
 have e11 : w2.frozen? ⟨H + 1, 11, none⟩ = false := Lib.frozen_of_heap HRS2.out 11
 have d12 : w2.cell? ⟨H + 1, 12, none⟩ = some (.int .u64 0) := cell_of_row w2 (H + 1) 12 _ _ _ HRS2.out
 have e12 : w2.frozen? ⟨H + 1, 12, none⟩ = false := Lib.frozen_of_heap HRS2.out 12
 have d13 : w2.cell? ⟨H + 1, 13, none⟩ = some (.int .u64 0) := cell_of_row w2 (H + 1) 13 _ _ _ HRS2.out
 have e13 : w2.frozen? ⟨H + 1, 13, none⟩ = false := Lib.frozen_of_heap HRS2.out 13
 have d14 : w2.cell? ⟨H + 1, 14, none⟩ = some (.int .u64 0) := cell_of_row w2 (H + 1) 14 _ _ _ HRS2.out
 have e14 : w2.frozen? ⟨H + 1, 14, none⟩ = false := Lib.frozen_of_heap HRS2.out 14
 have HFIN : Hid (∀ v0 v1 v2 v3 v4 v5 v6 v7 v8 v9 v10 v11 v12 v13 v14, (∃ c'' v'', PlanAt w0.heap.size ((((((((((((((((w2).setCell ⟨H + 1, 0, none⟩ v0).setCell ⟨H + 1, 1, none⟩ v1).setCell ⟨H + 1, 2, none⟩ v2).setCell ⟨H + 1, 3, none⟩ v3).setCell ⟨H + 1, 4, none⟩ v4).setCell ⟨H + 1, 5, none⟩ v5).setCell ⟨H + 1, 6, none⟩ v6).setCell ⟨H + 1, 7, none⟩ v7).setCell ⟨H + 1, 8, none⟩ v8).setCell ⟨H + 1, 9, none⟩ v9).setCell ⟨H + 1, 10, none⟩ v10).setCell ⟨H + 1, 11, none⟩ v11).setCell ⟨H + 1, 12, none⟩ v12).setCell ⟨H + 1, 13, none⟩ v13).setCell ⟨H + 1, 14, none⟩ v14) bp c'' v'' wh (n.span l).2) ∧ Below w0.heap.size w0 ((((((((((((((((w2).setCell ⟨H + 1, 0, none⟩ v0).setCell ⟨H + 1, 1, none⟩ v1).setCell ⟨H + 1, 2, none⟩ v2).setCell ⟨H + 1, 3, none⟩ v3).setCell ⟨H + 1, 4, none⟩ v4).setCell ⟨H + 1, 5, none⟩ v5).setCell ⟨H + 1, 6, none⟩ v6).setCell ⟨H + 1, 7, none⟩ v7).setCell ⟨H + 1, 8, none⟩ v8).setCell ⟨H + 1, 9, none⟩ v9).setCell ⟨H + 1, 10, none⟩ v10).setCell ⟨H + 1, 11, none⟩ v11).setCell ⟨H + 1, 12, none⟩ v12).setCell ⟨H + 1, 13, none⟩ v13).setCell ⟨H + 1, 14, none⟩ v14) ∧ FrS w ((((((((((((((((w2).setCell ⟨H + 1, 0, none⟩ v0).setCell ⟨H + 1, 1, none⟩ v1).setCell ⟨H + 1, 2, none⟩ v2).setCell ⟨H + 1, 3, none⟩ v3).setCell ⟨H + 1, 4, none⟩ v4).setCell ⟨H + 1, 5, none⟩ v5).setCell ⟨H + 1, 6, none⟩ v6).setCell ⟨H + 1, 7, none⟩ v7).setCell ⟨H + 1, 8, none⟩ v8).setCell ⟨H + 1, 9, none⟩ v9).setCell ⟨H + 1, 10, none⟩ v10).setCell ⟨H + 1, 11, none⟩ v11).setCell ⟨H + 1, 12, none⟩ v12).setCell ⟨H + 1, 13, none⟩ v13).setCell ⟨H + 1, 14, none⟩ v14)) := fun v0 v1 v2 v3 v4 v5 v6 v7 v8 v9 v10 v11 v12 v13 v14 => by
  have hg : w2.grownBy ((((((((((((((((w2).setCell ⟨H + 1, 0, none⟩ v0).setCell ⟨H + 1, 1, none⟩ v1).setCell ⟨H + 1, 2, none⟩ v2).setCell ⟨H + 1, 3, none⟩ v3).setCell ⟨H + 1, 4, none⟩ v4).setCell ⟨H + 1, 5, none⟩ v5).setCell ⟨H + 1, 6, none⟩ v6).setCell ⟨H + 1, 7, none⟩ v7).setCell ⟨H + 1, 8, none⟩ v8).setCell ⟨H + 1, 9, none⟩ v9).setCell ⟨H + 1, 10, none⟩ v10).setCell ⟨H + 1, 11, none⟩ v11).setCell ⟨H + 1, 12, none⟩ v12).setCell ⟨H + 1, 13, none⟩ v13).setCell ⟨H + 1, 14, none⟩ v14) (some (H + 1)) := grown_put (i := 14) v14 (grown_put (i := 13) v13 (grown_put (i := 12) v12 (grown_put (i := 11) v11 (grown_put (i := 10) v10 (grown_put (i := 9) v9 (grown_put (i := 8) v8 (grown_put (i := 7) v7 (grown_put (i := 6) v6 (grown_put (i := 5) v5 (grown_put (i := 4) v4 (grown_put (i := 3) v3 (grown_put (i := 2) v2 (grown_put (i := 1) v1 (grown_put (i := 0) v0 (grown_refl w2 (some (H + 1)))))))))))))))))
  obtain ⟨c1, u1, hp1⟩ := HP2.out
  exact ⟨⟨_, _, hp1.kept hg HRS2.out (by decide) (by decide)⟩, (HB2.out).grown hg (HB2.out).size (fun k e => by cases e; exact HHW.out.2), (HF2.out).new hg HHW.out.1⟩
 go_wp2_with fail
 refine bodyPost_ret (v := .agg (spnA (n.span l).1)) ?_ rfl ⟨rfl, HFIN.out _ _ _ _ _ _ _ _ _ _ _ _ _ _ _⟩
 rw [results_cell_one rfl]
 go_simp
 rfl
end Go.Proofs.YtclogekfdmikpaaDoor
