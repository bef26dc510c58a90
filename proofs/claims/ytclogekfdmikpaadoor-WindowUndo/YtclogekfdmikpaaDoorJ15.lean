/- The walk of spanOf, all depths. -/
import Derived.Test.YtclogekfdmikpaaDoorJ09
namespace Go.Proofs.YtclogekfdmikpaaDoor
open Go.RowKit Go.Shelf
set_option linter.unusedVariables false
set_option linter.unusedSimpArgs false

set_option maxRecDepth 100000 in
set_option maxHeartbeats 16000000 in
theorem sp_up5 (D : Nat) (HP : ∀ D', D' < D → SpC D') (n : Nd) (dd : Nat) (ca pa : Option Addr) (cc pc : Nat) (w0 w : World) (bp : Nat) (cs : Array Value) (v : Value) (wh : Bool) (l : Pl) (hok : okN dd n = true) (hin : InV w0.heap.size w0 D n [.int .i64 n.op, .slice ca n.cl.length cc, .slice pa (toL n.kids).length pc]) (hb0 : Below w0.heap.size w0 w) (hT : TabD w0) (hpl : PlanAt w0.heap.size w bp cs v wh l) (hcnt : l.length + n.cnt ≤ 400) (hop0 : n.op = 5) :
 Calls Tryd.prog 77 #[.pointer (some ⟨bp, 0, none⟩), .agg #[.int .i64 n.op, .slice ca n.cl.length cc, .slice pa (toL n.kids).length pc]] w fun e w' => e = .returned (.agg (spnA (n.span l).1)) ∧ (∃ cs' v', PlanAt w0.heap.size w' bp cs' v' wh (n.span l).2) ∧ Below w0.heap.size w0 w' ∧ FrS w w' := by
 have HPC : Hid (∀ D', D' < D → SpC D') := HP
 have HIN : Hid (InV w0.heap.size w0 D n [.int .i64 n.op, .slice ca n.cl.length cc, .slice pa (toL n.kids).length pc]) := hin
 have hbd := hin.bounds
 have hcls := hin.classes
 cases dd with
 | zero => simp [okN] at hok
 | succ dd =>
 simp only [okN, Bool.and_eq_true, List.all_eq_true] at hok
 obtain ⟨⟨hrc, hrcl⟩, hkids⟩ := hok
 have HKO : Hid (∀ x, x ∈ toL n.kids → okN dd x = true) := hkids
 have HTD : Hid (TabD w0) := hT
 have HRCL : Hid (rclB n.op n.cl = true) := hrcl
 have HRC : Hid (rcB n.op (toL n.kids).length = true) := hrc
 have HCNT : Hid (l.length + n.cnt ≤ 400) := hcnt
 have HCLS : Hid (Rd .i64 w0 ca n.cl.length n.cl ∧ n.cl.length ≤ 140737488355328) := hcls
 obtain ⟨op, hop⟩ : ∃ op, op = n.op := ⟨_, rfl⟩
 obtain ⟨cn, hcn⟩ : ∃ cn, cn = n.cl.length := ⟨_, rfl⟩
 obtain ⟨K, hK⟩ : ∃ K, K = (toL n.kids).length := ⟨_, rfl⟩
 have HOP : Hid (op = n.op) := hop
 have HCN : Hid (cn = n.cl.length) := hcn
 have HK : Hid (K = (toL n.kids).length) := hK
 have hKi : (K : Int) ≤ 2600000000000 := by omega
 have hci : (cn : Int) ≤ 140737488355328 := by omega
 obtain ⟨wA, hwA⟩ : ∃ wA, wA = (w.alloc (.cells #[.int .i64 op, .slice ca cn cc, .slice pa K pc] 56)).alloc (.cells #[.bool false, .int .u64 0, .int .u64 0, .int .u64 0, .int .u64 0, .int .u64 0, .int .u64 0, .int .u64 0, .int .u64 0, .int .u64 0, .int .u64 0, .int .u64 0, .int .u64 0, .int .u64 0, .int .u64 0] 138) := ⟨_, rfl⟩
 obtain ⟨H, hH⟩ : ∃ H, H = w.heap.size := ⟨_, rfl⟩
 have HHW : Hid (w.heap.size ≤ H + 1 ∧ w0.heap.size ≤ H + 1) := by rw [hH]; have := hb0.size; exact ⟨by omega, by omega⟩
 have hbA : Below w.heap.size w wA := by rw [hwA]; exact ((Below.refl _ w).alloc (Nat.le_refl _) _).alloc (by simp) _
 have HBA : Hid (Below w.heap.size w wA) := hbA
 have HB0A : Hid (Below w0.heap.size w0 wA) := hb0.trans (hbA.mono hb0.size)
 have HPA : Hid (PlanAt w0.heap.size wA bp cs v wh l) := hpl.later hbA
 have HN : Hid (wA.heap[H]? = some (.cells #[.int .i64 op, .slice ca cn cc, .slice pa K pc] 56)) := by
  show _ = _
  rw [hwA, hH]
  exact (((Below.refl _ (w.alloc _)).alloc (Nat.le_refl _) _).block w.heap.size (by simp)).trans (heap_alloc_new w _)
 have HRES : Hid (wA.heap[H + 1]? = some (.cells #[.bool false, .int .u64 0, .int .u64 0, .int .u64 0, .int .u64 0, .int .u64 0, .int .u64 0, .int .u64 0, .int .u64 0, .int .u64 0, .int .u64 0, .int .u64 0, .int .u64 0, .int .u64 0, .int .u64 0] 138)) := by
  show _ = _
  rw [hwA, hH]
  have := heap_alloc_new (w.alloc (.cells #[.int .i64 op, .slice ca cn cc, .slice pa K pc] 56)) (.cells #[.bool false, .int .u64 0, .int .u64 0, .int .u64 0, .int .u64 0, .int .u64 0, .int .u64 0, .int .u64 0, .int .u64 0, .int .u64 0, .int .u64 0, .int .u64 0, .int .u64 0, .int .u64 0, .int .u64 0] 138)
  rw [show (w.alloc (.cells #[.int .i64 op, .slice ca cn cc, .slice pa K pc] 56)).heap.size = w.heap.size + 1 by simp] at this
  exact this
 have n0 : wA.cell? ⟨H, 0, none⟩ = some (.int .i64 op) := cell_of_row wA H 0 _ _ _ HN.out
 have n1 : wA.cell? ⟨H, 1, none⟩ = some (.slice ca cn cc) := cell_of_row wA H 1 _ _ _ HN.out
 have n2 : wA.cell? ⟨H, 2, none⟩ = some (.slice pa K pc) := cell_of_row wA H 2 _ _ _ HN.out
 have HOP1 : Hid (op = 5) := by show op = _; rw [hop]; exact hop0
 rw [← hop, ← hcn, ← hK]
 clear HP hin hbd hcls hrc hrcl hkids hT hcnt hop0 hop hcn hK hb0 hpl hbA
 go_enter Tryd.func77, Tryd.ntmps77
 go_upto_region 1 with fail
 rw [← hH, ← hwA]
 clear hH hwA
 have hop := HOP1.out
 have h0 : n.op = 5 := by rw [← HOP.out]; exact hop
 subst hop
 have hk1 : (toL n.kids).length = 1 := by have := HRC.out; rw [h0] at this; simpa [rcB] using this
 obtain ⟨b, off, xa, xc, ya, yc, d', hpa, hkid, hd', c0', c1', c2'⟩ := HIN.out.kid 0 (by omega)
 subst hpa
 obtain ⟨x, hx⟩ : ∃ x, x = (toL n.kids)[0] := ⟨_, rfl⟩
 rw [← hx] at hkid c0' c1' c2'
 have hxl : toL n.kids = [x] := by
  obtain ⟨y, hy⟩ := List.length_eq_one_iff.1 hk1
  rw [hx]
  simp [hy]
 obtain ⟨p, hp⟩ : ∃ p, p = (x.span l).1 := ⟨_, rfl⟩
 obtain ⟨m1, hm1⟩ : ∃ m1, m1 = (x.span l).2 := ⟨_, rfl⟩
 have hxo : okN dd x = true := HKO.out x (by rw [hxl]; simp)
 have HSP : Hid (n.span l = (⟨true, p.fi, p.en⟩, m1)) := by
  show _ = _
  unfold Nd.span
  rw [h0, spF_L, spF_L, hxl, hp, hm1]
  simp [topQ, spL, stepQ]
 have hsx := span_ok x (right_of_ok dd x hxo) l
 have HSE : Hid (∀ q, p.en.testBit q = true → q < m1.length) := fun q hq => by
  rw [hp] at hq
  rw [hm1]
  exact (hsx.isin.en q hq).2
 have hKK : K = 1 := by rw [HK.out]; exact hk1
 subst hKK
 have c0 := upC HB0A.out c0'
 have c1 := upC HB0A.out c1'
 have c2 := upC HB0A.out c2'
 rw [Nat.zero_mul, Nat.add_zero] at c0 c1 c2
 have HC : Hid (Calls Tryd.prog 77 #[.pointer (some ⟨bp, 0, none⟩), .agg #[.int .i64 x.op, .slice xa x.cl.length xc, .slice ya (toL x.kids).length yc]] wA fun e w' => e = .returned (.agg #[.bool p.em, .int .u64 (nw p.fi 0 : Int), .int .u64 (nw p.fi 1 : Int), .int .u64 (nw p.fi 2 : Int), .int .u64 (nw p.fi 3 : Int), .int .u64 (nw p.fi 4 : Int), .int .u64 (nw p.fi 5 : Int), .int .u64 (nw p.fi 6 : Int), .int .u64 (nw p.en 0 : Int), .int .u64 (nw p.en 1 : Int), .int .u64 (nw p.en 2 : Int), .int .u64 (nw p.en 3 : Int), .int .u64 (nw p.en 4 : Int), .int .u64 (nw p.en 5 : Int), .int .u64 (nw p.en 6 : Int)]) ∧ (∃ cs' v', PlanAt w0.heap.size w' bp cs' v' wh m1) ∧ Below w0.heap.size w0 w' ∧ FrS wA w') := by
  rw [hp, hm1]
  refine (HPC.out d' (by omega) x dd xa ya xc yc w0 wA bp cs v wh l hxo hkid HB0A.out HTD.out HPA.out (by have := HCNT.out; rw [cnt_eq, hxl] at this; simp [cntL] at this; omega)).mono ?_
  rintro e w' ⟨h1, h2, h3, h4⟩
  exact ⟨h1, h2, h3, h4⟩
 obtain ⟨xo, hxo⟩ : ∃ xo, xo = x.op := ⟨_, rfl⟩
 obtain ⟨xn, hxn⟩ : ∃ xn, xn = x.cl.length := ⟨_, rfl⟩
 obtain ⟨xk, hxk⟩ : ∃ xk, xk = (toL x.kids).length := ⟨_, rfl⟩
 rw [← hxo] at c0 HC
 rw [← hxn] at c1 HC
 rw [← hxk] at c2 HC
 clear hkid c0' c1' c2' hxo hxn hxk hd' hsx hx hxl hp hm1 hk1
 go_wp2_with fail
 refine HC.out.mono ?_
 rintro e w2 ⟨rfl, hp2, hb2, hf2⟩
 obtain ⟨P, hP⟩ : ∃ P, P = w2.heap.size := ⟨_, rfl⟩
 obtain ⟨w3, hw3⟩ : ∃ w3, w3 = w2.alloc (.cells #[.bool p.em, .int .u64 (nw p.fi 0 : Int), .int .u64 (nw p.fi 1 : Int), .int .u64 (nw p.fi 2 : Int), .int .u64 (nw p.fi 3 : Int), .int .u64 (nw p.fi 4 : Int), .int .u64 (nw p.fi 5 : Int), .int .u64 (nw p.fi 6 : Int), .int .u64 (nw p.en 0 : Int), .int .u64 (nw p.en 1 : Int), .int .u64 (nw p.en 2 : Int), .int .u64 (nw p.en 3 : Int), .int .u64 (nw p.en 4 : Int), .int .u64 (nw p.en 5 : Int), .int .u64 (nw p.en 6 : Int)] 138) := ⟨_, rfl⟩
 have hb23 : Below w2.heap.size w2 w3 := by rw [hw3]; exact (Below.refl _ w2).alloc (Nat.le_refl _) _
 have HP3 : Hid (w3.heap[P]? = some (.cells (spnA p) 138)) := by show _ = _; rw [hw3, hP]; exact heap_alloc_new w2 _
 have HPL3 : Hid (∃ cs' v', PlanAt w0.heap.size w3 bp cs' v' wh m1) := by obtain ⟨c1, u1, hp1⟩ := hp2; exact ⟨c1, u1, hp1.later hb23⟩
 have HB3 : Hid (Below w0.heap.size w0 w3) := hb2.trans (hb23.mono hb2.size)
 have HF3 : Hid (FrS w w3) := ((FrS.below HBA.out).trans hf2).trans (FrS.below hb23)
 have HRS2 := hf2.same _ _ _ _ HRES.out (by decide) (by decide)
 have HRS3 : Hid (w3.heap[H + 1]? = some (.cells #[.bool false, .int .u64 0, .int .u64 0, .int .u64 0, .int .u64 0, .int .u64 0, .int .u64 0, .int .u64 0, .int .u64 0, .int .u64 0, .int .u64 0, .int .u64 0, .int .u64 0, .int .u64 0, .int .u64 0] 138)) := (hb23.block _ (Array.getElem?_eq_some_iff.1 HRS2).1).trans HRS2
 have HPH : Hid (w.heap.size ≤ P ∧ w0.heap.size ≤ P ∧ P ≠ H + 1) := ⟨by rw [hP]; exact Nat.le_trans HBA.out.size hf2.size, by rw [hP]; exact hb2.size, fun e => by have := (Array.getElem?_eq_some_iff.1 HRS2).1; omega⟩
 clear HC hp2 hb2 hf2 hb23 HRS2 n0 n1 n2 c0 c1 c2
 go_upto_region 15 with fail
 rw [← hP, ← hw3]
 clear hP hw3
 have q0 : w3.cell? ⟨P, 0, none⟩ = some (.bool p.em) := cell_of_row w3 P 0 _ _ _ HP3.out
 have q1 : w3.frozen? ⟨P, 0, none⟩ = false := Lib.frozen_of_heap HP3.out 0
 obtain ⟨w5, hw5⟩ : ∃ w5, w5 = w3.setCell ⟨P, 0, none⟩ (.bool true) := ⟨_, rfl⟩
 have hg5 : w3.grownBy w5 (some P) := by rw [hw5]; exact grown_cell w3 P 0 _
 have HP5 : Hid (w5.heap[P]? = some (.cells (spnA ⟨true, p.fi, p.en⟩) 138)) := by show _ = _; rw [hw5]; exact heap_setCell_same w3 P 0 _ _ _ HP3.out
 have HPL5 : Hid (∃ cs' v', PlanAt w0.heap.size w5 bp cs' v' wh (n.span l).2) := by
  obtain ⟨c1, u1, hp1⟩ := HPL3.out
  rw [HSP.out]
  exact ⟨_, _, hp1.kept hg5 HP3.out (by decide) (by decide)⟩
 have HB5 : Hid (Below w0.heap.size w0 w5) := HB3.out.grown hg5 HB3.out.size (fun k e => by cases e; exact HPH.out.2.1)
 have HF5 : Hid (FrS w w5) := HF3.out.new hg5 HPH.out.1
 have HRS5 : Hid (w5.heap[H + 1]? = some (.cells #[.bool false, .int .u64 0, .int .u64 0, .int .u64 0, .int .u64 0, .int .u64 0, .int .u64 0, .int .u64 0, .int .u64 0, .int .u64 0, .int .u64 0, .int .u64 0, .int .u64 0, .int .u64 0, .int .u64 0] 138)) := (hg5.block _ (Array.getElem?_eq_some_iff.1 HRS3.out).1 (fun e => HPH.out.2.2 (Option.some.inj e).symm)).trans HRS3.out
 clear hg5
 go_upto_region 16 with fail
 rw [← hw5]
 clear hw5 q0 q1
 have a0 : w5.cell? ⟨P, 0, none⟩ = some (.bool true) := cell_of_row w5 P 0 _ _ _ HP5.out
 have a1 : w5.cell? ⟨P, 1, none⟩ = some (.int .u64 (nw p.fi 0 : Int)) := cell_of_row w5 P 1 _ _ _ HP5.out
 have a2 : w5.cell? ⟨P, 2, none⟩ = some (.int .u64 (nw p.fi 1 : Int)) := cell_of_row w5 P 2 _ _ _ HP5.out
 have a3 : w5.cell? ⟨P, 3, none⟩ = some (.int .u64 (nw p.fi 2 : Int)) := cell_of_row w5 P 3 _ _ _ HP5.out
 have a4 : w5.cell? ⟨P, 4, none⟩ = some (.int .u64 (nw p.fi 3 : Int)) := cell_of_row w5 P 4 _ _ _ HP5.out
 have a5 : w5.cell? ⟨P, 5, none⟩ = some (.int .u64 (nw p.fi 4 : Int)) := cell_of_row w5 P 5 _ _ _ HP5.out
 have a6 : w5.cell? ⟨P, 6, none⟩ = some (.int .u64 (nw p.fi 5 : Int)) := cell_of_row w5 P 6 _ _ _ HP5.out
 have a7 : w5.cell? ⟨P, 7, none⟩ = some (.int .u64 (nw p.fi 6 : Int)) := cell_of_row w5 P 7 _ _ _ HP5.out
 have a8 : w5.cell? ⟨P, 8, none⟩ = some (.int .u64 (nw p.en 0 : Int)) := cell_of_row w5 P 8 _ _ _ HP5.out
 have a9 : w5.cell? ⟨P, 9, none⟩ = some (.int .u64 (nw p.en 1 : Int)) := cell_of_row w5 P 9 _ _ _ HP5.out
 have a10 : w5.cell? ⟨P, 10, none⟩ = some (.int .u64 (nw p.en 2 : Int)) := cell_of_row w5 P 10 _ _ _ HP5.out
 have a11 : w5.cell? ⟨P, 11, none⟩ = some (.int .u64 (nw p.en 3 : Int)) := cell_of_row w5 P 11 _ _ _ HP5.out
 have a12 : w5.cell? ⟨P, 12, none⟩ = some (.int .u64 (nw p.en 4 : Int)) := cell_of_row w5 P 12 _ _ _ HP5.out
 have a13 : w5.cell? ⟨P, 13, none⟩ = some (.int .u64 (nw p.en 5 : Int)) := cell_of_row w5 P 13 _ _ _ HP5.out
 have a14 : w5.cell? ⟨P, 14, none⟩ = some (.int .u64 (nw p.en 6 : Int)) := cell_of_row w5 P 14 _ _ _ HP5.out
 have d0 : w5.cell? ⟨H + 1, 0, none⟩ = some (.bool false) := cell_of_row w5 (H + 1) 0 _ _ _ HRS5.out
 have e0 : w5.frozen? ⟨H + 1, 0, none⟩ = false := Lib.frozen_of_heap HRS5.out 0
 have d1 : w5.cell? ⟨H + 1, 1, none⟩ = some (.int .u64 0) := cell_of_row w5 (H + 1) 1 _ _ _ HRS5.out
 have e1 : w5.frozen? ⟨H + 1, 1, none⟩ = false := Lib.frozen_of_heap HRS5.out 1
 have d2 : w5.cell? ⟨H + 1, 2, none⟩ = some (.int .u64 0) := cell_of_row w5 (H + 1) 2 _ _ _ HRS5.out
 have e2 : w5.frozen? ⟨H + 1, 2, none⟩ = false := Lib.frozen_of_heap HRS5.out 2
 have d3 : w5.cell? ⟨H + 1, 3, none⟩ = some (.int .u64 0) := cell_of_row w5 (H + 1) 3 _ _ _ HRS5.out
 have e3 : w5.frozen? ⟨H + 1, 3, none⟩ = false := Lib.frozen_of_heap HRS5.out 3
 have d4 : w5.cell? ⟨H + 1, 4, none⟩ = some (.int .u64 0) := cell_of_row w5 (H + 1) 4 _ _ _ HRS5.out
 have e4 : w5.frozen? ⟨H + 1, 4, none⟩ = false := Lib.frozen_of_heap HRS5.out 4
 have d5 : w5.cell? ⟨H + 1, 5, none⟩ = some (.int .u64 0) := cell_of_row w5 (H + 1) 5 _ _ _ HRS5.out
 have e5 : w5.frozen? ⟨H + 1, 5, none⟩ = false := Lib.frozen_of_heap HRS5.out 5
 have d6 : w5.cell? ⟨H + 1, 6, none⟩ = some (.int .u64 0) := cell_of_row w5 (H + 1) 6 _ _ _ HRS5.out
 have e6 : w5.frozen? ⟨H + 1, 6, none⟩ = false := Lib.frozen_of_heap HRS5.out 6
 have d7 : w5.cell? ⟨H + 1, 7, none⟩ = some (.int .u64 0) := cell_of_row w5 (H + 1) 7 _ _ _ HRS5.out
 have e7 : w5.frozen? ⟨H + 1, 7, none⟩ = false := Lib.frozen_of_heap HRS5.out 7
 have d8 : w5.cell? ⟨H + 1, 8, none⟩ = some (.int .u64 0) := cell_of_row w5 (H + 1) 8 _ _ _ HRS5.out
 have e8 : w5.frozen? ⟨H + 1, 8, none⟩ = false := Lib.frozen_of_heap HRS5.out 8
 have d9 : w5.cell? ⟨H + 1, 9, none⟩ = some (.int .u64 0) := cell_of_row w5 (H + 1) 9 _ _ _ HRS5.out
 have e9 : w5.frozen? ⟨H + 1, 9, none⟩ = false := Lib.frozen_of_heap HRS5.out 9
 have d10 : w5.cell? ⟨H + 1, 10, none⟩ = some (.int .u64 0) := cell_of_row w5 (H + 1) 10 _ _ _ HRS5.out
 have e10 : w5.frozen? ⟨H + 1, 10, none⟩ = false := Lib.frozen_of_heap HRS5.out 10
 have d11 : w5.cell? ⟨H + 1, 11, none⟩ = some (.int .u64 0) := cell_of_row w5 (H + 1) 11 _ _ _ HRS5.out
 have e11 : w5.frozen? ⟨H + 1, 11, none⟩ = false := Lib.frozen_of_heap HRS5.out 11
 have d12 : w5.cell? ⟨H + 1, 12, none⟩ = some (.int .u64 0) := cell_of_row w5 (H + 1) 12 _ _ _ HRS5.out
 have e12 : w5.frozen? ⟨H + 1, 12, none⟩ = false := Lib.frozen_of_heap HRS5.out 12
 have d13 : w5.cell? ⟨H + 1, 13, none⟩ = some (.int .u64 0) := cell_of_row w5 (H + 1) 13 _ _ _ HRS5.out
 have e13 : w5.frozen? ⟨H + 1, 13, none⟩ = false := Lib.frozen_of_heap HRS5.out 13
 have d14 : w5.cell? ⟨H + 1, 14, none⟩ = some (.int .u64 0) := cell_of_row w5 (H + 1) 14 _ _ _ HRS5.out
 have e14 : w5.frozen? ⟨H + 1, 14, none⟩ = false := Lib.frozen_of_heap HRS5.out 14
 have HFIN : Hid (∀ v0 v1 v2 v3 v4 v5 v6 v7 v8 v9 v10 v11 v12 v13 v14, (∃ c'' v'', PlanAt w0.heap.size ((((((((((((((((w5).setCell ⟨H + 1, 0, none⟩ v0).setCell ⟨H + 1, 1, none⟩ v1).setCell ⟨H + 1, 2, none⟩ v2).setCell ⟨H + 1, 3, none⟩ v3).setCell ⟨H + 1, 4, none⟩ v4).setCell ⟨H + 1, 5, none⟩ v5).setCell ⟨H + 1, 6, none⟩ v6).setCell ⟨H + 1, 7, none⟩ v7).setCell ⟨H + 1, 8, none⟩ v8).setCell ⟨H + 1, 9, none⟩ v9).setCell ⟨H + 1, 10, none⟩ v10).setCell ⟨H + 1, 11, none⟩ v11).setCell ⟨H + 1, 12, none⟩ v12).setCell ⟨H + 1, 13, none⟩ v13).setCell ⟨H + 1, 14, none⟩ v14) bp c'' v'' wh (n.span l).2) ∧ Below w0.heap.size w0 ((((((((((((((((w5).setCell ⟨H + 1, 0, none⟩ v0).setCell ⟨H + 1, 1, none⟩ v1).setCell ⟨H + 1, 2, none⟩ v2).setCell ⟨H + 1, 3, none⟩ v3).setCell ⟨H + 1, 4, none⟩ v4).setCell ⟨H + 1, 5, none⟩ v5).setCell ⟨H + 1, 6, none⟩ v6).setCell ⟨H + 1, 7, none⟩ v7).setCell ⟨H + 1, 8, none⟩ v8).setCell ⟨H + 1, 9, none⟩ v9).setCell ⟨H + 1, 10, none⟩ v10).setCell ⟨H + 1, 11, none⟩ v11).setCell ⟨H + 1, 12, none⟩ v12).setCell ⟨H + 1, 13, none⟩ v13).setCell ⟨H + 1, 14, none⟩ v14) ∧ FrS w ((((((((((((((((w5).setCell ⟨H + 1, 0, none⟩ v0).setCell ⟨H + 1, 1, none⟩ v1).setCell ⟨H + 1, 2, none⟩ v2).setCell ⟨H + 1, 3, none⟩ v3).setCell ⟨H + 1, 4, none⟩ v4).setCell ⟨H + 1, 5, none⟩ v5).setCell ⟨H + 1, 6, none⟩ v6).setCell ⟨H + 1, 7, none⟩ v7).setCell ⟨H + 1, 8, none⟩ v8).setCell ⟨H + 1, 9, none⟩ v9).setCell ⟨H + 1, 10, none⟩ v10).setCell ⟨H + 1, 11, none⟩ v11).setCell ⟨H + 1, 12, none⟩ v12).setCell ⟨H + 1, 13, none⟩ v13).setCell ⟨H + 1, 14, none⟩ v14)) := fun v0 v1 v2 v3 v4 v5 v6 v7 v8 v9 v10 v11 v12 v13 v14 => by
  have hg : w5.grownBy ((((((((((((((((w5).setCell ⟨H + 1, 0, none⟩ v0).setCell ⟨H + 1, 1, none⟩ v1).setCell ⟨H + 1, 2, none⟩ v2).setCell ⟨H + 1, 3, none⟩ v3).setCell ⟨H + 1, 4, none⟩ v4).setCell ⟨H + 1, 5, none⟩ v5).setCell ⟨H + 1, 6, none⟩ v6).setCell ⟨H + 1, 7, none⟩ v7).setCell ⟨H + 1, 8, none⟩ v8).setCell ⟨H + 1, 9, none⟩ v9).setCell ⟨H + 1, 10, none⟩ v10).setCell ⟨H + 1, 11, none⟩ v11).setCell ⟨H + 1, 12, none⟩ v12).setCell ⟨H + 1, 13, none⟩ v13).setCell ⟨H + 1, 14, none⟩ v14) (some (H + 1)) := grown_put (i := 14) v14 (grown_put (i := 13) v13 (grown_put (i := 12) v12 (grown_put (i := 11) v11 (grown_put (i := 10) v10 (grown_put (i := 9) v9 (grown_put (i := 8) v8 (grown_put (i := 7) v7 (grown_put (i := 6) v6 (grown_put (i := 5) v5 (grown_put (i := 4) v4 (grown_put (i := 3) v3 (grown_put (i := 2) v2 (grown_put (i := 1) v1 (grown_put (i := 0) v0 (grown_refl w5 (some (H + 1)))))))))))))))))
  obtain ⟨c1, u1, hp1⟩ := HPL5.out
  exact ⟨⟨_, _, hp1.kept hg HRS5.out (by decide) (by decide)⟩, (HB5.out).grown hg (HB5.out).size (fun k e => by cases e; exact HHW.out.2), (HF5.out).new hg HHW.out.1⟩
 go_wp2_with fail
 refine bodyPost_ret (v := .agg (spnA (n.span l).1)) ?_ rfl ⟨rfl, HFIN.out _ _ _ _ _ _ _ _ _ _ _ _ _ _ _⟩
 rw [results_cell_one rfl]
 go_simp
 rw [HSP.out]; rfl
end Go.Proofs.YtclogekfdmikpaaDoor
