/- The walk of row. -/
import Derived.Test.YtclogekfdmikpaaDoorJ07
namespace Go.Proofs.YtclogekfdmikpaaDoor
open Go.RowKit Go.Shelf
set_option linter.unusedVariables false
set_option linter.unusedSimpArgs false

theorem spn_fi (s : Sp) : NsIn (spnA s) 1 s.fi := fun i hi => by
 match i, hi with
 | 0, _ => rfl
 | 1, _ => rfl
 | 2, _ => rfl
 | 3, _ => rfl
 | 4, _ => rfl
 | 5, _ => rfl
 | 6, _ => rfl
theorem spn_en (s : Sp) : NsIn (spnA s) 8 s.en := fun i hi => by
 match i, hi with
 | 0, _ => rfl
 | 1, _ => rfl
 | 2, _ => rfl
 | 3, _ => rfl
 | 4, _ => rfl
 | 5, _ => rfl
 | 6, _ => rfl
set_option maxRecDepth 100000 in
set_option maxHeartbeats 8000000 in
theorem row_of (D : Nat) (HP : ∀ D', D' < D → SpC D') (n : Nd) (dd : Nat) (ca pa : Option Addr) (cc pc : Nat) (w0 w : World) (bp : Nat) (cs : Array Value) (v : Value) (wh : Bool) (l : Pl) (hok : ∀ x, x ∈ toL n.kids → okN dd x = true)
 (hin : InV w0.heap.size w0 D n [.int .i64 n.op, .slice ca n.cl.length cc, .slice pa (toL n.kids).length pc]) (hb0 : Below w0.heap.size w0 w) (hT : TabD w0) (hpl : PlanAt w0.heap.size w bp cs v wh l) (hcnt : l.length + cntL (toL n.kids) ≤ 400) :
 Calls Tryd.prog 87 #[.pointer (some ⟨bp, 0, none⟩), .slice pa (toL n.kids).length pc] w fun e w' => e = .returned (.agg (spnA (spL true (toL n.kids) ⟨true, 0, 0⟩ l).1)) ∧ (∃ cs' v', PlanAt w0.heap.size w' bp cs' v' wh (spL true (toL n.kids) ⟨true, 0, 0⟩ l).2) ∧ Below w0.heap.size w0 w' ∧ FrS w w' := by
 have HPC : Hid (∀ D', D' < D → SpC D') := HP
 have HIN : Hid (InV w0.heap.size w0 D n [.int .i64 n.op, .slice ca n.cl.length cc, .slice pa (toL n.kids).length pc]) := hin
 obtain ⟨K, hK⟩ : ∃ K, K = (toL n.kids).length := ⟨_, rfl⟩
 have hbd := hin.bounds
 have hKi : (K : Int) ≤ 2600000000000 := by omega
 obtain ⟨kl, hkl⟩ : ∃ kl, kl = toL n.kids := ⟨_, rfl⟩
 have HKL : Hid (kl = toL n.kids ∧ K = kl.length) := ⟨hkl, by rw [hkl]; exact hK⟩
 have HOK : Hid (∀ x, x ∈ kl → okN dd x = true) := by rw [hkl]; exact hok
 have HCNT : Hid (l.length + cntL kl ≤ 400) := by rw [hkl]; exact hcnt
 have HTD : Hid (TabD w0) := hT
 obtain ⟨wA, hwA⟩ : ∃ wA, wA = (w.alloc (.cells #[.bool false, .int .u64 0, .int .u64 0, .int .u64 0, .int .u64 0, .int .u64 0, .int .u64 0, .int .u64 0, .int .u64 0, .int .u64 0, .int .u64 0, .int .u64 0, .int .u64 0, .int .u64 0, .int .u64 0] 138)).alloc (.cells #[.bool true, .int .u64 0, .int .u64 0, .int .u64 0, .int .u64 0, .int .u64 0, .int .u64 0, .int .u64 0, .int .u64 0, .int .u64 0, .int .u64 0, .int .u64 0, .int .u64 0, .int .u64 0, .int .u64 0] 138) := ⟨_, rfl⟩
 obtain ⟨H, hH⟩ : ∃ H, H = w.heap.size := ⟨_, rfl⟩
 have HHW : Hid (w.heap.size ≤ H ∧ w0.heap.size ≤ H) := by rw [hH]; exact ⟨Nat.le_refl _, hb0.size⟩
 have HR0 : Hid (RwAt w0 w wA H bp wh (spL true (kl.take 0) ⟨true, 0, 0⟩ l).1 (spL true (kl.take 0) ⟨true, 0, 0⟩ l).2) := by
  have hbA : Below w.heap.size w wA := by rw [hwA]; exact ((Below.refl _ w).alloc (Nat.le_refl _) _).alloc (by simp) _
  refine ⟨⟨cs, v, hpl.later hbA⟩, hb0.trans (hbA.mono hb0.size), FrS.below hbA, ?_, ?_⟩
  ·rw [hwA, hH]
   exact (((Below.refl _ (w.alloc _)).alloc (Nat.le_refl _) _).block w.heap.size (by simp)).trans (heap_alloc_new w _)
  ·rw [hwA, hH]
   have := heap_alloc_new (w.alloc (.cells #[.bool false, .int .u64 0, .int .u64 0, .int .u64 0, .int .u64 0, .int .u64 0, .int .u64 0, .int .u64 0, .int .u64 0, .int .u64 0, .int .u64 0, .int .u64 0, .int .u64 0, .int .u64 0, .int .u64 0] 138)) (.cells #[.bool true, .int .u64 0, .int .u64 0, .int .u64 0, .int .u64 0, .int .u64 0, .int .u64 0, .int .u64 0, .int .u64 0, .int .u64 0, .int .u64 0, .int .u64 0, .int .u64 0, .int .u64 0, .int .u64 0] 138)
   rw [show (w.alloc (.cells #[.bool false, .int .u64 0, .int .u64 0, .int .u64 0, .int .u64 0, .int .u64 0, .int .u64 0, .int .u64 0, .int .u64 0, .int .u64 0, .int .u64 0, .int .u64 0, .int .u64 0, .int .u64 0, .int .u64 0] 138)).heap.size = w.heap.size + 1 by simp] at this
   rw [this]
   simp [spL, spnA, nwV, nw_zero]
 rw [← hkl, show kl.length = K from HKL.out.2.symm]
 clear HP hin hbd hK hkl hok hcnt hT hpl hb0
 go_enter Tryd.func87, Tryd.ntmps87
 go_upto_region 2 with fail
 rw [← hH, ← hwA]
 clear hH hwA
 go_wp2
 go_loopw [12] (fun x12 wr => ∃ k : Nat, k ≤ K ∧ x12 = .int .i64 k ∧ RwAt w0 w wr H bp wh (spL true (kl.take k) ⟨true, 0, 0⟩ l).1 (spL true (kl.take k) ⟨true, 0, 0⟩ l).2) (fun x12 _ => K - (intOf x12).toNat)
 case atStart => exact ⟨0, by omega, rfl, HR0.out⟩
 case round =>
  obtain ⟨k, hk, hx12, hr⟩ := hrel
  subst hx12
  by_cases hlt : k < K
  ·have hkn : k < kl.length := by rw [← HKL.out.2]; exact hlt
   have hkn' : k < (toL n.kids).length := by rw [← HKL.out.1]; exact hkn
   obtain ⟨b, off, xa, xc, ya, yc, d', hpa, hkid, hd', c0', c1', c2'⟩ := HIN.out.kid k hkn'
   subst hpa
   obtain ⟨x, hx⟩ : ∃ x, x = (toL n.kids)[k] := ⟨_, rfl⟩
   rw [← hx] at hkid c0' c1' c2'
   have HXK : Hid (x = kl[k]) := by show x = _; rw [hx]; simp [HKL.out.1]
   obtain ⟨s, hs⟩ : ∃ s, s = (spL true (kl.take k) ⟨true, 0, 0⟩ l).1 := ⟨_, rfl⟩
   obtain ⟨m, hm⟩ : ∃ m, m = (spL true (kl.take k) ⟨true, 0, 0⟩ l).2 := ⟨_, rfl⟩
   obtain ⟨p, hp⟩ : ∃ p, p = (x.span m).1 := ⟨_, rfl⟩
   obtain ⟨m1, hm1⟩ : ∃ m1, m1 = (x.span m).2 := ⟨_, rfl⟩
   rw [← hs, ← hm] at hr
   have hright : ∀ y, y ∈ kl.take k → y.right := fun y hy => right_of_ok dd y (HOK.out y (List.mem_of_mem_take hy))
   have hxr : x.right := right_of_ok dd x (HOK.out x (by rw [HXK.out]; exact List.getElem_mem hkn))
   have hins := spL_ok true (kl.take k) hright true l
   rw [← hs, ← hm] at hins
   have hslen := span_len x m
   rw [← hm1] at hslen
   have hct := cntL_take kl k hkn
   have hmc : m.length + x.cnt ≤ 400 := by
    have := HCNT.out
    rw [← HXK.out] at hct
    omega
   have HNX : Hid (stepQ true s (p, m1) = spL true (kl.take (k + 1)) ⟨true, 0, 0⟩ l) := by
    show _ = _
    rw [take_snoc kl k hkn, spL_snoc, ← hs, ← hm, ← HXK.out, hp, hm1]
   have HSE : Hid (∀ q, s.en.testBit q = true → q < m1.length) := fun q hq => by
    have := (hins.1.en q hq)
    omega
   have HRW : Hid (RwAt w0 w wr H bp wh s m) := hr
   have c0 := upC HRW.out.bel c0'
   have c1 := upC HRW.out.bel c1'
   have c2 := upC HRW.out.bel c2'
   have HV : Hid (∀ (W1 : World), Below wr.heap.size wr W1 → Calls Tryd.prog 77 #[.pointer (some ⟨bp, 0, none⟩), .agg #[.int .i64 x.op, .slice xa x.cl.length xc, .slice ya (toL x.kids).length yc]] W1 fun e w' => e = .returned (.agg #[.bool p.em, .int .u64 (nw p.fi 0 : Int), .int .u64 (nw p.fi 1 : Int), .int .u64 (nw p.fi 2 : Int), .int .u64 (nw p.fi 3 : Int), .int .u64 (nw p.fi 4 : Int), .int .u64 (nw p.fi 5 : Int), .int .u64 (nw p.fi 6 : Int), .int .u64 (nw p.en 0 : Int), .int .u64 (nw p.en 1 : Int), .int .u64 (nw p.en 2 : Int), .int .u64 (nw p.en 3 : Int), .int .u64 (nw p.en 4 : Int), .int .u64 (nw p.en 5 : Int), .int .u64 (nw p.en 6 : Int)]) ∧ (∃ cs' v', PlanAt w0.heap.size w' bp cs' v' wh m1) ∧ Below w0.heap.size w0 w' ∧ FrS W1 w') := by
    intro W1 hW1
    obtain ⟨cs1, v1, hp1⟩ := HRW.out.plan
    rw [hp, hm1]
    exact HPC.out d' (by omega) x dd xa ya xc yc w0 W1 bp cs1 v1 wh m (HOK.out x (by rw [HXK.out]; exact List.getElem_mem hkn)) hkid (HRW.out.bel.trans (hW1.mono HRW.out.bel.size)) HTD.out (hp1.later hW1) hmc
   obtain ⟨xo, hxo⟩ : ∃ xo, xo = x.op := ⟨_, rfl⟩
   obtain ⟨xn, hxn⟩ : ∃ xn, xn = x.cl.length := ⟨_, rfl⟩
   obtain ⟨xk, hxk⟩ : ∃ xk, xk = (toL x.kids).length := ⟨_, rfl⟩
   rw [← hxo] at c0 HV
   rw [← hxn] at c1 HV
   rw [← hxk] at c2 HV
   obtain ⟨W1, hW1⟩ : ∃ W1, W1 = wr.alloc (.cells #[.int .i64 xo, .slice xa xn xc, .slice ya xk yc] 56) := ⟨_, rfl⟩
   have HBW : Hid (Below wr.heap.size wr W1) := by rw [hW1]; exact (Below.refl _ wr).alloc (Nat.le_refl _) _
   have HC : Hid (Calls Tryd.prog 77 #[.pointer (some ⟨bp, 0, none⟩), .agg #[.int .i64 xo, .slice xa xn xc, .slice ya xk yc]] W1 fun e w' => e = .returned (.agg #[.bool p.em, .int .u64 (nw p.fi 0 : Int), .int .u64 (nw p.fi 1 : Int), .int .u64 (nw p.fi 2 : Int), .int .u64 (nw p.fi 3 : Int), .int .u64 (nw p.fi 4 : Int), .int .u64 (nw p.fi 5 : Int), .int .u64 (nw p.fi 6 : Int), .int .u64 (nw p.en 0 : Int), .int .u64 (nw p.en 1 : Int), .int .u64 (nw p.en 2 : Int), .int .u64 (nw p.en 3 : Int), .int .u64 (nw p.en 4 : Int), .int .u64 (nw p.en 5 : Int), .int .u64 (nw p.en 6 : Int)]) ∧ (∃ cs' v', PlanAt w0.heap.size w' bp cs' v' wh m1) ∧ Below w0.heap.size w0 w' ∧ FrS W1 w') := HV.out W1 HBW.out
   clear HV hkid c0' c1' c2' hxo hxn hxk hd' hr hins hslen hct hmc hright hxr hx hs hm hp hm1
   go_wp2_with fail
   rw [← hW1]
   clear hW1 c0 c1 c2
   refine HC.out.mono ?_
   rintro e w2 ⟨rfl, hp2, hb2, hf2⟩
   obtain ⟨P, hP⟩ : ∃ P, P = w2.heap.size := ⟨_, rfl⟩
   obtain ⟨w3, hw3⟩ : ∃ w3, w3 = w2.alloc (.cells #[.bool p.em, .int .u64 (nw p.fi 0 : Int), .int .u64 (nw p.fi 1 : Int), .int .u64 (nw p.fi 2 : Int), .int .u64 (nw p.fi 3 : Int), .int .u64 (nw p.fi 4 : Int), .int .u64 (nw p.fi 5 : Int), .int .u64 (nw p.fi 6 : Int), .int .u64 (nw p.en 0 : Int), .int .u64 (nw p.en 1 : Int), .int .u64 (nw p.en 2 : Int), .int .u64 (nw p.en 3 : Int), .int .u64 (nw p.en 4 : Int), .int .u64 (nw p.en 5 : Int), .int .u64 (nw p.en 6 : Int)] 138) := ⟨_, rfl⟩
   have HR3 : Hid (RwAt w0 w w3 H bp wh s m1) := by rw [hw3]; exact ((HRW.out.later HBW.out).down hp2 hb2 hf2).later ((Below.refl _ w2).alloc (Nat.le_refl _) _)
   have HP3 : Hid (w3.heap[P]? = some (.cells (spnA p) 138)) := by show _ = _; rw [hw3, hP]; exact heap_alloc_new w2 _
   have HPH : Hid (P ≠ H + 1) := fun e => by
    have h1 := (Array.getElem?_eq_some_iff.1 ((HRW.out.later HBW.out).down hp2 hb2 hf2).row).1
    omega
   clear HC hp2 hb2 hf2
   have a8 : w3.cell? ⟨H + 1, 8, none⟩ = some (.int .u64 (nw s.en 0 : Int)) := cell_of_row w3 (H + 1) 8 _ _ _ HR3.out.row
   have a9 : w3.cell? ⟨H + 1, 9, none⟩ = some (.int .u64 (nw s.en 1 : Int)) := cell_of_row w3 (H + 1) 9 _ _ _ HR3.out.row
   have a10 : w3.cell? ⟨H + 1, 10, none⟩ = some (.int .u64 (nw s.en 2 : Int)) := cell_of_row w3 (H + 1) 10 _ _ _ HR3.out.row
   have a11 : w3.cell? ⟨H + 1, 11, none⟩ = some (.int .u64 (nw s.en 3 : Int)) := cell_of_row w3 (H + 1) 11 _ _ _ HR3.out.row
   have a12 : w3.cell? ⟨H + 1, 12, none⟩ = some (.int .u64 (nw s.en 4 : Int)) := cell_of_row w3 (H + 1) 12 _ _ _ HR3.out.row
   have a13 : w3.cell? ⟨H + 1, 13, none⟩ = some (.int .u64 (nw s.en 5 : Int)) := cell_of_row w3 (H + 1) 13 _ _ _ HR3.out.row
   have a14 : w3.cell? ⟨H + 1, 14, none⟩ = some (.int .u64 (nw s.en 6 : Int)) := cell_of_row w3 (H + 1) 14 _ _ _ HR3.out.row
   have b1 : w3.cell? ⟨P, 1, none⟩ = some (.int .u64 (nw p.fi 0 : Int)) := cell_of_row w3 P 1 _ _ _ HP3.out
   have b2 : w3.cell? ⟨P, 2, none⟩ = some (.int .u64 (nw p.fi 1 : Int)) := cell_of_row w3 P 2 _ _ _ HP3.out
   have b3 : w3.cell? ⟨P, 3, none⟩ = some (.int .u64 (nw p.fi 2 : Int)) := cell_of_row w3 P 3 _ _ _ HP3.out
   have b4 : w3.cell? ⟨P, 4, none⟩ = some (.int .u64 (nw p.fi 3 : Int)) := cell_of_row w3 P 4 _ _ _ HP3.out
   have b5 : w3.cell? ⟨P, 5, none⟩ = some (.int .u64 (nw p.fi 4 : Int)) := cell_of_row w3 P 5 _ _ _ HP3.out
   have b6 : w3.cell? ⟨P, 6, none⟩ = some (.int .u64 (nw p.fi 5 : Int)) := cell_of_row w3 P 6 _ _ _ HP3.out
   have b7 : w3.cell? ⟨P, 7, none⟩ = some (.int .u64 (nw p.fi 6 : Int)) := cell_of_row w3 P 7 _ _ _ HP3.out
   have HLD : Hid (Calls Tryd.prog 89 #[.pointer (some ⟨bp, 0, none⟩), .agg #[.int .u64 (nw s.en 0 : Int), .int .u64 (nw s.en 1 : Int), .int .u64 (nw s.en 2 : Int), .int .u64 (nw s.en 3 : Int), .int .u64 (nw s.en 4 : Int), .int .u64 (nw s.en 5 : Int), .int .u64 (nw s.en 6 : Int)], .agg #[.int .u64 (nw p.fi 0 : Int), .int .u64 (nw p.fi 1 : Int), .int .u64 (nw p.fi 2 : Int), .int .u64 (nw p.fi 3 : Int), .int .u64 (nw p.fi 4 : Int), .int .u64 (nw p.fi 5 : Int), .int .u64 (nw p.fi 6 : Int)]] w3 fun e w' => e = .returned (.tuple #[]) ∧ (∃ cs' v', PlanAt w0.heap.size w' bp cs' v' wh (leadP s.en p.fi m1)) ∧ Below w0.heap.size w0 w' ∧ FrS w3 w') := by
    obtain ⟨cs1, v1, hp1⟩ := HR3.out.plan
    refine (lead_any w0 w3 bp cs1 v1 wh m1 s.en p.fi HR3.out.bel HTD.out hp1 HSE.out).mono ?_
    rintro e w' ⟨h1, h2, h3, h4⟩
    exact ⟨h1, ⟨_, _, h2⟩, h3, h4⟩
   go_upto_region 6 with fail
   rw [← hP, ← hw3]
   clear hP hw3
   go_wp2_with fail
   refine HLD.out.mono ?_
   rintro e w4 ⟨rfl, hp4, hb4, hf4⟩
   have HR4 : Hid (RwAt w0 w w4 H bp wh s (leadP s.en p.fi m1)) := HR3.out.down hp4 hb4 hf4
   have HP4 : Hid (w4.heap[P]? = some (.cells (spnA p) 138)) := hf4.same _ _ _ _ HP3.out (by decide) (by decide)
   clear HLD hp4 hb4 hf4 a8 a9 a10 a11 a12 a13 a14 b1 b2 b3 b4 b5 b6 b7
   obtain ⟨em, fi, en⟩ := s
   obtain ⟨pem, pfi, pen⟩ := p
   have z0 : w4.cell? ⟨H + 1, 0, none⟩ = some (.bool em) := cell_of_row w4 (H + 1) 0 _ _ _ HR4.out.row
   cases em with
   | true =>
    cases pem with
    | true =>
     have HJ1 : Hid (Calls Tryd.prog 83 #[.pointer (some ⟨H + 1, 1, none⟩), .pointer (some ⟨P, 1, none⟩)] w4 fun e w' => e = .returned (.tuple #[]) ∧ w4.grownBy w' (some (H + 1)) ∧ ∃ cs', w'.heap[H + 1]? = some (.cells cs' 138) ∧ JnP (spnA ⟨true, fi, en⟩) cs' 1 7 fi pfi) := join_any fi pfi w4 (H + 1) 1 P 1 (spnA ⟨true, fi, en⟩) (spnA ⟨true, pfi, pen⟩) _ _ _ (fun e => HPH.out e.symm) HR4.out.row HP4.out (spn_fi _) (spn_fi _)
     go_wp2_with fail
     refine HJ1.out.mono ?_
     rintro e w5 ⟨rfl, hg5, cs5, hc5, hj5⟩
     have he5 := jn_fi hj5
     subst he5
     have HR5 : Hid (RwAt w0 w w5 H bp wh ⟨true, fi ||| pfi, en⟩ (leadP en pfi m1)) := HR4.out.set HHW.out.1 HHW.out.2 hg5 hc5
     have HP5 : Hid (w5.heap[P]? = some (.cells (spnA ⟨true, pfi, pen⟩) 138)) := (hg5.block P (Array.getElem?_eq_some_iff.1 HP4.out).1 (fun e => HPH.out (Option.some.inj e))).trans HP4.out
     clear HJ1 hg5 hc5 hj5 z0
     have y0 : w5.cell? ⟨P, 0, none⟩ = some (.bool true) := cell_of_row w5 P 0 _ _ _ HP5.out
     have HJ2 : Hid (Calls Tryd.prog 83 #[.pointer (some ⟨H + 1, 8, none⟩), .pointer (some ⟨P, 8, none⟩)] w5 fun e w' => e = .returned (.tuple #[]) ∧ w5.grownBy w' (some (H + 1)) ∧ ∃ cs', w'.heap[H + 1]? = some (.cells cs' 138) ∧ JnP (spnA ⟨true, fi ||| pfi, en⟩) cs' 8 7 (en) pen) := join_any (en) pen w5 (H + 1) 8 P 8 (spnA ⟨true, fi ||| pfi, en⟩) (spnA ⟨true, pfi, pen⟩) _ _ _ (fun e => HPH.out e.symm) HR5.out.row HP5.out (spn_en _) (spn_en _)
     go_wp2_with fail
     refine HJ2.out.mono ?_
     rintro e w7 ⟨rfl, hg7, cs7, hc7, hj7⟩
     have he7 := jn_en hj7
     subst he7
     have HR7 : Hid (RwAt w0 w w7 H bp wh ⟨true, fi ||| pfi, en ||| pen⟩ (leadP en pfi m1)) := HR5.out.set HHW.out.1 HHW.out.2 hg7 hc7
     have HP7 : Hid (w7.heap[P]? = some (.cells (spnA ⟨true, pfi, pen⟩) 138)) := (hg7.block P (Array.getElem?_eq_some_iff.1 HP5.out).1 (fun e => HPH.out (Option.some.inj e))).trans HP5.out
     clear HJ2 hg7 hc7 hj7
     have x0 : w7.cell? ⟨H + 1, 0, none⟩ = some (.bool true) := cell_of_row w7 (H + 1) 0 _ _ _ HR7.out.row
     have x1 : w7.frozen? ⟨H + 1, 0, none⟩ = false := Lib.frozen_of_heap HR7.out.row 0
     have y1 : w7.cell? ⟨P, 0, none⟩ = some (.bool true) := cell_of_row w7 P 0 _ _ _ HP7.out
     obtain ⟨w8, hw8⟩ : ∃ w8, w8 = w7.setCell ⟨H + 1, 0, none⟩ (.bool true) := ⟨_, rfl⟩
     have HR8 : Hid (RwAt w0 w w8 H bp wh (spL true (kl.take (k + 1)) ⟨true, 0, 0⟩ l).1 (spL true (kl.take (k + 1)) ⟨true, 0, 0⟩ l).2) := by
      rw [← HNX.out, hw8]
      have := HR7.out.set (s' := (stepQ true ⟨true, fi, en⟩ (⟨true, pfi, pen⟩, m1)).1) HHW.out.1 HHW.out.2 (grown_cell w7 (H + 1) 0 (.bool true)) (heap_setCell_same w7 (H + 1) 0 _ _ _ HR7.out.row)
      exact this
     go_wp2
     rw [← hw8]
     clear hw8 x0 x1 y1
     go_roundw
     case rel => exact ⟨k + 1, by omega, by go_num, HR8.out⟩
     case measure => simp [intOf]; omega
    | false =>
     have HJ1 : Hid (Calls Tryd.prog 83 #[.pointer (some ⟨H + 1, 1, none⟩), .pointer (some ⟨P, 1, none⟩)] w4 fun e w' => e = .returned (.tuple #[]) ∧ w4.grownBy w' (some (H + 1)) ∧ ∃ cs', w'.heap[H + 1]? = some (.cells cs' 138) ∧ JnP (spnA ⟨true, fi, en⟩) cs' 1 7 fi pfi) := join_any fi pfi w4 (H + 1) 1 P 1 (spnA ⟨true, fi, en⟩) (spnA ⟨false, pfi, pen⟩) _ _ _ (fun e => HPH.out e.symm) HR4.out.row HP4.out (spn_fi _) (spn_fi _)
     go_wp2_with fail
     refine HJ1.out.mono ?_
     rintro e w5 ⟨rfl, hg5, cs5, hc5, hj5⟩
     have he5 := jn_fi hj5
     subst he5
     have HR5 : Hid (RwAt w0 w w5 H bp wh ⟨true, fi ||| pfi, en⟩ (leadP en pfi m1)) := HR4.out.set HHW.out.1 HHW.out.2 hg5 hc5
     have HP5 : Hid (w5.heap[P]? = some (.cells (spnA ⟨false, pfi, pen⟩) 138)) := (hg5.block P (Array.getElem?_eq_some_iff.1 HP4.out).1 (fun e => HPH.out (Option.some.inj e))).trans HP4.out
     clear HJ1 hg5 hc5 hj5 z0
     have y0 : w5.cell? ⟨P, 0, none⟩ = some (.bool false) := cell_of_row w5 P 0 _ _ _ HP5.out
     have t8 : w5.cell? ⟨H + 1, 8, none⟩ = some (.int .u64 (nw en 0 : Int)) := cell_of_row w5 (H + 1) 8 _ _ _ HR5.out.row
     have f8 : w5.frozen? ⟨H + 1, 8, none⟩ = false := Lib.frozen_of_heap HR5.out.row 8
     have t9 : w5.cell? ⟨H + 1, 9, none⟩ = some (.int .u64 (nw en 1 : Int)) := cell_of_row w5 (H + 1) 9 _ _ _ HR5.out.row
     have f9 : w5.frozen? ⟨H + 1, 9, none⟩ = false := Lib.frozen_of_heap HR5.out.row 9
     have t10 : w5.cell? ⟨H + 1, 10, none⟩ = some (.int .u64 (nw en 2 : Int)) := cell_of_row w5 (H + 1) 10 _ _ _ HR5.out.row
     have f10 : w5.frozen? ⟨H + 1, 10, none⟩ = false := Lib.frozen_of_heap HR5.out.row 10
     have t11 : w5.cell? ⟨H + 1, 11, none⟩ = some (.int .u64 (nw en 3 : Int)) := cell_of_row w5 (H + 1) 11 _ _ _ HR5.out.row
     have f11 : w5.frozen? ⟨H + 1, 11, none⟩ = false := Lib.frozen_of_heap HR5.out.row 11
     have t12 : w5.cell? ⟨H + 1, 12, none⟩ = some (.int .u64 (nw en 4 : Int)) := cell_of_row w5 (H + 1) 12 _ _ _ HR5.out.row
     have f12 : w5.frozen? ⟨H + 1, 12, none⟩ = false := Lib.frozen_of_heap HR5.out.row 12
     have t13 : w5.cell? ⟨H + 1, 13, none⟩ = some (.int .u64 (nw en 5 : Int)) := cell_of_row w5 (H + 1) 13 _ _ _ HR5.out.row
     have f13 : w5.frozen? ⟨H + 1, 13, none⟩ = false := Lib.frozen_of_heap HR5.out.row 13
     have t14 : w5.cell? ⟨H + 1, 14, none⟩ = some (.int .u64 (nw en 6 : Int)) := cell_of_row w5 (H + 1) 14 _ _ _ HR5.out.row
     have f14 : w5.frozen? ⟨H + 1, 14, none⟩ = false := Lib.frozen_of_heap HR5.out.row 14
     obtain ⟨w6, hw6⟩ : ∃ w6, w6 = (((((((w5).setCell ⟨H + 1, 8, none⟩ (.int .u64 0)).setCell ⟨H + 1, 9, none⟩ (.int .u64 0)).setCell ⟨H + 1, 10, none⟩ (.int .u64 0)).setCell ⟨H + 1, 11, none⟩ (.int .u64 0)).setCell ⟨H + 1, 12, none⟩ (.int .u64 0)).setCell ⟨H + 1, 13, none⟩ (.int .u64 0)).setCell ⟨H + 1, 14, none⟩ (.int .u64 0) := ⟨_, rfl⟩
     have hg6 : w5.grownBy w6 (some (H + 1)) := by rw [hw6]; exact grown_put (i := 14) (.int .u64 0) (grown_put (i := 13) (.int .u64 0) (grown_put (i := 12) (.int .u64 0) (grown_put (i := 11) (.int .u64 0) (grown_put (i := 10) (.int .u64 0) (grown_put (i := 9) (.int .u64 0) (grown_put (i := 8) (.int .u64 0) (grown_refl w5 (some (H + 1)))))))))
     have hr6 : w6.heap[H + 1]? = some (.cells (spnA ⟨true, fi ||| pfi, 0⟩) 138) := by
      rw [hw6]
      refine Eq.trans (heap_setCell_same _ (H + 1) 14 _ _ (.int .u64 0) (heap_setCell_same _ (H + 1) 13 _ _ (.int .u64 0) (heap_setCell_same _ (H + 1) 12 _ _ (.int .u64 0) (heap_setCell_same _ (H + 1) 11 _ _ (.int .u64 0) (heap_setCell_same _ (H + 1) 10 _ _ (.int .u64 0) (heap_setCell_same _ (H + 1) 9 _ _ (.int .u64 0) (heap_setCell_same _ (H + 1) 8 _ _ (.int .u64 0) HR5.out.row))))))) ?_
      simp [spnA, nwV, nw_zero]
     have HR6 : Hid (RwAt w0 w w6 H bp wh ⟨true, fi ||| pfi, 0⟩ (leadP en pfi m1)) := HR5.out.set HHW.out.1 HHW.out.2 hg6 hr6
     have HP6 : Hid (w6.heap[P]? = some (.cells (spnA ⟨false, pfi, pen⟩) 138)) := (hg6.block P (Array.getElem?_eq_some_iff.1 HP5.out).1 (fun e => HPH.out (Option.some.inj e))).trans HP5.out
     clear hg6 hr6
     go_upto_region 11 with fail
     rw [← hw6]
     clear hw6 y0 t8 f8 t9 f9 t10 f10 t11 f11 t12 f12 t13 f13 t14 f14
     have HJ2 : Hid (Calls Tryd.prog 83 #[.pointer (some ⟨H + 1, 8, none⟩), .pointer (some ⟨P, 8, none⟩)] w6 fun e w' => e = .returned (.tuple #[]) ∧ w6.grownBy w' (some (H + 1)) ∧ ∃ cs', w'.heap[H + 1]? = some (.cells cs' 138) ∧ JnP (spnA ⟨true, fi ||| pfi, 0⟩) cs' 8 7 (0) pen) := join_any (0) pen w6 (H + 1) 8 P 8 (spnA ⟨true, fi ||| pfi, 0⟩) (spnA ⟨false, pfi, pen⟩) _ _ _ (fun e => HPH.out e.symm) HR6.out.row HP6.out (spn_en _) (spn_en _)
     go_wp2_with fail
     refine HJ2.out.mono ?_
     rintro e w7 ⟨rfl, hg7, cs7, hc7, hj7⟩
     have he7 := jn_en hj7
     subst he7
     have HR7 : Hid (RwAt w0 w w7 H bp wh ⟨true, fi ||| pfi, 0 ||| pen⟩ (leadP en pfi m1)) := HR6.out.set HHW.out.1 HHW.out.2 hg7 hc7
     have HP7 : Hid (w7.heap[P]? = some (.cells (spnA ⟨false, pfi, pen⟩) 138)) := (hg7.block P (Array.getElem?_eq_some_iff.1 HP6.out).1 (fun e => HPH.out (Option.some.inj e))).trans HP6.out
     clear HJ2 hg7 hc7 hj7
     have x0 : w7.cell? ⟨H + 1, 0, none⟩ = some (.bool true) := cell_of_row w7 (H + 1) 0 _ _ _ HR7.out.row
     have x1 : w7.frozen? ⟨H + 1, 0, none⟩ = false := Lib.frozen_of_heap HR7.out.row 0
     have y1 : w7.cell? ⟨P, 0, none⟩ = some (.bool false) := cell_of_row w7 P 0 _ _ _ HP7.out
     obtain ⟨w8, hw8⟩ : ∃ w8, w8 = w7.setCell ⟨H + 1, 0, none⟩ (.bool false) := ⟨_, rfl⟩
     have HR8 : Hid (RwAt w0 w w8 H bp wh (spL true (kl.take (k + 1)) ⟨true, 0, 0⟩ l).1 (spL true (kl.take (k + 1)) ⟨true, 0, 0⟩ l).2) := by
      rw [← HNX.out, hw8]
      have := HR7.out.set (s' := (stepQ true ⟨true, fi, en⟩ (⟨false, pfi, pen⟩, m1)).1) HHW.out.1 HHW.out.2 (grown_cell w7 (H + 1) 0 (.bool false)) (heap_setCell_same w7 (H + 1) 0 _ _ _ HR7.out.row)
      exact this
     go_wp2
     rw [← hw8]
     clear hw8 x0 x1 y1
     go_roundw
     case rel => exact ⟨k + 1, by omega, by go_num, HR8.out⟩
     case measure => simp [intOf]; omega
   | false =>
    cases pem with
    | true =>
     have y0 : w4.cell? ⟨P, 0, none⟩ = some (.bool true) := cell_of_row w4 P 0 _ _ _ HP4.out
     have HJ2 : Hid (Calls Tryd.prog 83 #[.pointer (some ⟨H + 1, 8, none⟩), .pointer (some ⟨P, 8, none⟩)] w4 fun e w' => e = .returned (.tuple #[]) ∧ w4.grownBy w' (some (H + 1)) ∧ ∃ cs', w'.heap[H + 1]? = some (.cells cs' 138) ∧ JnP (spnA ⟨false, fi, en⟩) cs' 8 7 (en) pen) := join_any (en) pen w4 (H + 1) 8 P 8 (spnA ⟨false, fi, en⟩) (spnA ⟨true, pfi, pen⟩) _ _ _ (fun e => HPH.out e.symm) HR4.out.row HP4.out (spn_en _) (spn_en _)
     go_wp2_with fail
     refine HJ2.out.mono ?_
     rintro e w7 ⟨rfl, hg7, cs7, hc7, hj7⟩
     have he7 := jn_en hj7
     subst he7
     have HR7 : Hid (RwAt w0 w w7 H bp wh ⟨false, fi, en ||| pen⟩ (leadP en pfi m1)) := HR4.out.set HHW.out.1 HHW.out.2 hg7 hc7
     have HP7 : Hid (w7.heap[P]? = some (.cells (spnA ⟨true, pfi, pen⟩) 138)) := (hg7.block P (Array.getElem?_eq_some_iff.1 HP4.out).1 (fun e => HPH.out (Option.some.inj e))).trans HP4.out
     clear HJ2 hg7 hc7 hj7
     have x0 : w7.cell? ⟨H + 1, 0, none⟩ = some (.bool false) := cell_of_row w7 (H + 1) 0 _ _ _ HR7.out.row
     have x1 : w7.frozen? ⟨H + 1, 0, none⟩ = false := Lib.frozen_of_heap HR7.out.row 0
     have y1 : w7.cell? ⟨P, 0, none⟩ = some (.bool true) := cell_of_row w7 P 0 _ _ _ HP7.out
     obtain ⟨w8, hw8⟩ : ∃ w8, w8 = w7.setCell ⟨H + 1, 0, none⟩ (.bool false) := ⟨_, rfl⟩
     have HR8 : Hid (RwAt w0 w w8 H bp wh (spL true (kl.take (k + 1)) ⟨true, 0, 0⟩ l).1 (spL true (kl.take (k + 1)) ⟨true, 0, 0⟩ l).2) := by
      rw [← HNX.out, hw8]
      have := HR7.out.set (s' := (stepQ true ⟨false, fi, en⟩ (⟨true, pfi, pen⟩, m1)).1) HHW.out.1 HHW.out.2 (grown_cell w7 (H + 1) 0 (.bool false)) (heap_setCell_same w7 (H + 1) 0 _ _ _ HR7.out.row)
      exact this
     go_wp2
     rw [← hw8]
     clear hw8 x0 x1 y1
     go_roundw
     case rel => exact ⟨k + 1, by omega, by go_num, HR8.out⟩
     case measure => simp [intOf]; omega
    | false =>
     have y0 : w4.cell? ⟨P, 0, none⟩ = some (.bool false) := cell_of_row w4 P 0 _ _ _ HP4.out
     have t8 : w4.cell? ⟨H + 1, 8, none⟩ = some (.int .u64 (nw en 0 : Int)) := cell_of_row w4 (H + 1) 8 _ _ _ HR4.out.row
     have f8 : w4.frozen? ⟨H + 1, 8, none⟩ = false := Lib.frozen_of_heap HR4.out.row 8
     have t9 : w4.cell? ⟨H + 1, 9, none⟩ = some (.int .u64 (nw en 1 : Int)) := cell_of_row w4 (H + 1) 9 _ _ _ HR4.out.row
     have f9 : w4.frozen? ⟨H + 1, 9, none⟩ = false := Lib.frozen_of_heap HR4.out.row 9
     have t10 : w4.cell? ⟨H + 1, 10, none⟩ = some (.int .u64 (nw en 2 : Int)) := cell_of_row w4 (H + 1) 10 _ _ _ HR4.out.row
     have f10 : w4.frozen? ⟨H + 1, 10, none⟩ = false := Lib.frozen_of_heap HR4.out.row 10
     have t11 : w4.cell? ⟨H + 1, 11, none⟩ = some (.int .u64 (nw en 3 : Int)) := cell_of_row w4 (H + 1) 11 _ _ _ HR4.out.row
     have f11 : w4.frozen? ⟨H + 1, 11, none⟩ = false := Lib.frozen_of_heap HR4.out.row 11
     have t12 : w4.cell? ⟨H + 1, 12, none⟩ = some (.int .u64 (nw en 4 : Int)) := cell_of_row w4 (H + 1) 12 _ _ _ HR4.out.row
     have f12 : w4.frozen? ⟨H + 1, 12, none⟩ = false := Lib.frozen_of_heap HR4.out.row 12
     have t13 : w4.cell? ⟨H + 1, 13, none⟩ = some (.int .u64 (nw en 5 : Int)) := cell_of_row w4 (H + 1) 13 _ _ _ HR4.out.row
     have f13 : w4.frozen? ⟨H + 1, 13, none⟩ = false := Lib.frozen_of_heap HR4.out.row 13
     have t14 : w4.cell? ⟨H + 1, 14, none⟩ = some (.int .u64 (nw en 6 : Int)) := cell_of_row w4 (H + 1) 14 _ _ _ HR4.out.row
     have f14 : w4.frozen? ⟨H + 1, 14, none⟩ = false := Lib.frozen_of_heap HR4.out.row 14
     obtain ⟨w6, hw6⟩ : ∃ w6, w6 = (((((((w4).setCell ⟨H + 1, 8, none⟩ (.int .u64 0)).setCell ⟨H + 1, 9, none⟩ (.int .u64 0)).setCell ⟨H + 1, 10, none⟩ (.int .u64 0)).setCell ⟨H + 1, 11, none⟩ (.int .u64 0)).setCell ⟨H + 1, 12, none⟩ (.int .u64 0)).setCell ⟨H + 1, 13, none⟩ (.int .u64 0)).setCell ⟨H + 1, 14, none⟩ (.int .u64 0) := ⟨_, rfl⟩
     have hg6 : w4.grownBy w6 (some (H + 1)) := by rw [hw6]; exact grown_put (i := 14) (.int .u64 0) (grown_put (i := 13) (.int .u64 0) (grown_put (i := 12) (.int .u64 0) (grown_put (i := 11) (.int .u64 0) (grown_put (i := 10) (.int .u64 0) (grown_put (i := 9) (.int .u64 0) (grown_put (i := 8) (.int .u64 0) (grown_refl w4 (some (H + 1)))))))))
     have hr6 : w6.heap[H + 1]? = some (.cells (spnA ⟨false, fi, 0⟩) 138) := by
      rw [hw6]
      refine Eq.trans (heap_setCell_same _ (H + 1) 14 _ _ (.int .u64 0) (heap_setCell_same _ (H + 1) 13 _ _ (.int .u64 0) (heap_setCell_same _ (H + 1) 12 _ _ (.int .u64 0) (heap_setCell_same _ (H + 1) 11 _ _ (.int .u64 0) (heap_setCell_same _ (H + 1) 10 _ _ (.int .u64 0) (heap_setCell_same _ (H + 1) 9 _ _ (.int .u64 0) (heap_setCell_same _ (H + 1) 8 _ _ (.int .u64 0) HR4.out.row))))))) ?_
      simp [spnA, nwV, nw_zero]
     have HR6 : Hid (RwAt w0 w w6 H bp wh ⟨false, fi, 0⟩ (leadP en pfi m1)) := HR4.out.set HHW.out.1 HHW.out.2 hg6 hr6
     have HP6 : Hid (w6.heap[P]? = some (.cells (spnA ⟨false, pfi, pen⟩) 138)) := (hg6.block P (Array.getElem?_eq_some_iff.1 HP4.out).1 (fun e => HPH.out (Option.some.inj e))).trans HP4.out
     clear hg6 hr6
     go_upto_region 11 with fail
     rw [← hw6]
     clear hw6 y0 t8 f8 t9 f9 t10 f10 t11 f11 t12 f12 t13 f13 t14 f14
     have HJ2 : Hid (Calls Tryd.prog 83 #[.pointer (some ⟨H + 1, 8, none⟩), .pointer (some ⟨P, 8, none⟩)] w6 fun e w' => e = .returned (.tuple #[]) ∧ w6.grownBy w' (some (H + 1)) ∧ ∃ cs', w'.heap[H + 1]? = some (.cells cs' 138) ∧ JnP (spnA ⟨false, fi, 0⟩) cs' 8 7 (0) pen) := join_any (0) pen w6 (H + 1) 8 P 8 (spnA ⟨false, fi, 0⟩) (spnA ⟨false, pfi, pen⟩) _ _ _ (fun e => HPH.out e.symm) HR6.out.row HP6.out (spn_en _) (spn_en _)
     go_wp2_with fail
     refine HJ2.out.mono ?_
     rintro e w7 ⟨rfl, hg7, cs7, hc7, hj7⟩
     have he7 := jn_en hj7
     subst he7
     have HR7 : Hid (RwAt w0 w w7 H bp wh ⟨false, fi, 0 ||| pen⟩ (leadP en pfi m1)) := HR6.out.set HHW.out.1 HHW.out.2 hg7 hc7
     have HP7 : Hid (w7.heap[P]? = some (.cells (spnA ⟨false, pfi, pen⟩) 138)) := (hg7.block P (Array.getElem?_eq_some_iff.1 HP6.out).1 (fun e => HPH.out (Option.some.inj e))).trans HP6.out
     clear HJ2 hg7 hc7 hj7
     have x0 : w7.cell? ⟨H + 1, 0, none⟩ = some (.bool false) := cell_of_row w7 (H + 1) 0 _ _ _ HR7.out.row
     have x1 : w7.frozen? ⟨H + 1, 0, none⟩ = false := Lib.frozen_of_heap HR7.out.row 0
     have y1 : w7.cell? ⟨P, 0, none⟩ = some (.bool false) := cell_of_row w7 P 0 _ _ _ HP7.out
     obtain ⟨w8, hw8⟩ : ∃ w8, w8 = w7.setCell ⟨H + 1, 0, none⟩ (.bool false) := ⟨_, rfl⟩
     have HR8 : Hid (RwAt w0 w w8 H bp wh (spL true (kl.take (k + 1)) ⟨true, 0, 0⟩ l).1 (spL true (kl.take (k + 1)) ⟨true, 0, 0⟩ l).2) := by
      rw [← HNX.out, hw8]
      have := HR7.out.set (s' := (stepQ true ⟨false, fi, en⟩ (⟨false, pfi, pen⟩, m1)).1) HHW.out.1 HHW.out.2 (grown_cell w7 (H + 1) 0 (.bool false)) (heap_setCell_same w7 (H + 1) 0 _ _ _ HR7.out.row)
      exact this
     go_wp2
     rw [← hw8]
     clear hw8 x0 x1 y1
     go_roundw
     case rel => exact ⟨k + 1, by omega, by go_num, HR8.out⟩
     case measure => simp [intOf]; omega
  ·obtain rfl : k = K := by omega
   have htk : kl.take k = kl := List.take_of_length_le (by rw [← HKL.out.2]; exact Nat.le_refl _)
   rw [htk] at hr
   obtain ⟨s, hs⟩ : ∃ s, s = (spL true kl ⟨true, 0, 0⟩ l).1 := ⟨_, rfl⟩
   obtain ⟨m, hm⟩ : ∃ m, m = (spL true kl ⟨true, 0, 0⟩ l).2 := ⟨_, rfl⟩
   rw [← hs, ← hm] at hr
   have HFR : Hid (RwAt w0 w wr H bp wh s m) := hr
   have HS : Hid (s = (spL true kl ⟨true, 0, 0⟩ l).1 ∧ m = (spL true kl ⟨true, 0, 0⟩ l).2) := ⟨hs, hm⟩
   clear hr hs hm htk
   have g0 : wr.cell? ⟨H + 1, 0, none⟩ = some (.bool s.em) := cell_of_row wr (H + 1) 0 _ _ _ HFR.out.row
   have g1 : wr.cell? ⟨H + 1, 1, none⟩ = some (.int .u64 (nw s.fi 0 : Int)) := cell_of_row wr (H + 1) 1 _ _ _ HFR.out.row
   have g2 : wr.cell? ⟨H + 1, 2, none⟩ = some (.int .u64 (nw s.fi 1 : Int)) := cell_of_row wr (H + 1) 2 _ _ _ HFR.out.row
   have g3 : wr.cell? ⟨H + 1, 3, none⟩ = some (.int .u64 (nw s.fi 2 : Int)) := cell_of_row wr (H + 1) 3 _ _ _ HFR.out.row
   have g4 : wr.cell? ⟨H + 1, 4, none⟩ = some (.int .u64 (nw s.fi 3 : Int)) := cell_of_row wr (H + 1) 4 _ _ _ HFR.out.row
   have g5 : wr.cell? ⟨H + 1, 5, none⟩ = some (.int .u64 (nw s.fi 4 : Int)) := cell_of_row wr (H + 1) 5 _ _ _ HFR.out.row
   have g6 : wr.cell? ⟨H + 1, 6, none⟩ = some (.int .u64 (nw s.fi 5 : Int)) := cell_of_row wr (H + 1) 6 _ _ _ HFR.out.row
   have g7 : wr.cell? ⟨H + 1, 7, none⟩ = some (.int .u64 (nw s.fi 6 : Int)) := cell_of_row wr (H + 1) 7 _ _ _ HFR.out.row
   have g8 : wr.cell? ⟨H + 1, 8, none⟩ = some (.int .u64 (nw s.en 0 : Int)) := cell_of_row wr (H + 1) 8 _ _ _ HFR.out.row
   have g9 : wr.cell? ⟨H + 1, 9, none⟩ = some (.int .u64 (nw s.en 1 : Int)) := cell_of_row wr (H + 1) 9 _ _ _ HFR.out.row
   have g10 : wr.cell? ⟨H + 1, 10, none⟩ = some (.int .u64 (nw s.en 2 : Int)) := cell_of_row wr (H + 1) 10 _ _ _ HFR.out.row
   have g11 : wr.cell? ⟨H + 1, 11, none⟩ = some (.int .u64 (nw s.en 3 : Int)) := cell_of_row wr (H + 1) 11 _ _ _ HFR.out.row
   have g12 : wr.cell? ⟨H + 1, 12, none⟩ = some (.int .u64 (nw s.en 4 : Int)) := cell_of_row wr (H + 1) 12 _ _ _ HFR.out.row
   have g13 : wr.cell? ⟨H + 1, 13, none⟩ = some (.int .u64 (nw s.en 5 : Int)) := cell_of_row wr (H + 1) 13 _ _ _ HFR.out.row
   have g14 : wr.cell? ⟨H + 1, 14, none⟩ = some (.int .u64 (nw s.en 6 : Int)) := cell_of_row wr (H + 1) 14 _ _ _ HFR.out.row
   have d0 : wr.cell? ⟨H, 0, none⟩ = some (.bool false) := cell_of_row wr H 0 _ _ _ HFR.out.res
   have e0 : wr.frozen? ⟨H, 0, none⟩ = false := Lib.frozen_of_heap HFR.out.res 0
   have d1 : wr.cell? ⟨H, 1, none⟩ = some (.int .u64 0) := cell_of_row wr H 1 _ _ _ HFR.out.res
   have e1 : wr.frozen? ⟨H, 1, none⟩ = false := Lib.frozen_of_heap HFR.out.res 1
   have d2 : wr.cell? ⟨H, 2, none⟩ = some (.int .u64 0) := cell_of_row wr H 2 _ _ _ HFR.out.res
   have e2 : wr.frozen? ⟨H, 2, none⟩ = false := Lib.frozen_of_heap HFR.out.res 2
   have d3 : wr.cell? ⟨H, 3, none⟩ = some (.int .u64 0) := cell_of_row wr H 3 _ _ _ HFR.out.res
   have e3 : wr.frozen? ⟨H, 3, none⟩ = false := Lib.frozen_of_heap HFR.out.res 3
   have d4 : wr.cell? ⟨H, 4, none⟩ = some (.int .u64 0) := cell_of_row wr H 4 _ _ _ HFR.out.res
   have e4 : wr.frozen? ⟨H, 4, none⟩ = false := Lib.frozen_of_heap HFR.out.res 4
   have d5 : wr.cell? ⟨H, 5, none⟩ = some (.int .u64 0) := cell_of_row wr H 5 _ _ _ HFR.out.res
   have e5 : wr.frozen? ⟨H, 5, none⟩ = false := Lib.frozen_of_heap HFR.out.res 5
   have d6 : wr.cell? ⟨H, 6, none⟩ = some (.int .u64 0) := cell_of_row wr H 6 _ _ _ HFR.out.res
   have e6 : wr.frozen? ⟨H, 6, none⟩ = false := Lib.frozen_of_heap HFR.out.res 6
   have d7 : wr.cell? ⟨H, 7, none⟩ = some (.int .u64 0) := cell_of_row wr H 7 _ _ _ HFR.out.res
   have e7 : wr.frozen? ⟨H, 7, none⟩ = false := Lib.frozen_of_heap HFR.out.res 7
   have d8 : wr.cell? ⟨H, 8, none⟩ = some (.int .u64 0) := cell_of_row wr H 8 _ _ _ HFR.out.res
   have e8 : wr.frozen? ⟨H, 8, none⟩ = false := Lib.frozen_of_heap HFR.out.res 8
   have d9 : wr.cell? ⟨H, 9, none⟩ = some (.int .u64 0) := cell_of_row wr H 9 _ _ _ HFR.out.res
   have e9 : wr.frozen? ⟨H, 9, none⟩ = false := Lib.frozen_of_heap HFR.out.res 9
   have d10 : wr.cell? ⟨H, 10, none⟩ = some (.int .u64 0) := cell_of_row wr H 10 _ _ _ HFR.out.res
   have e10 : wr.frozen? ⟨H, 10, none⟩ = false := Lib.frozen_of_heap HFR.out.res 10
   have d11 : wr.cell? ⟨H, 11, none⟩ = some (.int .u64 0) := cell_of_row wr H 11 _ _ _ HFR.out.res
   have e11 : wr.frozen? ⟨H, 11, none⟩ = false := Lib.frozen_of_heap HFR.out.res 11
   have d12 : wr.cell? ⟨H, 12, none⟩ = some (.int .u64 0) := cell_of_row wr H 12 _ _ _ HFR.out.res
   have e12 : wr.frozen? ⟨H, 12, none⟩ = false := Lib.frozen_of_heap HFR.out.res 12
   have d13 : wr.cell? ⟨H, 13, none⟩ = some (.int .u64 0) := cell_of_row wr H 13 _ _ _ HFR.out.res
   have e13 : wr.frozen? ⟨H, 13, none⟩ = false := Lib.frozen_of_heap HFR.out.res 13
   have d14 : wr.cell? ⟨H, 14, none⟩ = some (.int .u64 0) := cell_of_row wr H 14 _ _ _ HFR.out.res
   have e14 : wr.frozen? ⟨H, 14, none⟩ = false := Lib.frozen_of_heap HFR.out.res 14
   have HFIN : Hid (∀ v0 v1 v2 v3 v4 v5 v6 v7 v8 v9 v10 v11 v12 v13 v14, (∃ c'' v'', PlanAt w0.heap.size ((((((((((((((((wr).setCell ⟨H, 0, none⟩ v0).setCell ⟨H, 1, none⟩ v1).setCell ⟨H, 2, none⟩ v2).setCell ⟨H, 3, none⟩ v3).setCell ⟨H, 4, none⟩ v4).setCell ⟨H, 5, none⟩ v5).setCell ⟨H, 6, none⟩ v6).setCell ⟨H, 7, none⟩ v7).setCell ⟨H, 8, none⟩ v8).setCell ⟨H, 9, none⟩ v9).setCell ⟨H, 10, none⟩ v10).setCell ⟨H, 11, none⟩ v11).setCell ⟨H, 12, none⟩ v12).setCell ⟨H, 13, none⟩ v13).setCell ⟨H, 14, none⟩ v14) bp c'' v'' wh (spL true kl ⟨true, 0, 0⟩ l).2) ∧ Below w0.heap.size w0 ((((((((((((((((wr).setCell ⟨H, 0, none⟩ v0).setCell ⟨H, 1, none⟩ v1).setCell ⟨H, 2, none⟩ v2).setCell ⟨H, 3, none⟩ v3).setCell ⟨H, 4, none⟩ v4).setCell ⟨H, 5, none⟩ v5).setCell ⟨H, 6, none⟩ v6).setCell ⟨H, 7, none⟩ v7).setCell ⟨H, 8, none⟩ v8).setCell ⟨H, 9, none⟩ v9).setCell ⟨H, 10, none⟩ v10).setCell ⟨H, 11, none⟩ v11).setCell ⟨H, 12, none⟩ v12).setCell ⟨H, 13, none⟩ v13).setCell ⟨H, 14, none⟩ v14) ∧ FrS w ((((((((((((((((wr).setCell ⟨H, 0, none⟩ v0).setCell ⟨H, 1, none⟩ v1).setCell ⟨H, 2, none⟩ v2).setCell ⟨H, 3, none⟩ v3).setCell ⟨H, 4, none⟩ v4).setCell ⟨H, 5, none⟩ v5).setCell ⟨H, 6, none⟩ v6).setCell ⟨H, 7, none⟩ v7).setCell ⟨H, 8, none⟩ v8).setCell ⟨H, 9, none⟩ v9).setCell ⟨H, 10, none⟩ v10).setCell ⟨H, 11, none⟩ v11).setCell ⟨H, 12, none⟩ v12).setCell ⟨H, 13, none⟩ v13).setCell ⟨H, 14, none⟩ v14)) := fun v0 v1 v2 v3 v4 v5 v6 v7 v8 v9 v10 v11 v12 v13 v14 => by
    have hg : wr.grownBy ((((((((((((((((wr).setCell ⟨H, 0, none⟩ v0).setCell ⟨H, 1, none⟩ v1).setCell ⟨H, 2, none⟩ v2).setCell ⟨H, 3, none⟩ v3).setCell ⟨H, 4, none⟩ v4).setCell ⟨H, 5, none⟩ v5).setCell ⟨H, 6, none⟩ v6).setCell ⟨H, 7, none⟩ v7).setCell ⟨H, 8, none⟩ v8).setCell ⟨H, 9, none⟩ v9).setCell ⟨H, 10, none⟩ v10).setCell ⟨H, 11, none⟩ v11).setCell ⟨H, 12, none⟩ v12).setCell ⟨H, 13, none⟩ v13).setCell ⟨H, 14, none⟩ v14) (some H) := grown_put (i := 14) v14 (grown_put (i := 13) v13 (grown_put (i := 12) v12 (grown_put (i := 11) v11 (grown_put (i := 10) v10 (grown_put (i := 9) v9 (grown_put (i := 8) v8 (grown_put (i := 7) v7 (grown_put (i := 6) v6 (grown_put (i := 5) v5 (grown_put (i := 4) v4 (grown_put (i := 3) v3 (grown_put (i := 2) v2 (grown_put (i := 1) v1 (grown_put (i := 0) v0 (grown_refl wr (some H))))))))))))))))
    obtain ⟨c1, u1, hp1⟩ := HFR.out.plan
    rw [← HS.out.2]
    exact ⟨⟨_, _, hp1.kept hg HFR.out.res (by decide) (by decide)⟩, HFR.out.bel.grown hg HFR.out.bel.size (fun k e => by cases e; exact HHW.out.2), HFR.out.frs.new hg HHW.out.1⟩
   go_wp2_with fail
   refine bodyPost_ret (v := .agg (spnA s)) ?_ rfl ⟨by rw [HS.out.1], HFIN.out _ _ _ _ _ _ _ _ _ _ _ _ _ _ _⟩
   rw [results_cell_one rfl]
   go_simp
   rfl
end Go.Proofs.YtclogekfdmikpaaDoor
