/- In one text: DfaRg, DfaRh, DfaRi, DfaRj. -/
import Derived.Test.YtpmmmgjiekikeaaDoorJ19
/- The walk of shown. -/
namespace Go.Proofs.YtpmmmgjiekikeaaDoor
open Go.RowKit Go.Shelf Go.Maps
set_option linter.unusedVariables false
set_option linter.unusedSimpArgs false

theorem set_any (v : Value) (a : Option Addr) (n c : Nat) (hv : v = .slice a n c) (w : World) : Calls Tryd.prog 25 #[v] w fun e w' => e = .returned (.agg #[.int .i64 1, v, .slice none 0 0]) ∧ Below w.heap.size w w' := by
  subst hv
  obtain ⟨w1, hw1⟩ : ∃ w1, w1 = w.alloc (.cells #[.int .i64 0, .slice none 0 0, .slice none 0 0] 38) := ⟨_, rfl⟩
  obtain ⟨H, hH⟩ : ∃ H, H = w.heap.size := ⟨_, rfl⟩
  have hbH : w1.heap[H]? = some (.cells #[.int .i64 0, .slice none 0 0, .slice none 0 0] 38) := by rw [hw1, hH]; exact heap_alloc_new w _
  have hB1 : Below w.heap.size w w1 := by rw [hw1]; exact (Below.refl _ w).alloc (Nat.le_refl _) _
  have d0 : w1.cell? ⟨H, 0, none⟩ = some (.int .i64 0) := cell_of_row w1 H 0 _ _ _ hbH
  have d1 : w1.cell? ⟨H, 1, none⟩ = some (.slice none 0 0) := cell_of_row w1 H 1 _ _ _ hbH
  have d2 : w1.cell? ⟨H, 2, none⟩ = some (.slice none 0 0) := cell_of_row w1 H 2 _ _ _ hbH
  have z0 : w1.frozen? ⟨H, 0, none⟩ = false := Lib.frozen_of_heap hbH 0
  have z1 : w1.frozen? ⟨H, 1, none⟩ = false := Lib.frozen_of_heap hbH 1
  have z2 : w1.frozen? ⟨H, 2, none⟩ = false := Lib.frozen_of_heap hbH 2
  have hHw : w.heap.size ≤ H := by rw [hH]; exact Nat.le_refl _
  have HFIN : Hid (∀ v0 v1 v2, Below w.heap.size w (((w1.setCell ⟨H, 0, none⟩ v0).setCell ⟨H, 1, none⟩ v1).setCell ⟨H, 2, none⟩ v2)) := fun v0 v1 v2 => below_put (i := 2) v2 (below_put (i := 1) v1 (below_put (i := 0) v0 hB1 hHw) hHw) hHw
  clear hbH hB1 hHw
  go_enter Tryd.func25, Tryd.ntmps25
  go_upto_region 1 with fail
  rw [← hH, ← hw1]
  clear hH hw1
  go_wp2
  refine bodyPost_ret (v := .agg #[.int .i64 1, .slice a n c, .slice none 0 0]) ?_ rfl ⟨rfl, HFIN.out _ _ _⟩
  rw [results_cell_one rfl]
  go_simp
set_option maxRecDepth 100000 in
set_option maxHeartbeats 8000000 in
theorem shown_any (w : World) (hT : TabD w) : Calls Tryd.prog 12 #[] w fun e w' => e = .returned (.bool true) ∧ Below w.heap.size w w' := by
  have HTD : Hid (TabD w) := hT
  clear hT
  obtain ⟨w1, hw1⟩ : ∃ w1, w1 = w.alloc (.cells #[.int .i64 0] 3) := ⟨_, rfl⟩
  obtain ⟨H, hH⟩ : ∃ H, H = w.heap.size := ⟨_, rfl⟩
  have HB1 : Hid (Below w.heap.size w w1) := by rw [hw1]; exact (Below.refl _ w).alloc (Nat.le_refl _) _
  have HC : Hid (Calls Tryd.prog 25 #[.slice (some ⟨H, 0, none⟩) 1 1] w1 fun e w' => e = .returned (.agg #[.int .i64 1, .slice (some ⟨H, 0, none⟩) 1 1, .slice none 0 0]) ∧ Below w1.heap.size w1 w') := set_any _ _ _ _ rfl w1
  have HIR : Hid (IRow w1 H [0]) := by show IRow _ _ _; rw [hw1, hH]; exact heap_alloc_new w _
  go_enter Tryd.func12, Tryd.ntmps12
  go_wp2_with fail
  rw [← hH, ← hw1]
  clear hH hw1
  refine HC.out.mono ?_
  rintro e w2 ⟨rfl, hb2⟩
  have HB2 : Hid (Below w.heap.size w w2) := HB1.out.trans (hb2.mono HB1.out.size)
  have HI2 : Hid (IRow w2 H [0]) := HIR.out.later hb2
  clear hb2 HC HIR HB1
  obtain ⟨W, hW⟩ : ∃ W, W = w2.alloc (.cells #[.int .i64 1, .slice (some ⟨H, 0, none⟩) 1 1, .slice none 0 0, .bool false] 40) := ⟨_, rfl⟩
  obtain ⟨B, hB⟩ : ∃ B, B = w2.heap.size := ⟨_, rfl⟩
  have hb3 : Below w2.heap.size w2 W := by rw [hW]; exact (Below.refl _ w2).alloc (Nat.le_refl _) _
  have hbk : W.heap[B]? = some (.cells #[.int .i64 1, .slice (some ⟨H, 0, none⟩) 1 1, .slice none 0 0, .bool false] 40) := by rw [hW, hB]; exact heap_alloc_new w2 _
  have HBW : Hid (Below w.heap.size w W) := HB2.out.trans (hb3.mono HB2.out.size)
  have HIW := HI2.out.later hb3
  have hX : XRow W.heap.size W 1 (some ⟨B, 0, none⟩) [oneX] := fun _ => by
    refine ⟨B, 0, rfl, fun i hi => ?_⟩
    obtain rfl : i = 0 := by simp at hi; omega
    refine ⟨[.int .i64 1, .slice (some ⟨H, 0, none⟩) 1 1, .slice none 0 0], InV.leaf W 0 1 [0] (some ⟨H, 0, none⟩) 1 HIW.rd (by simp) (fun h => by cases h), fun j v hv => ?_, cell_of_row W B 3 _ _ _ hbk⟩
    rw [show 0 + 0 * 4 + j = j by omega, cell_of_row W B j _ _ _ hbk]
    match j, hv with
    | 0, hv => exact hv
    | 1, hv => exact hv
    | 2, hv => exact hv
    | j + 3, hv => simp at hv
  have HC1 : Hid (Calls Tryd.prog 14 #[.int .i64 2, .slice (some ⟨B, 0, none⟩) 1 1] W (BldP 2 [oneX] W)) := build_any 1 2 [oneX] (some ⟨B, 0, none⟩) 1 W (HTD.out.later HBW.out) hX (by simp)
  clear hb3 hbk HIW hX HI2 HB2
  go_wp2_with fail
  rw [← hB, ← hW]
  clear hB hW
  refine HC1.out.mono ?_
  rintro e w3 ⟨hb3, hor⟩
  have HB3 : Hid (Below w.heap.size w w3) := HBW.out.trans (hb3.mono HBW.out.size)
  clear hb3 HC1
  rcases hor with ⟨hal, _⟩ | ⟨_, ⟨_, htb⟩ | ⟨lb, nx, ou, rfl, hma, hle, _⟩⟩
  · exact absurd hal (by decide)
  · exact absurd htb one_small
  · obtain ⟨rfl, rfl⟩ := least_one hle one_least
    have HMA : Hid (MchAt w3 lb 2 oneN [0, 1]) := hma
    clear hma hle
    have HC2 : Hid (Calls Tryd.prog 14 #[.int .i64 0, .slice none 0 0] w3 (BldP 0 [] w3)) := build_any 0 0 [] none 0 w3 (HTD.out.later HB3.out) (fun h => absurd h (by simp)) (by simp)
    go_wp2_with fail
    refine HC2.out.mono ?_
    rintro e w4 ⟨hb4, hor⟩
    have HB4 : Hid (Below w.heap.size w w4) := HB3.out.trans (hb4.mono HB3.out.size)
    have HM4 : Hid (MchAt w4 lb 2 oneN [0, 1]) := HMA.out.later hb4
    clear hb4 HC2
    rcases hor with ⟨_, rfl⟩ | ⟨hal, _⟩
    rotate_left
    · exact absurd hal (by decide)
    obtain ⟨na, nc, oa, oc, m1, r1, o1, _⟩ := HM4.out
    obtain ⟨b, off, rfl, hr⟩ := r1 (by decide)
    obtain ⟨ra, rc, hr0, hrd0⟩ := hr 0 (by decide)
    obtain ⟨rb, ro, rfl, hrc⟩ := hrd0.2 (by decide)
    obtain ⟨b2, off2, rfl, hoc⟩ := o1.2 (by decide)
    have c1 : w4.cell? ⟨lb, 1, none⟩ = some (.slice (some ⟨b, off, none⟩) 2 nc) := cell_of_row w4 lb 1 _ _ _ m1
    have c2 : w4.cell? ⟨lb, 2, none⟩ = some (.slice (some ⟨b2, off2, none⟩) 2 oc) := cell_of_row w4 lb 2 _ _ _ m1
    have r0 : w4.cell? ⟨b, off, none⟩ = some (.slice (some ⟨rb, ro, none⟩) 2 rc) := hr0
    have z0 : w4.cell? ⟨rb, ro, none⟩ = some (.int .i64 1) := hrc 0 (by decide)
    have z1 : w4.cell? ⟨rb, ro + 1, none⟩ = some (.int .i64 0) := hrc 1 (by decide)
    have u0 : w4.cell? ⟨b2, off2, none⟩ = some (.int .u64 0) := hoc 0 (by decide)
    have u1 : w4.cell? ⟨b2, off2 + 1, none⟩ = some (.int .u64 1) := hoc 1 (by decide)
    have HS1 : Hid (Calls Tryd.prog 19 #[.pointer (some ⟨lb, 0, none⟩), .int .i64 1, .int .i64 0] w4 fun e w' => e = .returned (.int .i64 1) ∧ w' = w4) := step_mch w4 lb 2 oneN [0, 1] 1 0 HM4.out (by decide) (by decide) rfl
    have HS2 : Hid (Calls Tryd.prog 19 #[.pointer (some ⟨lb, 0, none⟩), .int .i64 1, .int .i64 1] w4 fun e w' => e = .returned (.int .i64 0) ∧ w' = w4) := step_mch w4 lb 2 oneN [0, 1] 1 1 HM4.out (by decide) (by decide) rfl
    have HS3 : Hid (Calls Tryd.prog 19 #[.pointer (some ⟨lb, 0, none⟩), .int .i64 5, .int .i64 0] w4 fun e w' => e = .returned (.int .i64 0) ∧ w' = w4) := step_far w4 lb 2 oneN [0, 1] 5 0 HM4.out (by decide) (by decide)
    have HS4 : Hid (Calls Tryd.prog 19 #[.pointer (some ⟨lb, 0, none⟩), .int .i64 0, .int .i64 (-1)] w4 fun e w' => e = .returned (.int .i64 0) ∧ w' = w4) := step_bad w4 lb 2 oneN [0, 1] 0 (-1) HM4.out (by decide)
    have HEQ : Hid (Calls Tryd.prog 24 #[.pointer (some ⟨lb, 0, none⟩), .pointer (some ⟨lb, 0, none⟩)] w4 fun e w' => e = .returned (.bool true) ∧ Below w4.heap.size w4 w') := by
      have := equal_any w4 lb lb 2 2 oneN oneN [0, 1] [0, 1] HM4.out HM4.out
      rw [show decide (2 = 2 ∧ [0, 1] = [0, 1] ∧ oneN = oneN) = true by simp] at this
      exact this
    clear m1 r1 o1 hr hr0 hrd0 hrc hoc
    go_wp2_with fail
    refine HS1.out.mono ?_
    rintro e w5 ⟨rfl, rfl⟩
    go_wp2_with fail
    refine HS2.out.mono ?_
    rintro e w5 ⟨rfl, hw5⟩
    subst hw5
    go_wp2_with fail
    refine HS3.out.mono ?_
    rintro e w6 ⟨rfl, hw6⟩
    subst hw6
    go_wp2_with fail
    refine HS4.out.mono ?_
    rintro e w7 ⟨rfl, hw7⟩
    subst hw7
    go_wp2_with fail
    refine HEQ.out.mono ?_
    rintro e w8 ⟨rfl, hb8⟩
    have HB8 : Hid (Below w.heap.size w w8) := HB4.out.trans (hb8.mono HB4.out.size)
    clear hb8
    go_wp2_with fail
    go_ret
    exact ⟨rfl, HB8.out⟩
end Go.Proofs.YtpmmmgjiekikeaaDoor

/- The walks of Count and Stars of whatever comes in. -/
namespace Go.Proofs.YtpmmmgjiekikeaaDoor
open Go.RowKit Go.Shelf Go.Maps
set_option linter.unusedVariables false
set_option linter.unusedSimpArgs false

theorem cntL_le (kl : List Nd) (k : Nat) : cntL (kl.take k) ≤ cntL kl := by
  have : ∀ a b : List Nd, cntL (a ++ b) = cntL a + cntL b := fun a b => by simp [cntL, List.map_append, List.sum_append]
  have h := this (kl.take k) (kl.drop k)
  rw [List.take_append_drop] at h
  omega
def CoX (D : Nat) : Prop := ∀ (n : Nd) (ca pa : Option Addr) (cc pc : Nat) (B : Nat) (w : World), InV B w D n [.int .i64 n.op, .slice ca n.cl.length cc, .slice pa (toL n.kids).length pc] →
  Calls Tryd.prog 22 #[.agg #[.int .i64 n.op, .slice ca n.cl.length cc, .slice pa (toL n.kids).length pc]] w fun e w' => ∃ v : Int, e = .returned (.int .i64 v) ∧ (n.cnt ≤ 400 → v = (n.cnt : Int)) ∧ Below w.heap.size w w'
set_option maxHeartbeats 8000000 in
theorem countX_up (d : Nat) (HP : CoX d) : CoX (d + 1) := by
  intro n ca pa cc pc B w hin
  have HPC : Hid (CoX d) := HP
  have HIN : Hid (InV B w (d + 1) n [.int .i64 n.op, .slice ca n.cl.length cc, .slice pa (toL n.kids).length pc]) := hin
  have hb := hin.bounds
  obtain ⟨op, hop⟩ : ∃ op, op = n.op := ⟨_, rfl⟩
  obtain ⟨cn, hcn⟩ : ∃ cn, cn = n.cl.length := ⟨_, rfl⟩
  obtain ⟨kl, hkl⟩ : ∃ kl, kl = toL n.kids := ⟨_, rfl⟩
  obtain ⟨K, hK⟩ : ∃ K, K = kl.length := ⟨_, rfl⟩
  have hce := cnt_eq n
  rw [← hkl] at hce
  have HC : Hid (n.cnt = 1 + cntL kl ∧ True ∧ kl = toL n.kids ∧ K = kl.length) := ⟨hce, trivial, hkl, hK⟩
  have hKi : (K : Int) ≤ 2600000000000 := by rw [hkl] at hK; omega
  obtain ⟨wA, hwA⟩ : ∃ wA, wA = w.alloc (.cells #[.int .i64 op, .slice ca cn cc, .slice pa K pc] 38) := ⟨_, rfl⟩
  obtain ⟨H, hH⟩ : ∃ H, H = w.heap.size := ⟨_, rfl⟩
  have HB : Hid (Below w.heap.size w wA) := by rw [hwA]; exact (Below.refl _ w).alloc (Nat.le_refl _) _
  have HBX : Hid (wA.heap[H]? = some (.cells #[.int .i64 op, .slice ca cn cc, .slice pa K pc] 38)) := by rw [hwA, hH]; exact heap_alloc_new w _
  rw [← hop, ← hcn, ← hkl, ← hK]
  clear HP hin hb hop hcn hK hkl hce
  go_enter Tryd.func22, Tryd.ntmps22
  go_upto_region 1 with fail
  rw [← hH, ← hwA]
  clear hH hwA
  go_wp2
  go_loopw [3, 4] (fun x3 x4 wr => ∃ (k : Nat) (m : Int), k ≤ K ∧ x4 = .int .i64 k ∧ x3 = .int .i64 m ∧ (1 + cntL (kl.take k) ≤ 400 → m = ((1 + cntL (kl.take k) : Nat) : Int)) ∧ Below wA.heap.size wA wr) (fun _ x4 _ => K - (intOf x4).toNat)
  case atStart => exact ⟨0, 1, by omega, rfl, rfl, fun _ => by simp [cntL], Below.refl _ _⟩
  case round =>
    obtain ⟨k, m, hk, hx4, hx3, hm, hbl⟩ := hrel
    have HMC : Hid (1 + cntL (kl.take k) ≤ 400 → m = ((1 + cntL (kl.take k) : Nat) : Int)) := hm
    subst hx4
    subst hx3
    have HBL : Hid (Below wA.heap.size wA wr) := hbl
    have d2 : wr.cell? ⟨H, 2, none⟩ = some (.slice pa K pc) := cell_of_row wr H 2 _ _ _ ((hbl.block H (Array.getElem?_eq_some_iff.1 HBX.out).1).trans HBX.out)
    have HBW : Hid (Below w.heap.size w wr) := HB.out.trans (hbl.mono HB.out.size)
    clear hbl
    clear hm
    by_cases hlt : k < K
    · by_cases hm4' : ¬ m ≤ 400
      · have HR : Hid (n.cnt ≤ 400 → m = (n.cnt : Int)) := fun hc => by
          have h1 := HC.out.1; have h2 := cntL_le kl k; have h3 := HMC.out (by omega); omega
        go_wp2
        go_ret
        exact ⟨m, rfl, HR.out, HBW.out⟩
      have hm4 : m ≤ 400 := by omega
      clear hm4'
      have hkn : k < kl.length := by rw [← HC.out.2.2.2]; exact hlt
      have hkn' : k < (toL n.kids).length := by rw [← HC.out.2.2.1]; exact hkn
      obtain ⟨b, off, xa, xc, ya, yc, d', hpa, hkid, hd', c0, c1, c2⟩ := (HIN.out.later HBW.out (d + 1)).kid k hkn'
      obtain rfl : d = d' := by omega
      subst hpa
      obtain ⟨x, hx⟩ : ∃ x, x = (toL n.kids)[k] := ⟨_, rfl⟩
      have hxk : x = kl[k] := by rw [hx]; simp only [HC.out.2.2.1]
      rw [← hx] at hkid c0 c1 c2
      have htk := cntL_take kl k hkn
      rw [← hxk] at htk
      obtain ⟨xc', hxc'⟩ : ∃ xc', xc' = x.cnt := ⟨_, rfl⟩
      have HCC : Hid (Calls Tryd.prog 22 #[.agg #[.int .i64 x.op, .slice xa x.cl.length xc, .slice ya (toL x.kids).length yc]] wr fun e w' => ∃ v : Int, e = .returned (.int .i64 v) ∧ (x.cnt ≤ 400 → v = (x.cnt : Int)) ∧ Below wr.heap.size wr w') := by
        exact HPC.out x xa ya xc yc B wr hkid
      have HNX : Hid (1 + cntL (kl.take (k + 1)) = (1 + cntL (kl.take k)) + xc') := by
        show _ = _
        rw [take_snoc kl k hkn, cntL_snoc, ← hxk, hxc']
        omega
      rw [← hxc'] at HCC
      obtain ⟨xo, hxo⟩ : ∃ xo, xo = x.op := ⟨_, rfl⟩
      obtain ⟨xn, hxn⟩ : ∃ xn, xn = x.cl.length := ⟨_, rfl⟩
      obtain ⟨xk, hxk2⟩ : ∃ xk, xk = (toL x.kids).length := ⟨_, rfl⟩
      rw [← hxo] at c0 HCC
      rw [← hxn] at c1 HCC
      rw [← hxk2] at c2 HCC
      have hki : (k : Int) < (K : Int) := by omega
      clear hkid hxo hxn hxk2 hx hxk htk hxc'
      go_wp2_with fail
      refine HCC.out.mono ?_
      rintro e w2 ⟨v, rfl, hv, hb2⟩
      have HV : Hid (xc' ≤ 400 → v = (xc' : Int)) := hv
      clear hv
      have HB2 : Hid (Below wA.heap.size wA w2) := HBL.out.trans (hb2.mono HBL.out.size)
      clear hb2 c0 c1 c2 d2 HCC
      go_wp2
      go_roundw
      case rel =>
        refine ⟨k + 1, _, by omega, by go_num, rfl, fun hc => ?_, HB2.out⟩
        rw [HNX.out] at hc ⊢
        have h1 := HMC.out (by omega)
        have h2 := HV.out (by omega)
        rw [h1, h2]
        unfold wrap64
        omega
      case measure => simp [intOf]; omega
    · obtain rfl : k = K := by omega
      have HR : Hid (n.cnt ≤ 400 → m = (n.cnt : Int)) := by
        have h1 := HMC.out
        rw [List.take_of_length_le (by rw [← HC.out.2.2.2]; exact Nat.le_refl _), ← HC.out.1] at h1
        exact h1
      go_wp2
      go_ret
      exact ⟨m, rfl, HR.out, HBW.out⟩
theorem countX_any : (d : Nat) → CoX d
  | 0 => fun _ _ _ _ _ _ _ h => h.elim
  | d + 1 => countX_up d (countX_any d)
end Go.Proofs.YtpmmmgjiekikeaaDoor

/- The walk of Stars of whatever comes in: it answers some number. -/
namespace Go.Proofs.YtpmmmgjiekikeaaDoor
open Go.RowKit Go.Shelf Go.Maps
set_option linter.unusedVariables false
set_option linter.unusedSimpArgs false

def StX (D : Nat) : Prop := ∀ (n : Nd) (ca pa : Option Addr) (cc pc : Nat) (B : Nat) (w : World), InV B w D n [.int .i64 n.op, .slice ca n.cl.length cc, .slice pa (toL n.kids).length pc] →
  Calls Tryd.prog 23 #[.agg #[.int .i64 n.op, .slice ca n.cl.length cc, .slice pa (toL n.kids).length pc]] w fun e w' => ∃ t : Int, e = .returned (.int .i64 t) ∧ Below w.heap.size w w'
set_option maxHeartbeats 8000000 in
theorem starsX_up (D : Nat) (HP : StX D) : StX (D + 1) := by
  intro n ca pa cc pc B w hin
  have HPC : Hid (StX D) := HP
  have HIN : Hid (InV B w (D + 1) n [.int .i64 n.op, .slice ca n.cl.length cc, .slice pa (toL n.kids).length pc]) := hin
  have hb := hin.bounds
  obtain ⟨op, hop⟩ : ∃ op, op = n.op := ⟨_, rfl⟩
  obtain ⟨cn, hcn⟩ : ∃ cn, cn = n.cl.length := ⟨_, rfl⟩
  obtain ⟨kl, hkl⟩ : ∃ kl, kl = toL n.kids := ⟨_, rfl⟩
  obtain ⟨K, hK⟩ : ∃ K, K = kl.length := ⟨_, rfl⟩
  have HC : Hid (kl = toL n.kids ∧ K = kl.length) := ⟨hkl, hK⟩
  have hKi : (K : Int) ≤ 2600000000000 := by rw [hkl] at hK; omega
  obtain ⟨wA, hwA⟩ : ∃ wA, wA = w.alloc (.cells #[.int .i64 op, .slice ca cn cc, .slice pa K pc] 38) := ⟨_, rfl⟩
  obtain ⟨H, hH⟩ : ∃ H, H = w.heap.size := ⟨_, rfl⟩
  have HB : Hid (Below w.heap.size w wA) := by rw [hwA]; exact (Below.refl _ w).alloc (Nat.le_refl _) _
  have HBX : Hid (wA.heap[H]? = some (.cells #[.int .i64 op, .slice ca cn cc, .slice pa K pc] 38)) := by rw [hwA, hH]; exact heap_alloc_new w _
  rw [← hop, ← hcn, ← hkl, ← hK]
  clear HP hin hb hop hcn hK hkl
  go_enter Tryd.func23, Tryd.ntmps23
  go_upto_region 1 with fail
  rw [← hH, ← hwA]
  clear hH hwA
  go_wp2
  go_loopw [3, 4] (fun x3 x4 wr => ∃ k : Nat, k ≤ K ∧ x4 = .int .i64 k ∧ (∃ t : Int, x3 = .int .i64 t) ∧ Below wA.heap.size wA wr) (fun _ x4 _ => K - (intOf x4).toNat)
  case atStart => exact ⟨0, by omega, rfl, ⟨0, rfl⟩, Below.refl _ _⟩
  case round =>
    obtain ⟨k, hk, hx4, ⟨m, hx3⟩, hbl⟩ := hrel
    subst hx4
    subst hx3
    have HBL : Hid (Below wA.heap.size wA wr) := hbl
    have hblk := (hbl.block H (Array.getElem?_eq_some_iff.1 HBX.out).1).trans HBX.out
    have d2 : wr.cell? ⟨H, 2, none⟩ = some (.slice pa K pc) := cell_of_row wr H 2 _ _ _ hblk
    have d0 : wr.cell? ⟨H, 0, none⟩ = some (.int .i64 op) := cell_of_row wr H 0 _ _ _ hblk
    have HBW : Hid (Below w.heap.size w wr) := HB.out.trans (hbl.mono HB.out.size)
    clear hbl hblk
    by_cases hlt : k < K
    · have hkn : k < kl.length := by rw [← HC.out.2]; exact hlt
      have hkn' : k < (toL n.kids).length := by rw [← HC.out.1]; exact hkn
      obtain ⟨b, off, xa, xc, ya, yc, D', hpa, hkid, hD', c0, c1, c2⟩ := (HIN.out.later HBW.out (D + 1)).kid k hkn'
      obtain rfl : D' = D := by omega
      subst hpa
      obtain ⟨x, hx⟩ : ∃ x, x = (toL n.kids)[k] := ⟨_, rfl⟩
      have hxk : x = kl[k] := by rw [hx]; simp only [HC.out.1]
      rw [← hx] at hkid c0 c1 c2
      have HCC : Hid (Calls Tryd.prog 23 #[.agg #[.int .i64 x.op, .slice xa x.cl.length xc, .slice ya (toL x.kids).length yc]] wr fun e w' => ∃ t : Int, e = .returned (.int .i64 t) ∧ Below wr.heap.size wr w') := HPC.out x xa ya xc yc B wr hkid
      obtain ⟨xo, hxo⟩ : ∃ xo, xo = x.op := ⟨_, rfl⟩
      obtain ⟨xn, hxn⟩ : ∃ xn, xn = x.cl.length := ⟨_, rfl⟩
      obtain ⟨xk, hxk2⟩ : ∃ xk, xk = (toL x.kids).length := ⟨_, rfl⟩
      rw [← hxo] at c0 HCC
      rw [← hxn] at c1 HCC
      rw [← hxk2] at c2 HCC
      clear hkid hxo hxn hxk2 hx hxk
      go_wp2_with fail
      refine HCC.out.mono ?_
      rintro e w2 ⟨v, rfl, hb2⟩
      have HB2 : Hid (Below wA.heap.size wA w2) := HBL.out.trans (hb2.mono HBL.out.size)
      have hmax : ∀ W : World, (Builtin.max_ #[3, 3] 3 #[.int .i64 m, .int .i64 v]).run Tryd.prog W = .ok (.int .i64 (max m v)) W := fun W => maxR m v W
      obtain ⟨M, hM⟩ : ∃ M, M = max m v := ⟨_, rfl⟩
      rw [← hM] at hmax
      clear hM
      clear hb2 c0 c1 c2 d2 d0 HCC
      go_wp2
      go_roundw
      case rel => exact ⟨k + 1, by omega, by go_num, ⟨M, rfl⟩, HB2.out⟩
      case measure => simp [intOf]; omega
    · obtain rfl : k = K := by omega
      by_cases h4 : (op == 4) = true
      · go_wp2
        go_ret
        exact ⟨_, rfl, HBW.out⟩
      · rw [Bool.not_eq_true] at h4
        go_wp2
        go_ret
        exact ⟨_, rfl, HBW.out⟩
theorem starsX_any : (D : Nat) → StX D
  | 0 => fun _ _ _ _ _ _ _ h => h.elim
  | D + 1 => starsX_up D (starsX_any D)
end Go.Proofs.YtpmmmgjiekikeaaDoor

/- Expressions kept in rows; the walk of few. -/
namespace Go.Proofs.YtpmmmgjiekikeaaDoor
open Go.RowKit Go.Shelf Go.Maps
set_option linter.unusedVariables false
set_option linter.unusedSimpArgs false

/-- Expressions as cells. -/
def FlX (B : Nat) (w : World) (D : Nat) (xs : List (Nd × Bool)) (fl : List Value) : Prop :=
  fl.length = xs.length * 4 ∧ ∀ i (hi : i < xs.length), ∃ us, InV B w D xs[i].1 us ∧ (∀ j v, us[j]? = some v → fl[i * 4 + j]? = some v) ∧ fl[i * 4 + 3]? = some (.bool xs[i].2)
theorem FlX.nil (B : Nat) (w : World) (D : Nat) : FlX B w D [] [] := ⟨rfl, fun i hi => by simp at hi⟩
theorem FlX.later {B : Nat} {w w' : World} {D : Nat} {xs : List (Nd × Bool)} {fl : List Value} (h : FlX B w D xs fl) (hb : ∀ n us, InV B w D n us → InV B w' D n us) : FlX B w' D xs fl :=
  ⟨h.1, fun i hi => by obtain ⟨us, h1, h2, h3⟩ := h.2 i hi; exact ⟨us, hb _ _ h1, h2, h3⟩⟩
theorem FlX.snoc {B : Nat} {w : World} {D : Nat} {xs : List (Nd × Bool)} {fl : List Value} (h : FlX B w D xs fl) {x : Nd × Bool} {u0 u1 u2 : Value} (hx : InV B w D x.1 [u0, u1, u2]) : FlX B w D (xs ++ [x]) (fl ++ [u0, u1, u2, .bool x.2]) := by
  refine ⟨by simp [h.1]; omega, fun i hi => ?_⟩
  rcases Nat.lt_or_ge i xs.length with hl | hl
  · obtain ⟨us, h1, h2, h3⟩ := h.2 i hl
    rw [List.getElem_append_left hl]
    refine ⟨us, h1, fun j v hv => ?_, ?_⟩
    · have := h2 j v hv
      rw [List.getElem?_append_left (List.getElem?_eq_some_iff.1 this).1]; exact this
    · rw [List.getElem?_append_left (List.getElem?_eq_some_iff.1 h3).1]; exact h3
  · obtain rfl : i = xs.length := by simp at hi; omega
    rw [List.getElem_append_right (Nat.le_refl _)]
    simp only [Nat.sub_self, List.getElem_cons_zero]
    refine ⟨[u0, u1, u2], hx, fun j v hv => ?_, ?_⟩
    · rw [List.getElem?_append_right (by rw [h.1]; omega), h.1, show xs.length * 4 + j - xs.length * 4 = j by omega]
      match j, hv with
      | 0, hv => exact hv
      | 1, hv => exact hv
      | 2, hv => exact hv
      | j + 3, hv => simp at hv
    · rw [List.getElem?_append_right (by rw [h.1]; omega), h.1, show xs.length * 4 + 3 - xs.length * 4 = 3 by omega]
      rfl
theorem own_cellsN {w : World} {B : Nat} {e : TypeId} {s n : Nat} {a : Option Addr} {cap : Nat} {vs : List Value} (h : w.ownsRow B e s (.slice a n cap) n vs) (hn : 0 < n) : ∃ g, a = some ⟨g, 0, none⟩ ∧ ∀ i, i < n * s → w.cell? ⟨g, i, none⟩ = vs[i]? := by
  rcases h.2 with ⟨hv, h0⟩ | ⟨g, cap', cur, hv, hb, hg, hnc, hm, hs, ht⟩
  · omega
  · cases hv
    refine ⟨g, rfl, fun i hi => ?_⟩
    rw [cell_of_row w g i _ _ _ hg, ← ht, List.getElem?_take, if_pos (by omega)]
    simp
/-- Such a row reads as expressions. -/
theorem FlX.row {B B0 : Nat} {w : World} {D : Nat} {xs : List (Nd × Bool)} {fl : List Value} {e : TypeId} {a : Option Addr} {cap : Nat} (h : FlX B w D xs fl) (ho : w.ownsRow B0 e 4 (.slice a xs.length cap) xs.length fl) : XRow B w D a xs := by
  intro hp
  obtain ⟨g, rfl, hc⟩ := own_cellsN ho hp
  refine ⟨g, 0, rfl, fun i hi => ?_⟩
  obtain ⟨us, h1, h2, h3⟩ := h.2 i hi
  refine ⟨us, h1, fun j v hv => ?_, ?_⟩
  · have := h2 j v hv
    have hlt := (List.getElem?_eq_some_iff.1 this).1
    rw [h.1] at hlt
    rw [Nat.zero_add, hc _ hlt]; exact this
  · have hlt := (List.getElem?_eq_some_iff.1 h3).1
    rw [h.1] at hlt
    rw [Nat.zero_add, hc _ hlt]; exact h3
end Go.Proofs.YtpmmmgjiekikeaaDoor
