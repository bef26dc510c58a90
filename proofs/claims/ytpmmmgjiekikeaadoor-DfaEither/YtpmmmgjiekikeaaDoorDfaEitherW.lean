/- The walk of DfaEither. -/
import Derived.Test.YtpmmmgjiekikeaaDoorJ21
namespace Go.Proofs.YtpmmmgjiekikeaaDoor
open Go.RowKit Go.Shelf Go.Maps
set_option linter.unusedVariables false
set_option linter.unusedSimpArgs false

set_option maxRecDepth 100000 in
set_option maxHeartbeats 8000000 in
theorem dfaEither_walk (D : Nat) (x y : Nd) (xa xk ya yk : Option Addr) (xc xkc yc ykc : Nat) (wh : Bool) (xs0 : List Int) (ra : Option Addr) (len0 rc : Nat) (w : World) (hT : TabD w) (hx : InV w.heap.size w D x [.int .i64 x.op, .slice xa x.cl.length xc, .slice xk (toL x.kids).length xkc]) (hy : InV w.heap.size w D y [.int .i64 y.op, .slice ya y.cl.length yc, .slice yk (toL y.kids).length ykc]) (hrd : Rd .i64 w ra len0 xs0) (hcap : len0 ≤ rc) :
    Calls Tryd.prog 9 #[.agg #[.int .i64 x.op, .slice xa x.cl.length xc, .slice xk (toL x.kids).length xkc], .agg #[.int .i64 y.op, .slice ya y.cl.length yc, .slice yk (toL y.kids).length ykc], .bool wh, .slice ra len0 rc] w fun e w' => e = .returned (.bool true) ∧ Below w.heap.size w w' := by
  obtain ⟨n, hn⟩ : ∃ n : Nat, (n : Int) = min (len0 : Int) 30 := ⟨min len0 30, by omega⟩
  have hmin := min_run len0 n 30 hn
  have hcut0 := cutI ra len0 rc n (by omega)
  obtain ⟨row, hrow⟩ : ∃ row, row = xs0.take n := ⟨_, rfl⟩
  have HRD : Hid (Rd .i64 w ra n row) := by rw [hrow]; exact hrd.take n (by omega)
  have HL : Hid (row.length = n) := HRD.out.1
  have hn30 : (n : Int) ≤ 30 := by omega
  have HTD : Hid (TabD w) := hT
  have HCX : Hid (∀ V : World, Below w.heap.size w V → Calls Tryd.prog 22 #[.agg #[.int .i64 x.op, .slice xa x.cl.length xc, .slice xk (toL x.kids).length xkc]] V fun e w' => ∃ v : Int, e = .returned (.int .i64 v) ∧ (x.cnt ≤ 400 → v = (x.cnt : Int)) ∧ Below V.heap.size V w') := fun V hV => countX_any D x xa xk xc xkc w.heap.size V (hx.later hV D)
  have HCY : Hid (∀ V : World, Below w.heap.size w V → Calls Tryd.prog 22 #[.agg #[.int .i64 y.op, .slice ya y.cl.length yc, .slice yk (toL y.kids).length ykc]] V fun e w' => ∃ v : Int, e = .returned (.int .i64 v) ∧ (y.cnt ≤ 400 → v = (y.cnt : Int)) ∧ Below V.heap.size V w') := fun V hV => countX_any D y ya yk yc ykc w.heap.size V (hy.later hV D)
  have HSX : Hid (∀ V : World, Below w.heap.size w V → Calls Tryd.prog 23 #[.agg #[.int .i64 x.op, .slice xa x.cl.length xc, .slice xk (toL x.kids).length xkc]] V fun e w' => ∃ t : Int, e = .returned (.int .i64 t) ∧ Below V.heap.size V w') := fun V hV => starsX_any D x xa xk xc xkc w.heap.size V (hx.later hV D)
  have HSY : Hid (∀ V : World, Below w.heap.size w V → Calls Tryd.prog 23 #[.agg #[.int .i64 y.op, .slice ya y.cl.length yc, .slice yk (toL y.kids).length ykc]] V fun e w' => ∃ t : Int, e = .returned (.int .i64 t) ∧ Below V.heap.size V w') := fun V hV => starsX_any D y ya yk yc ykc w.heap.size V (hy.later hV D)
  have HXY : Hid (∀ V : World, Below w.heap.size w V → InV V.heap.size V D x [.int .i64 x.op, .slice xa x.cl.length xc, .slice xk (toL x.kids).length xkc] ∧ InV V.heap.size V D y [.int .i64 y.op, .slice ya y.cl.length yc, .slice yk (toL y.kids).length ykc]) := fun V hV => ⟨(hx.later hV D).base hV.size D, (hy.later hV D).base hV.size D⟩
  obtain ⟨xo, hxo⟩ : ∃ xo, xo = x.op := ⟨_, rfl⟩
  obtain ⟨xn, hxn⟩ : ∃ xn, xn = x.cl.length := ⟨_, rfl⟩
  obtain ⟨xK, hxK⟩ : ∃ xK, xK = (toL x.kids).length := ⟨_, rfl⟩
  obtain ⟨yo, hyo⟩ : ∃ yo, yo = y.op := ⟨_, rfl⟩
  obtain ⟨yn, hyn⟩ : ∃ yn, yn = y.cl.length := ⟨_, rfl⟩
  obtain ⟨yK, hyK⟩ : ∃ yK, yK = (toL y.kids).length := ⟨_, rfl⟩
  rw [← hxo, ← hxn, ← hxK] at HCX HSX
  rw [← hyo, ← hyn, ← hyK] at HCY HSY
  rw [← hxo, ← hxn, ← hxK, ← hyo, ← hyn, ← hyK] at HXY ⊢
  clear hT hx hy hrd hcap hrow hn hxo hxn hxK hyo hyn hyK
  obtain ⟨W1, hW1⟩ : ∃ W1, W1 = w.alloc (.cells #[.int .i64 xo, .slice xa xn xc, .slice xk xK xkc] 38) := ⟨_, rfl⟩
  obtain ⟨W0, hW0⟩ : ∃ W0, W0 = W1.alloc (.cells #[.int .i64 yo, .slice ya yn yc, .slice yk yK ykc] 38) := ⟨_, rfl⟩
  obtain ⟨H, hH⟩ : ∃ H, H = w.heap.size := ⟨_, rfl⟩
  have hs1 : W1.heap.size = H + 1 := by rw [hW1, hH]; simp
  have hb1 : Below w.heap.size w W1 := by rw [hW1]; exact (Below.refl _ w).alloc (Nat.le_refl _) _
  have HB0 : Hid (Below w.heap.size w W0) := by rw [hW0]; exact hb1.alloc hb1.size _
  have hbx : W0.heap[H]? = some (.cells #[.int .i64 xo, .slice xa xn xc, .slice xk xK xkc] 38) := by
    rw [hW0]
    refine (((Below.refl _ W1).alloc (Nat.le_refl _) _).block H (by omega)).trans ?_
    rw [hW1, hH]; exact heap_alloc_new w _
  have hby : W0.heap[H + 1]? = some (.cells #[.int .i64 yo, .slice ya yn yc, .slice yk yK ykc] 38) := by rw [hW0, ← hs1]; exact heap_alloc_new W1 _
  have HAX : Hid (∀ V : World, Below W0.heap.size W0 V → V.cell? ⟨H, 0, none⟩ = some (.int .i64 xo) ∧ V.cell? ⟨H, 1, none⟩ = some (.slice xa xn xc) ∧ V.cell? ⟨H, 2, none⟩ = some (.slice xk xK xkc) ∧ V.cell? ⟨H + 1, 0, none⟩ = some (.int .i64 yo) ∧ V.cell? ⟨H + 1, 1, none⟩ = some (.slice ya yn yc) ∧ V.cell? ⟨H + 1, 2, none⟩ = some (.slice yk yK ykc)) := fun V hV =>
    ⟨upC hV (cell_of_row W0 H 0 _ _ _ hbx), upC hV (cell_of_row W0 H 1 _ _ _ hbx), upC hV (cell_of_row W0 H 2 _ _ _ hbx), upC hV (cell_of_row W0 (H + 1) 0 _ _ _ hby), upC hV (cell_of_row W0 (H + 1) 1 _ _ _ hby), upC hV (cell_of_row W0 (H + 1) 2 _ _ _ hby)⟩
  have HWW : Hid (∀ V : World, Below W0.heap.size W0 V → Below w.heap.size w V) := fun V hV => HB0.out.trans (hV.mono HB0.out.size)
  clear hbx hby hb1
  go_enter Tryd.func9, Tryd.ntmps9
  go_upto_region 1 with fail
  rw [← hH, ← hW1, ← hW0]
  clear hH hW1 hs1 hW0
  go_wp2_with fail
  refine (shown_any W0 (HTD.out.later HB0.out)).mono ?_
  rintro e w1 ⟨rfl, hb1⟩
  have HB1 : Hid (Below W0.heap.size W0 w1) := hb1
  clear hb1
  obtain ⟨e0, e1, e2, _⟩ := HAX.out w1 HB1.out
  go_wp2_with fail
  refine (HCX.out w1 (HWW.out _ HB1.out)).mono ?_
  rintro e w2 ⟨v1, rfl, _, hb2⟩
  have HB2 : Hid (Below W0.heap.size W0 w2) := HB1.out.trans (hb2.mono HB1.out.size)
  clear hb2 e0 e1 e2
  by_cases hv1 : ¬ v1 ≤ 20
  · go_wp2_with fail
    go_ret
    exact ⟨rfl, HWW.out _ HB2.out⟩
  have hv1' : v1 ≤ 20 := by omega
  clear hv1
  obtain ⟨_, _, _, f0, f1, f2⟩ := HAX.out w2 HB2.out
  go_wp2_with fail
  refine (HCY.out w2 (HWW.out _ HB2.out)).mono ?_
  rintro e w3 ⟨v2, rfl, _, hb3⟩
  have HB3 : Hid (Below W0.heap.size W0 w3) := HB2.out.trans (hb3.mono HB2.out.size)
  clear hb3 f0 f1 f2
  by_cases hv2 : ¬ v2 ≤ 20
  · go_wp2_with fail
    go_ret
    exact ⟨rfl, HWW.out _ HB3.out⟩
  have hv2' : v2 ≤ 20 := by omega
  clear hv2
  obtain ⟨e0, e1, e2, _⟩ := HAX.out w3 HB3.out
  go_wp2_with fail
  refine (HSX.out w3 (HWW.out _ HB3.out)).mono ?_
  rintro e w4 ⟨v3, rfl, hb4⟩
  have HB4 : Hid (Below W0.heap.size W0 w4) := HB3.out.trans (hb4.mono HB3.out.size)
  clear hb4 e0 e1 e2
  by_cases hv3 : ¬ v3 ≤ 2
  · go_wp2_with fail
    go_ret
    exact ⟨rfl, HWW.out _ HB4.out⟩
  have hv3' : v3 ≤ 2 := by omega
  clear hv3
  obtain ⟨_, _, _, f0, f1, f2⟩ := HAX.out w4 HB4.out
  go_wp2_with fail
  refine (HSY.out w4 (HWW.out _ HB4.out)).mono ?_
  rintro e w5 ⟨v4, rfl, hb5⟩
  have HB5 : Hid (Below W0.heap.size W0 w5) := HB4.out.trans (hb5.mono HB4.out.size)
  clear hb5 f0 f1 f2
  by_cases hv4 : ¬ v4 ≤ 2
  · go_wp2_with fail
    go_ret
    exact ⟨rfl, HWW.out _ HB5.out⟩
  have hv4' : v4 ≤ 2 := by omega
  clear hv4
  obtain ⟨e0, e1, e2, f0, f1, f2⟩ := HAX.out w5 HB5.out
  obtain ⟨G, hG⟩ : ∃ G, G = w5.heap.size := ⟨_, rfl⟩
  obtain ⟨V1, hV1⟩ : ∃ V1, V1 = w5.alloc (.cells #[.int .i64 xo, .slice xa xn xc, .slice xk xK xkc, .int .i64 yo, .slice ya yn yc, .slice yk yK ykc] 38) := ⟨_, rfl⟩
  obtain ⟨V2, hV2⟩ : ∃ V2, V2 = V1.alloc (.cells #[.int .i64 3, .slice none 0 0, .slice (some ⟨G, 0, none⟩) 2 2] 38) := ⟨_, rfl⟩
  obtain ⟨V3, hV3⟩ : ∃ V3, V3 = V2.alloc (.cells #[.int .i64 3, .slice none 0 0, .slice none 0 0] 38) := ⟨_, rfl⟩
  obtain ⟨V4, hV4⟩ : ∃ V4, V4 = V3.alloc (.cells #[.int .i64 xo, .slice xa xn xc, .slice xk xK xkc, .bool wh, .int .i64 yo, .slice ya yn yc, .slice yk yK ykc, .bool wh, .int .i64 3, .slice none 0 0, .slice (some ⟨G, 0, none⟩) 2 2, .bool wh, .int .i64 3, .slice none 0 0, .slice none 0 0, .bool wh, .int .i64 0, .slice none 0 0, .slice none 0 0, .bool wh] 40) := ⟨_, rfl⟩
  have l1 : V1.heap.size = G + 1 := by rw [hV1, hG]; simp
  have l2 : V2.heap.size = G + 1 + 1 := by rw [hV2]; simp [l1]
  have l3 : V3.heap.size = G + 1 + 1 + 1 := by rw [hV3]; simp [l2]
  have b1 : Below w5.heap.size w5 V1 := by rw [hV1]; exact (Below.refl _ w5).alloc (Nat.le_refl _) _
  have b2 : Below V1.heap.size V1 V2 := by rw [hV2]; exact (Below.refl _ V1).alloc (Nat.le_refl _) _
  have b3 : Below V2.heap.size V2 V3 := by rw [hV3]; exact (Below.refl _ V2).alloc (Nat.le_refl _) _
  have b4 : Below V3.heap.size V3 V4 := by rw [hV4]; exact (Below.refl _ V3).alloc (Nat.le_refl _) _
  have HB33 : Hid (Below W0.heap.size W0 V3) := by
    have q1 := HB5.out.trans (b1.mono HB5.out.size)
    have q2 := q1.trans (b2.mono q1.size)
    exact q2.trans (b3.mono q2.size)
  have HB44 : Hid (Below W0.heap.size W0 V4) := HB33.out.trans (b4.mono HB33.out.size)
  have HXR : Hid (XRow V4.heap.size V4 (D + 1) (some ⟨G + 1 + 1 + 1, 0, none⟩) (eiX x y wh)) := by
    obtain ⟨hxi, hyi⟩ := HXY.out V4 (HWW.out _ HB44.out)
    have hei : InV V4.heap.size V4 (D + 1) (eiN x y) [.int .i64 3, .slice none 0 0, .slice (some ⟨G, 0, none⟩) 2 2] := by
      obtain ⟨hx5, hy5⟩ := HXY.out w5 (HWW.out _ HB5.out)
      have h1 := in_pair 3 hx5 hy5
      rw [← hV1, ← hG] at h1
      have c14 : Below V1.heap.size V1 V4 := (b2.trans (b3.mono b2.size)).trans (b4.mono (b2.trans (b3.mono b2.size)).size)
      exact (h1.later c14 (D + 1)).base c14.size (D + 1)
    have hbk : V4.heap[G + 1 + 1 + 1]? = some (.cells #[.int .i64 xo, .slice xa xn xc, .slice xk xK xkc, .bool wh, .int .i64 yo, .slice ya yn yc, .slice yk yK ykc, .bool wh, .int .i64 3, .slice none 0 0, .slice (some ⟨G, 0, none⟩) 2 2, .bool wh, .int .i64 3, .slice none 0 0, .slice none 0 0, .bool wh, .int .i64 0, .slice none 0 0, .slice none 0 0, .bool wh] 40) := by rw [hV4, ← l3]; exact heap_alloc_new V3 _
    refine xrow_block hbk fun i hi => ?_
    match i, hi with
    | 0, _ => exact ⟨_, hxi.mono (Nat.le_succ D), three_at rfl rfl rfl, rfl⟩
    | 1, _ => exact ⟨_, hyi.mono (Nat.le_succ D), three_at rfl rfl rfl, rfl⟩
    | 2, _ => exact ⟨_, hei, three_at rfl rfl rfl, rfl⟩
    | 3, _ => exact ⟨_, InV.leaf V4 D 3 [] none 0 (rd_nil _ _) (by simp) (fun _ => rfl), three_at rfl rfl rfl, rfl⟩
    | 4, _ => exact ⟨_, InV.leaf V4 D 0 [] none 0 (rd_nil _ _) (by simp) (fun _ => rfl), three_at rfl rfl rfl, rfl⟩
  have HC6 : Hid (Calls Tryd.prog 14 #[.int .i64 24, .slice (some ⟨G + 1 + 1 + 1, 0, none⟩) 5 5] V4 (BldP 24 (eiX x y wh) V4)) := build_any (D + 1) 24 (eiX x y wh) (some ⟨G + 1 + 1 + 1, 0, none⟩) 5 V4 (HTD.out.later (HWW.out _ HB44.out)) HXR.out (by simp [eiX])
  have HCE : Hid (V3.cell? ⟨G + 1, 0, none⟩ = some (.int .i64 3) ∧ V3.cell? ⟨G + 1, 1, none⟩ = some (.slice none 0 0) ∧ V3.cell? ⟨G + 1, 2, none⟩ = some (.slice (some ⟨G, 0, none⟩) 2 2) ∧ V3.cell? ⟨G + 1 + 1, 0, none⟩ = some (.int .i64 3) ∧ V3.cell? ⟨G + 1 + 1, 1, none⟩ = some (.slice none 0 0) ∧ V3.cell? ⟨G + 1 + 1, 2, none⟩ = some (.slice none 0 0)) := by
    have k1 : V3.heap[G + 1]? = some (.cells #[.int .i64 3, .slice none 0 0, .slice (some ⟨G, 0, none⟩) 2 2] 38) := by
      refine (b3.block (G + 1) (by omega)).trans ?_
      rw [hV2, ← l1]; exact heap_alloc_new V1 _
    have k2 : V3.heap[G + 1 + 1]? = some (.cells #[.int .i64 3, .slice none 0 0, .slice none 0 0] 38) := by rw [hV3, ← l2]; exact heap_alloc_new V2 _
    exact ⟨cell_of_row V3 (G + 1) 0 _ _ _ k1, cell_of_row V3 (G + 1) 1 _ _ _ k1, cell_of_row V3 (G + 1) 2 _ _ _ k1, cell_of_row V3 (G + 1 + 1) 0 _ _ _ k2, cell_of_row V3 (G + 1 + 1) 1 _ _ _ k2, cell_of_row V3 (G + 1 + 1) 2 _ _ _ k2⟩
  have HL3 : Hid (V3.heap.size = G + 1 + 1 + 1) := l3
  clear l1 l2 l3 b1 b2 b3 b4 HXR
  go_upto_region 7 with fail
  rw [← hG, ← hV1, ← hV2, ← hV3]
  clear hG hV1 hV2 hV3 e0 e1 e2 f0 f1 f2
  obtain ⟨e0, e1, e2, f0, f1, f2⟩ := HAX.out V3 HB33.out
  obtain ⟨g0, g1, g2, g3, g4, g5⟩ := HCE.out
  go_wp2_with fail
  rw [← hV4, HL3.out]
  clear hV4 e0 e1 e2 f0 f1 f2 g0 g1 g2 g3 g4 g5
  refine HC6.out.mono ?_
  rintro e w6 ⟨hb6, hor⟩
  have HB6 : Hid (Below w.heap.size w w6) := (HWW.out _ HB44.out).trans (hb6.mono (HWW.out _ HB44.out).size)
  clear hb6 HC6
  rcases hor with ⟨_, rfl⟩ | ⟨_, ⟨rfl, _⟩ | ⟨lb, nx, ou, rfl, hma, hle, _⟩⟩
  · go_wp2_with fail
    go_ret
    exact ⟨by simp, HB6.out⟩
  · go_wp2_with fail
    go_ret
    exact ⟨by simp, HB6.out⟩
  rw [show (24 : Int).toNat = 24 from rfl] at hma hle
  have HLE : Hid (LeastOf 24 (eiX x y wh) nx ou) := hle
  have HC7 : Hid (Calls Tryd.prog 18 #[.pointer (some ⟨lb, 0, none⟩), .slice ra n rc] w6 (RunP 24 nx ou row w6)) := by
    have h := run_any w6 lb 24 nx ou row ra rc hma hle.asMet hle.wide hle.len (by rw [HL.out]; exact HRD.out.later HB6.out) (by have := HL.out; omega)
    rw [HL.out] at h
    exact h
  clear hma hle
  go_wp2_with fail
  refine HC7.out.mono ?_
  rintro e w7 ⟨hb7, hor⟩
  have HB7 : Hid (Below w.heap.size w w7) := HB6.out.trans (hb7.mono HB6.out.size)
  clear hb7 HC7
  rcases hor with ⟨hnc, rfl⟩ | ⟨hcl, g, cap, rfl, how⟩
  · go_wp2_with fail
    go_ret
    exact ⟨by simp, HB7.out⟩
  rw [HL.out] at how ⊢
  obtain ⟨O, hO⟩ : ∃ O : Nat → Nat, ∀ i, O i = ouR nx ou row i := ⟨_, fun _ => rfl⟩
  have HO1 : Hid (∀ i, i < n + 1 → w7.cell? ⟨g, i, none⟩ = some (.int .u64 ((O i : Nat) : Int))) := fun i hi => by rw [hO]; exact run_told how (Below.refl _ _) i hi
  have HBI : Hid (∀ i, i ≤ n → O i / 2 ^ 2 % 2 = (O i ||| O i / 2) % 2 ∧ O i / 2 ^ 3 % 2 = 0 ∧ (O i / 2 ^ 4 % 2 = if (decide (i = 0) || !wh) = true then 1 else 0) ∧ O i < 2 ^ 64) := fun i hi => by
    rw [hO]
    obtain ⟨h1, h2, h3⟩ := ei_bits HLE.out hcl i (by rw [HL.out]; exact hi)
    exact ⟨h1, h2, h3, least_lt HLE.out (by simp [eiX]) ((cls_nat hcl).2.take i)⟩
  clear hcl how hO HLE
  go_wp2_with fail
  go_loopw [16] (fun x16 wr => ∃ i : Nat, i ≤ n + 1 ∧ x16 = .int .i64 (i : Int) ∧ wr = w7) (fun x16 _ => n + 1 - (intOf x16).toNat)
  case atStart => exact ⟨0, by omega, rfl, rfl⟩
  case round =>
    obtain ⟨i, hi, hx16, hwr⟩ := hrel
    subst hx16
    obtain rfl : w7 = wr := hwr.symm
    by_cases hlt : i < n + 1
    · have d1 := HO1.out i hlt
      obtain ⟨h1, h2, h3, h4⟩ := HBI.out i (by omega)
      obtain ⟨Y, hY⟩ : ∃ Y, Y = O i := ⟨_, rfl⟩
      rw [← hY] at d1 h1 h2 h3 h4
      have hii : (i : Int) < (n : Int) + 1 := by omega
      obtain ⟨P, hP⟩ : ∃ P, P = Y ||| Y / 2 := ⟨_, rfl⟩
      obtain ⟨c, hc⟩ : ∃ c, c = P % 2 := ⟨_, rfl⟩
      have q2 : bits .or .u64 (Y : Int) ((Y : Int) / 2) = (P : Int) := by
        rw [hP, show (Y : Int) / 2 = ((Y / 2 : Nat) : Int) by simp]
        exact or_nat64 Y (Y / 2) h4 (by omega)
      have qa : bits .and .u64 (P : Int) 1 = (c : Int) := by rw [and_one64, hc]
      have q4 : bits .and .u64 ((Y : Int) / 4) 1 = (c : Int) := by
        rw [show (Y : Int) / 4 = ((Y / 2 ^ 2 : Nat) : Int) by simp, and_one64, h1, hc, hP]
      have q8 : bits .and .u64 ((Y : Int) / 8) 1 = 0 := by
        rw [show (Y : Int) / 8 = ((Y / 2 ^ 3 : Nat) : Int) by simp, and_one64, h2]
        rfl
      have q16 : (bits .and .u64 ((Y : Int) / 16) 1 == 1) = (decide (i = 0) || !wh) := by
        have := bit_eq h3
        rw [show (Y : Int) / 16 = (Y : Int) / 2 ^ 4 by rfl]
        exact this
      clear hY hP hc h1 h2 h3 h4
      by_cases hi0 : i = 0
      · have hi1 : ((i : Int) == 0) = true := by rw [hi0]; rfl
        have q16' : (bits .and .u64 ((Y : Int) / 16) 1 == 1) = true := by rw [q16]; simp [hi0]
        clear q16 hi0
        go_wp2_with fail
        go_roundw
        case rel => exact ⟨i + 1, by omega, by go_num, trivial⟩
        case measure => simp [intOf]; omega
      · have hi1 : ((i : Int) == 0) = false := by rw [beq_eq_false_iff_ne]; omega
        have q16' : (bits .and .u64 ((Y : Int) / 16) 1 == 1) = !wh := by rw [q16]; simp [hi0]
        clear q16 hi0
        cases wh with
        | true =>
          have q17 : (bits .and .u64 ((Y : Int) / 16) 1 == 1) = false := q16'
          clear q16'
          go_wp2_with fail
          go_roundw
          case rel => exact ⟨i + 1, by omega, by go_num, trivial⟩
          case measure => simp [intOf]; omega
        | false =>
          have q17 : (bits .and .u64 ((Y : Int) / 16) 1 == 1) = true := q16'
          clear q16'
          go_wp2_with fail
          go_roundw
          case rel => exact ⟨i + 1, by omega, by go_num, trivial⟩
          case measure => simp [intOf]; omega
    · have hii : ¬ (i : Int) < (n : Int) + 1 := by omega
      go_wp2_with fail
      go_ret
      exact ⟨by simp, HB7.out⟩
end Go.Proofs.YtpmmmgjiekikeaaDoor
