/- The walk of DfaEqual. -/
import Derived.Test.YtpmmmgjiekikeaaDoorJ21
namespace Go.Proofs.YtpmmmgjiekikeaaDoor
open Go.RowKit Go.Shelf Go.Maps
set_option linter.unusedVariables false
set_option linter.unusedSimpArgs false

/-- What Build leaves of one expression. -/
def BldS (n : Nd) (wh : Bool) (V : World) (e : Ending) (w' : World) : Prop :=
  Below V.heap.size V w' ∧ ∃ pv ev, e = .returned (.tuple #[.pointer pv, .int .i64 ev]) ∧ ((ev = 1 ∧ pv = none ∧ alwB 24 [(n, wh)] = false) ∨ (ev = 7 ∧ pv = none) ∨ ∃ lb nx ou, ev = 0 ∧ pv = some ⟨lb, 0, none⟩ ∧ alwB 24 [(n, wh)] = true ∧ MchAt w' lb 24 nx ou ∧ LeastOf 24 [(n, wh)] nx ou)
theorem build_one (E : Nat) (V : World) (hT : TabD V) (n : Nd) (wh : Bool) (u0 u1 u2 : Value) (h : InV V.heap.size V E n [u0, u1, u2]) :
    Calls Tryd.prog 14 #[.int .i64 24, .slice (some ⟨V.heap.size, 0, none⟩) 1 1] (V.alloc (.cells #[u0, u1, u2, .bool wh] 40)) (BldS n wh V) := by
  have hb : Below V.heap.size V (V.alloc (.cells #[u0, u1, u2, .bool wh] 40)) := (Below.refl _ V).alloc (Nat.le_refl _) _
  refine (build_any E 24 [(n, wh)] (some ⟨V.heap.size, 0, none⟩) 1 _ (hT.later hb) (xrow_one (heap_alloc_new V _) ((h.later hb E).base hb.size E)) (by simp)).mono ?_
  rintro e w' ⟨hb2, hor⟩
  refine ⟨hb.trans (hb2.mono hb.size), ?_⟩
  rcases hor with ⟨h1, rfl⟩ | ⟨h1, ⟨rfl, _⟩ | ⟨lb, nx, ou, rfl, hma, hle, _⟩⟩
  · exact ⟨none, 1, rfl, .inl ⟨rfl, rfl, h1⟩⟩
  · exact ⟨none, 7, rfl, .inr (.inl ⟨rfl, rfl⟩)⟩
  · exact ⟨_, 0, rfl, .inr (.inr ⟨lb, nx, ou, rfl, rfl, h1, hma, hle⟩)⟩
theorem alw_cnt {K : Int} {x : Nd} {b : Bool} (h : alwB K [(x, b)] = true) : x.cnt ≤ 400 := by
  rw [alw_one] at h
  have h2 := h.2.2.1
  unfold Nd.ok at h2
  simp only [Bool.and_eq_true, decide_eq_true_eq] at h2
  exact h2.2
theorem same_two {x y : Nd} {wh : Bool} {a b : List (List Nat)} {oa ob : List Nat} (h : ∀ v, x.fits v ↔ y.fits v) (ha : LeastOf 24 [(x, wh)] a oa) (hb : LeastOf 24 [(y, wh)] b ob) : a = b ∧ oa = ob :=
  least_one (ha.swap (outC_one h)) hb
/-- What is built of an expression that may be. -/
def BldT (n : Nd) (wh : Bool) (w' : World) (pv : Option Addr) (ev : Int) : Prop := (ev = 7 ∧ pv = none) ∨ ∃ lb nx ou, ev = 0 ∧ pv = some ⟨lb, 0, none⟩ ∧ MchAt w' lb 24 nx ou ∧ LeastOf 24 [(n, wh)] nx ou
theorem BldT.later {n : Nd} {wh : Bool} {w w' : World} {pv : Option Addr} {ev : Int} (h : BldT n wh w pv ev) (hb : Below w.heap.size w w') : BldT n wh w' pv ev := by
  rcases h with h | ⟨lb, nx, ou, h1, h2, h3, h4⟩
  · exact .inl h
  · exact .inr ⟨lb, nx, ou, h1, h2, h3.later hb, h4⟩
theorem BldS.tied {n : Nd} {wh : Bool} {V : World} {e : Ending} {w' : World} (h : BldS n wh V e w') (ha : alwB 24 [(n, wh)] = true) : Below V.heap.size V w' ∧ ∃ pv ev, e = .returned (.tuple #[.pointer pv, .int .i64 ev]) ∧ BldT n wh w' pv ev := by
  obtain ⟨hb, pv, ev, he, h1 | h1 | ⟨lb, nx, ou, h2, h3, _, h5⟩⟩ := h
  · rw [ha] at h1; cases h1.2.2
  · exact ⟨hb, pv, ev, he, .inl h1⟩
  · exact ⟨hb, pv, ev, he, .inr ⟨lb, nx, ou, h2, h3, h5⟩⟩
/-- Two blocks, one behind the other. -/
theorem two_new (V V1 V2 : World) (o1 : Obj) (cs : Array Value) (t : TypeId) (h1 : V1 = V.alloc o1) (h2 : V2 = V1.alloc (.cells cs t)) : Below V.heap.size V V2 ∧ Below V1.heap.size V1 V2 ∧ V2.heap[V.heap.size + 1]? = some (.cells cs t) := by
  have q1 : Below V.heap.size V V1 := by rw [h1]; exact (Below.refl _ V).alloc (Nat.le_refl _) _
  have q2 : Below V1.heap.size V1 V2 := by rw [h2]; exact (Below.refl _ V1).alloc (Nat.le_refl _) _
  refine ⟨q1.trans (q2.mono q1.size), q2, ?_⟩
  have hs : V1.heap.size = V.heap.size + 1 := by rw [h1]; simp
  rw [← hs, h2]
  exact heap_alloc_new V1 _
set_option maxRecDepth 100000 in
set_option maxHeartbeats 8000000 in
theorem dfaEqual_walk (D0 : Nat) (x : Nd) (xa xk : Option Addr) (xc xkc : Nat) (wh : Bool) (w : World) (hT : TabD w) (hx0 : InV w.heap.size w D0 x [.int .i64 x.op, .slice xa x.cl.length xc, .slice xk (toL x.kids).length xkc]) :
    Calls Tryd.prog 6 #[.agg #[.int .i64 x.op, .slice xa x.cl.length xc, .slice xk (toL x.kids).length xkc], .bool wh] w fun e w' => e = .returned (.bool true) ∧ Below w.heap.size w w' := by
  obtain ⟨D, hD⟩ : ∃ D, D = D0 + 1 := ⟨_, rfl⟩
  have hx : InV w.heap.size w D x [.int .i64 x.op, .slice xa x.cl.length xc, .slice xk (toL x.kids).length xkc] := hx0.mono (by omega)
  have HNL : Hid (∀ V : World, InV V.heap.size V D nilNd [.int .i64 0, .slice none 0 0, .slice none 0 0]) := fun V => by
    rw [hD]; exact InV.leaf V D0 0 [] none 0 (rd_nil _ _) (by simp) (fun _ => rfl)
  have HTD : Hid (TabD w) := hT
  have HCX : Hid (∀ V : World, Below w.heap.size w V → Calls Tryd.prog 22 #[.agg #[.int .i64 x.op, .slice xa x.cl.length xc, .slice xk (toL x.kids).length xkc]] V fun e w' => ∃ v : Int, e = .returned (.int .i64 v) ∧ (x.cnt ≤ 400 → v = (x.cnt : Int)) ∧ Below V.heap.size V w') := fun V hV => countX_any D x xa xk xc xkc w.heap.size V (hx.later hV D)
  have HSX : Hid (∀ V : World, Below w.heap.size w V → Calls Tryd.prog 23 #[.agg #[.int .i64 x.op, .slice xa x.cl.length xc, .slice xk (toL x.kids).length xkc]] V fun e w' => ∃ t : Int, e = .returned (.int .i64 t) ∧ Below V.heap.size V w') := fun V hV => starsX_any D x xa xk xc xkc w.heap.size V (hx.later hV D)
  have HXY : Hid (∀ V : World, Below w.heap.size w V → InV V.heap.size V D x [.int .i64 x.op, .slice xa x.cl.length xc, .slice xk (toL x.kids).length xkc]) := fun V hV => (hx.later hV D).base hV.size D
  obtain ⟨xo, hxo⟩ : ∃ xo, xo = x.op := ⟨_, rfl⟩
  obtain ⟨xn, hxn⟩ : ∃ xn, xn = x.cl.length := ⟨_, rfl⟩
  obtain ⟨xK, hxK⟩ : ∃ xK, xK = (toL x.kids).length := ⟨_, rfl⟩
  rw [← hxo, ← hxn, ← hxK] at HCX HSX HXY ⊢
  clear hT hx hx0 hxo hxn hxK hD
  obtain ⟨W0, hW0⟩ : ∃ W0, W0 = w.alloc (.cells #[.int .i64 xo, .slice xa xn xc, .slice xk xK xkc] 38) := ⟨_, rfl⟩
  obtain ⟨H, hH⟩ : ∃ H, H = w.heap.size := ⟨_, rfl⟩
  have HB0 : Hid (Below w.heap.size w W0) := by rw [hW0]; exact (Below.refl _ w).alloc (Nat.le_refl _) _
  have hbx : W0.heap[H]? = some (.cells #[.int .i64 xo, .slice xa xn xc, .slice xk xK xkc] 38) := by rw [hW0, hH]; exact heap_alloc_new w _
  have HAX : Hid (∀ V : World, Below W0.heap.size W0 V → V.cell? ⟨H, 0, none⟩ = some (.int .i64 xo) ∧ V.cell? ⟨H, 1, none⟩ = some (.slice xa xn xc) ∧ V.cell? ⟨H, 2, none⟩ = some (.slice xk xK xkc)) := fun V hV =>
    ⟨upC hV (cell_of_row W0 H 0 _ _ _ hbx), upC hV (cell_of_row W0 H 1 _ _ _ hbx), upC hV (cell_of_row W0 H 2 _ _ _ hbx)⟩
  have HWW : Hid (∀ V : World, Below W0.heap.size W0 V → Below w.heap.size w V) := fun V hV => HB0.out.trans (hV.mono HB0.out.size)
  clear hbx
  go_enter Tryd.func6, Tryd.ntmps6
  go_upto_region 1 with fail
  rw [← hH, ← hW0]
  clear hH hW0
  go_wp2_with fail
  refine (shown_any W0 (HTD.out.later HB0.out)).mono ?_
  rintro e w1 ⟨rfl, hb1⟩
  have HB1 : Hid (Below W0.heap.size W0 w1) := hb1
  clear hb1
  obtain ⟨e0, e1, e2⟩ := HAX.out w1 HB1.out
  go_wp2_with fail
  refine (HCX.out w1 (HWW.out _ HB1.out)).mono ?_
  rintro e w2 ⟨v1, rfl, hv1e, hb2⟩
  have HV1 : Hid (x.cnt ≤ 400 → v1 = (x.cnt : Int)) := hv1e
  have HB2 : Hid (Below W0.heap.size W0 w2) := HB1.out.trans (hb2.mono HB1.out.size)
  clear hb2 e0 e1 e2 hv1e
  by_cases hv1 : ¬ v1 ≤ 20
  · go_wp2_with fail
    go_ret
    exact ⟨rfl, HWW.out _ HB2.out⟩
  have hv1' : v1 ≤ 20 := by omega
  clear hv1
  obtain ⟨e0, e1, e2⟩ := HAX.out w2 HB2.out
  go_wp2_with fail
  refine (HSX.out w2 (HWW.out _ HB2.out)).mono ?_
  rintro e w3 ⟨v3, rfl, hb3⟩
  have HB3 : Hid (Below W0.heap.size W0 w3) := HB2.out.trans (hb3.mono HB2.out.size)
  clear hb3 e0 e1 e2
  by_cases hv3 : ¬ v3 ≤ 2
  · go_wp2_with fail
    go_ret
    exact ⟨rfl, HWW.out _ HB3.out⟩
  have hv3' : v3 ≤ 2 := by omega
  clear hv3
  obtain ⟨e0, e1, e2⟩ := HAX.out w3 HB3.out
  go_wp2_with fail
  refine (build_one D w3 (HTD.out.later (HWW.out _ HB3.out)) x wh _ _ _ (HXY.out _ (HWW.out _ HB3.out))).mono ?_
  rintro e w4 ⟨hb4, pv, ev, rfl, hor⟩
  have HB4 : Hid (Below W0.heap.size W0 w4) := HB3.out.trans (hb4.mono HB3.out.size)
  clear hb4 e0 e1 e2
  rcases hor with ⟨rfl, rfl, _⟩ | ⟨rfl, rfl⟩ | ⟨lba, na, oa, rfl, rfl, hal, hma, hle⟩
  · go_wp2_with fail
    go_ret
    exact ⟨rfl, HWW.out _ HB4.out⟩
  · go_wp2_with fail
    go_ret
    exact ⟨rfl, HWW.out _ HB4.out⟩
  have HMA : Hid (MchAt w4 lba 24 na oa ∧ LeastOf 24 [(x, wh)] na oa) := ⟨hma, hle⟩
  have HAL : Hid (alwB 24 [(x, wh)] = true ∧ x.cnt ≤ 20) := ⟨hal, by have := HV1.out (alw_cnt hal); omega⟩
  clear hma hle hal
  obtain ⟨e0, e1, e2⟩ := HAX.out w4 HB4.out
  obtain ⟨A1, hA1⟩ : ∃ A1, A1 = w4.heap.size := ⟨_, rfl⟩
  obtain ⟨V1, hV1⟩ : ∃ V1, V1 = w4.alloc (.cells #[.int .i64 xo, .slice xa xn xc, .slice xk xK xkc, .int .i64 xo, .slice xa xn xc, .slice xk xK xkc] 38) := ⟨_, rfl⟩
  obtain ⟨V2, hV2⟩ : ∃ V2, V2 = V1.alloc (.cells #[.int .i64 3, .slice none 0 0, .slice (some ⟨A1, 0, none⟩) 2 2] 38) := ⟨_, rfl⟩
  obtain ⟨q1, q2, q3⟩ := two_new w4 V1 V2 _ _ _ hV1 hV2
  rw [← hA1] at q3
  have HI2 : Hid (InV V2.heap.size V2 (D + 1) (twN x) [.int .i64 3, .slice none 0 0, .slice (some ⟨A1, 0, none⟩) 2 2]) := by
    have h1 := in_pair 3 (HXY.out w4 (HWW.out _ HB4.out)) (HXY.out w4 (HWW.out _ HB4.out))
    rw [← hV1, ← hA1] at h1
    exact (h1.later q2 (D + 1)).base q2.size (D + 1)
  have HQ2 : Hid (V2.heap[A1 + 1]? = some (.cells #[.int .i64 3, .slice none 0 0, .slice (some ⟨A1, 0, none⟩) 2 2] 38)) := q3
  have HB5 : Hid (Below W0.heap.size W0 V2) := HB4.out.trans (q1.mono HB4.out.size)
  have HM5 : Hid (MchAt V2 lba 24 na oa) := HMA.out.1.later q1
  clear q1 q2 q3
  go_upto_region 8 with fail
  rw [← hA1, ← hV1, ← hV2]
  clear hA1 hV1 hV2 e0 e1 e2
  obtain ⟨e0, e1, e2⟩ := HAX.out V2 HB5.out
  obtain ⟨A2, hA2⟩ : ∃ A2, A2 = V2.heap.size := ⟨_, rfl⟩
  obtain ⟨V3, hV3⟩ : ∃ V3, V3 = V2.alloc (.cells #[.int .i64 xo, .slice xa xn xc, .slice xk xK xkc, .int .i64 0, .slice none 0 0, .slice none 0 0] 38) := ⟨_, rfl⟩
  obtain ⟨V4, hV4⟩ : ∃ V4, V4 = V3.alloc (.cells #[.int .i64 2, .slice none 0 0, .slice (some ⟨A2, 0, none⟩) 2 2] 38) := ⟨_, rfl⟩
  obtain ⟨q1, q2, q3⟩ := two_new V2 V3 V4 _ _ _ hV3 hV4
  rw [← hA2] at q3
  have HI4 : Hid (InV V4.heap.size V4 (D + 1) (bhN x) [.int .i64 2, .slice none 0 0, .slice (some ⟨A2, 0, none⟩) 2 2]) := by
    have h1 := in_pair 2 (HXY.out V2 (HWW.out _ HB5.out)) (HNL.out V2)
    rw [← hV3, ← hA2] at h1
    exact (h1.later q2 (D + 1)).base q2.size (D + 1)
  have HQ4 : Hid (V4.heap[A2 + 1]? = some (.cells #[.int .i64 2, .slice none 0 0, .slice (some ⟨A2, 0, none⟩) 2 2] 38)) := q3
  have HB6 : Hid (Below W0.heap.size W0 V4) := HB5.out.trans (q1.mono HB5.out.size)
  have HM6 : Hid (MchAt V4 lba 24 na oa) := HM5.out.later q1
  have HB24 : Hid (Below V2.heap.size V2 V4) := q1
  clear q1 q2 q3
  go_upto_region 9 with fail
  rw [← hA2, ← hV3, ← hV4]
  clear hA2 hV3 hV4 e0 e1 e2 HM5
  obtain ⟨e0, e1, e2⟩ := HAX.out V4 HB6.out
  obtain ⟨A3, hA3⟩ : ∃ A3, A3 = V4.heap.size := ⟨_, rfl⟩
  obtain ⟨V5, hV5⟩ : ∃ V5, V5 = V4.alloc (.cells #[.int .i64 xo, .slice xa xn xc, .slice xk xK xkc] 38) := ⟨_, rfl⟩
  obtain ⟨V6, hV6⟩ : ∃ V6, V6 = V5.alloc (.cells #[.int .i64 4, .slice none 0 0, .slice (some ⟨A3, 0, none⟩) 1 1] 38) := ⟨_, rfl⟩
  obtain ⟨q1, q2, q3⟩ := two_new V4 V5 V6 _ _ _ hV5 hV6
  rw [← hA3] at q3
  have HI6 : Hid (InV V6.heap.size V6 (D + 1) (stN x) [.int .i64 4, .slice none 0 0, .slice (some ⟨A3, 0, none⟩) 1 1]) := by
    have h1 := in_one 4 (HXY.out V4 (HWW.out _ HB6.out))
    rw [← hV5, ← hA3] at h1
    exact (h1.later q2 (D + 1)).base q2.size (D + 1)
  have HQ6 : Hid (V6.heap[A3 + 1]? = some (.cells #[.int .i64 4, .slice none 0 0, .slice (some ⟨A3, 0, none⟩) 1 1] 38)) := q3
  have HB7 : Hid (Below W0.heap.size W0 V6) := HB6.out.trans (q1.mono HB6.out.size)
  have HM7 : Hid (MchAt V6 lba 24 na oa) := HM6.out.later q1
  have HB46 : Hid (Below V4.heap.size V4 V6) := q1
  clear q1 q2 q3
  go_upto_region 10 with fail
  rw [← hA3, ← hV5, ← hV6]
  clear hA3 hV5 hV6 e0 e1 e2 HM6
  obtain ⟨e0, e1, e2⟩ := HAX.out V6 HB7.out
  have f0 : V6.cell? ⟨A3 + 1, 0, none⟩ = some (.int .i64 4) := cell_of_row V6 (A3 + 1) 0 _ _ _ HQ6.out
  have f1 : V6.cell? ⟨A3 + 1, 1, none⟩ = some (.slice none 0 0) := cell_of_row V6 (A3 + 1) 1 _ _ _ HQ6.out
  have f2 : V6.cell? ⟨A3 + 1, 2, none⟩ = some (.slice (some ⟨A3, 0, none⟩) 1 1) := cell_of_row V6 (A3 + 1) 2 _ _ _ HQ6.out
  obtain ⟨A4, hA4⟩ : ∃ A4, A4 = V6.heap.size := ⟨_, rfl⟩
  obtain ⟨V7, hV7⟩ : ∃ V7, V7 = V6.alloc (.cells #[.int .i64 xo, .slice xa xn xc, .slice xk xK xkc, .int .i64 4, .slice none 0 0, .slice (some ⟨A3, 0, none⟩) 1 1] 38) := ⟨_, rfl⟩
  obtain ⟨V8, hV8⟩ : ∃ V8, V8 = V7.alloc (.cells #[.int .i64 2, .slice none 0 0, .slice (some ⟨A4, 0, none⟩) 2 2] 38) := ⟨_, rfl⟩
  obtain ⟨V9, hV9⟩ : ∃ V9, V9 = V8.alloc (.cells #[.int .i64 5, .slice none 0 0, .slice (some ⟨A4 + 1, 0, none⟩) 1 1] 38) := ⟨_, rfl⟩
  go_upto_region 11 with fail
  rw [← hA4, ← hV7, ← hV8, ← hV9]
  have q79 : Below V7.heap.size V7 V9 ∧ Below V6.heap.size V6 V9 ∧ V9.heap[A4 + 1 + 1]? = some (.cells #[.int .i64 5, .slice none 0 0, .slice (some ⟨A4 + 1, 0, none⟩) 1 1] 38) := by
    obtain ⟨q1, _, q3⟩ := two_new V7 V8 V9 _ _ _ hV8 hV9
    have q0 : Below V6.heap.size V6 V7 := by rw [hV7]; exact (Below.refl _ V6).alloc (Nat.le_refl _) _
    have hs : V7.heap.size = A4 + 1 := by rw [hV7, hA4]; simp
    rw [hs] at q3
    exact ⟨q1, q0.trans (q1.mono q0.size), q3⟩
  have HI9 : Hid (InV V9.heap.size V9 (D + 3) (moN x) [.int .i64 5, .slice none 0 0, .slice (some ⟨A4 + 1, 0, none⟩) 1 1]) := by
    have h1 := in_pair 2 ((HXY.out V6 (HWW.out _ HB7.out)).mono (Nat.le_succ D)) HI6.out
    rw [← hV7, ← hA4] at h1
    have h2 := in_one 5 h1
    have hs : V7.heap.size = A4 + 1 := by rw [hV7, hA4]; simp
    rw [← hV8, hs] at h2
    have q89 : Below V8.heap.size V8 V9 := by rw [hV9]; exact (Below.refl _ V8).alloc (Nat.le_refl _) _
    exact (h2.later q89 (D + 3)).base q89.size (D + 3)
  have HB8 : Hid (Below W0.heap.size W0 V9) := HB7.out.trans (q79.2.1.mono HB7.out.size)
  have HM8 : Hid (MchAt V9 lba 24 na oa) := HM7.out.later q79.2.1
  have HB49 : Hid (Below V4.heap.size V4 V9) := HB46.out.trans (q79.2.1.mono HB46.out.size)
  have HB29 : Hid (Below V2.heap.size V2 V9) := HB24.out.trans (HB49.out.mono HB24.out.size)
  have HVAR : Hid (∀ Z : World, Below V9.heap.size V9 Z → (Z.cell? ⟨A1 + 1, 0, none⟩ = some (.int .i64 3) ∧ Z.cell? ⟨A1 + 1, 1, none⟩ = some (.slice none 0 0) ∧ Z.cell? ⟨A1 + 1, 2, none⟩ = some (.slice (some ⟨A1, 0, none⟩) 2 2)) ∧ (Z.cell? ⟨A2 + 1, 0, none⟩ = some (.int .i64 2) ∧ Z.cell? ⟨A2 + 1, 1, none⟩ = some (.slice none 0 0) ∧ Z.cell? ⟨A2 + 1, 2, none⟩ = some (.slice (some ⟨A2, 0, none⟩) 2 2)) ∧ (Z.cell? ⟨A3 + 1, 0, none⟩ = some (.int .i64 4) ∧ Z.cell? ⟨A3 + 1, 1, none⟩ = some (.slice none 0 0) ∧ Z.cell? ⟨A3 + 1, 2, none⟩ = some (.slice (some ⟨A3, 0, none⟩) 1 1)) ∧ (Z.cell? ⟨A4 + 1 + 1, 0, none⟩ = some (.int .i64 5) ∧ Z.cell? ⟨A4 + 1 + 1, 1, none⟩ = some (.slice none 0 0) ∧ Z.cell? ⟨A4 + 1 + 1, 2, none⟩ = some (.slice (some ⟨A4 + 1, 0, none⟩) 1 1))) := fun Z hZ => by
    have c2 := HB29.out.trans (hZ.mono HB29.out.size)
    have c4 := HB49.out.trans (hZ.mono HB49.out.size)
    have c6 := q79.2.1.trans (hZ.mono q79.2.1.size)
    exact ⟨⟨upC c2 (cell_of_row V2 (A1 + 1) 0 _ _ _ HQ2.out), upC c2 (cell_of_row V2 (A1 + 1) 1 _ _ _ HQ2.out), upC c2 (cell_of_row V2 (A1 + 1) 2 _ _ _ HQ2.out)⟩, ⟨upC c4 (cell_of_row V4 (A2 + 1) 0 _ _ _ HQ4.out), upC c4 (cell_of_row V4 (A2 + 1) 1 _ _ _ HQ4.out), upC c4 (cell_of_row V4 (A2 + 1) 2 _ _ _ HQ4.out)⟩, ⟨upC c6 f0, upC c6 f1, upC c6 f2⟩, ⟨upC hZ (cell_of_row V9 (A4 + 1 + 1) 0 _ _ _ q79.2.2), upC hZ (cell_of_row V9 (A4 + 1 + 1) 1 _ _ _ q79.2.2), upC hZ (cell_of_row V9 (A4 + 1 + 1) 2 _ _ _ q79.2.2)⟩⟩
  have HINS : Hid (∀ Z : World, Below V9.heap.size V9 Z → InV Z.heap.size Z (D + 3) (twN x) [.int .i64 3, .slice none 0 0, .slice (some ⟨A1, 0, none⟩) 2 2] ∧ InV Z.heap.size Z (D + 3) (bhN x) [.int .i64 2, .slice none 0 0, .slice (some ⟨A2, 0, none⟩) 2 2] ∧ InV Z.heap.size Z (D + 3) (stN x) [.int .i64 4, .slice none 0 0, .slice (some ⟨A3, 0, none⟩) 1 1] ∧ InV Z.heap.size Z (D + 3) (moN x) [.int .i64 5, .slice none 0 0, .slice (some ⟨A4 + 1, 0, none⟩) 1 1]) := fun Z hZ => by
    have c2 := HB29.out.trans (hZ.mono HB29.out.size)
    have c4 := HB49.out.trans (hZ.mono HB49.out.size)
    have c6 := q79.2.1.trans (hZ.mono q79.2.1.size)
    exact ⟨((HI2.out.later c2 _).base c2.size _).mono (by omega), ((HI4.out.later c4 _).base c4.size _).mono (by omega), ((HI6.out.later c6 _).base c6.size _).mono (by omega), (HI9.out.later hZ _).base hZ.size _⟩
  have HTZ : Hid (∀ Z : World, Below V9.heap.size V9 Z → TabD Z) := fun Z hZ => (HTD.out.later (HWW.out _ HB8.out)).later hZ
  clear hA4 hV7 hV8 hV9 e0 e1 e2 f0 f1 f2 q79 HM7 HI2 HI4 HI6 HI9 HQ2 HQ4 HQ6
  obtain ⟨⟨e0, e1, e2⟩, _⟩ := HVAR.out V9 (Below.refl _ _)
  go_wp2_with fail
  refine (build_one (D + 3) V9 (HTZ.out _ (Below.refl _ _)) (twN x) wh _ _ _ (HINS.out V9 (Below.refl _ _)).1).mono ?_
  intro e z1 hbs
  obtain ⟨hb, pb, eb, rfl, ht⟩ := hbs.tied (tw_alw HAL.out.1 HAL.out.2)
  have HZ1 : Hid (Below V9.heap.size V9 z1) := hb
  have HT1 : Hid (BldT (twN x) wh z1 pb eb) := ht
  clear hbs hb ht e0 e1 e2
  obtain ⟨_, ⟨e0, e1, e2⟩, _⟩ := HVAR.out z1 HZ1.out
  go_wp2_with fail
  refine (build_one (D + 3) z1 (HTZ.out _ HZ1.out) (bhN x) wh _ _ _ (HINS.out z1 HZ1.out).2.1).mono ?_
  intro e z2 hbs
  obtain ⟨hb, pc, ec, rfl, ht⟩ := hbs.tied (bh_alw HAL.out.1 HAL.out.2)
  have HZ2 : Hid (Below V9.heap.size V9 z2) := HZ1.out.trans (hb.mono HZ1.out.size)
  have HT2 : Hid (BldT (twN x) wh z2 pb eb ∧ BldT (bhN x) wh z2 pc ec) := ⟨HT1.out.later hb, ht⟩
  clear hbs hb ht e0 e1 e2 HT1
  obtain ⟨_, _, ⟨e0, e1, e2⟩, _⟩ := HVAR.out z2 HZ2.out
  go_wp2_with fail
  refine (build_one (D + 3) z2 (HTZ.out _ HZ2.out) (stN x) wh _ _ _ (HINS.out z2 HZ2.out).2.2.1).mono ?_
  intro e z3 hbs
  obtain ⟨hb, pd, ed, rfl, ht⟩ := hbs.tied (st_alw HAL.out.1 HAL.out.2)
  have HZ3 : Hid (Below V9.heap.size V9 z3) := HZ2.out.trans (hb.mono HZ2.out.size)
  have HT3 : Hid (BldT (twN x) wh z3 pb eb ∧ BldT (bhN x) wh z3 pc ec ∧ BldT (stN x) wh z3 pd ed) := ⟨HT2.out.1.later hb, HT2.out.2.later hb, ht⟩
  clear hbs hb ht e0 e1 e2 HT2
  obtain ⟨_, _, _, e0, e1, e2⟩ := HVAR.out z3 HZ3.out
  go_wp2_with fail
  refine (build_one (D + 3) z3 (HTZ.out _ HZ3.out) (moN x) wh _ _ _ (HINS.out z3 HZ3.out).2.2.2).mono ?_
  intro e z4 hbs
  obtain ⟨hb, pk, ek, rfl, ht⟩ := hbs.tied (mo_alw HAL.out.1 HAL.out.2)
  have HZ4 : Hid (Below V9.heap.size V9 z4) := HZ3.out.trans (hb.mono HZ3.out.size)
  have HT4 : Hid (BldT (twN x) wh z4 pb eb ∧ BldT (bhN x) wh z4 pc ec ∧ BldT (stN x) wh z4 pd ed ∧ BldT (moN x) wh z4 pk ek) := ⟨HT3.out.1.later hb, HT3.out.2.1.later hb, HT3.out.2.2.later hb, ht⟩
  have HBZ : Hid (Below w.heap.size w z4) := (HWW.out _ HB8.out).trans (HZ4.out.mono (HWW.out _ HB8.out).size)
  clear hbs hb ht e0 e1 e2 HT3
  obtain ⟨t1, t2, t3, t4⟩ := HT4.out
  rcases t1 with ⟨rfl, rfl⟩ | ⟨lb, nb, ob, rfl, rfl, hmb, hlb⟩
  · go_wp2_with fail
    go_ret
    exact ⟨rfl, HBZ.out⟩
  rcases t2 with ⟨rfl, rfl⟩ | ⟨lc, nc, oc, rfl, rfl, hmc, hlc⟩
  · go_wp2_with fail
    go_ret
    exact ⟨rfl, HBZ.out⟩
  rcases t3 with ⟨rfl, rfl⟩ | ⟨ld, nd, od, rfl, rfl, hmd, hld⟩
  · go_wp2_with fail
    go_ret
    exact ⟨rfl, HBZ.out⟩
  rcases t4 with ⟨rfl, rfl⟩ | ⟨lk, nk, ok, rfl, rfl, hmk, hlk⟩
  · go_wp2_with fail
    go_ret
    exact ⟨rfl, HBZ.out⟩
  obtain ⟨rfl, rfl⟩ := same_two (fun v => (tw_fits x v).symm) HMA.out.2 hlb
  obtain ⟨rfl, rfl⟩ := same_two (fun v => (bh_fits x v).symm) HMA.out.2 hlc
  obtain ⟨rfl, rfl⟩ := same_two (fun v => (mo_fits x v).symm) hld hlk
  have HEQ : Hid (∀ Z : World, Below z4.heap.size z4 Z → (MchAt Z lba 24 na oa ∧ MchAt Z lb 24 na oa ∧ MchAt Z lc 24 na oa) ∧ MchAt Z ld 24 nd od ∧ MchAt Z lk 24 nd od) := fun Z hZ => ⟨⟨(HM8.out.later HZ4.out).later hZ, hmb.later hZ, hmc.later hZ⟩, hmd.later hZ, hmk.later hZ⟩
  have HQ : Hid (∀ (Z : World) (p q : Nat) (nx : List (List Nat)) (ou : List Nat), MchAt Z p 24 nx ou → MchAt Z q 24 nx ou → Calls Tryd.prog 24 #[.pointer (some ⟨p, 0, none⟩), .pointer (some ⟨q, 0, none⟩)] Z fun e w' => e = .returned (.bool true) ∧ Below Z.heap.size Z w') := fun Z p q nx ou h1 h2 => by
    have h := equal_any Z p q 24 24 nx nx ou ou h1 h2
    rw [show decide (24 = 24 ∧ ou = ou ∧ nx = nx) = true by simp] at h
    exact h
  clear hmb hmc hmd hmk hlb hlc hld hlk HM8 HT4
  go_wp2_with fail
  refine (HQ.out z4 lba lb na oa (HEQ.out z4 (Below.refl _ _)).1.1 (HEQ.out z4 (Below.refl _ _)).1.2.1).mono ?_
  rintro e y1 ⟨rfl, hb⟩
  have HY1 : Hid (Below z4.heap.size z4 y1) := hb
  clear hb
  go_wp2_with fail
  refine (HQ.out y1 lb lc na oa (HEQ.out y1 HY1.out).1.2.1 (HEQ.out y1 HY1.out).1.2.2).mono ?_
  rintro e y2 ⟨rfl, hb⟩
  have HY2 : Hid (Below z4.heap.size z4 y2) := HY1.out.trans (hb.mono HY1.out.size)
  clear hb
  go_wp2_with fail
  refine (HQ.out y2 ld lk nd od (HEQ.out y2 HY2.out).2.1 (HEQ.out y2 HY2.out).2.2).mono ?_
  rintro e y3 ⟨rfl, hb⟩
  have HY3 : Hid (Below z4.heap.size z4 y3) := HY2.out.trans (hb.mono HY2.out.size)
  clear hb
  go_wp2_with fail
  refine (HQ.out y3 lk ld nd od (HEQ.out y3 HY3.out).2.2 (HEQ.out y3 HY3.out).2.1).mono ?_
  rintro e y4 ⟨rfl, hb⟩
  have HY4 : Hid (Below z4.heap.size z4 y4) := HY3.out.trans (hb.mono HY3.out.size)
  have HYE : Hid (Below w.heap.size w y4) := HBZ.out.trans (HY4.out.mono HBZ.out.size)
  clear hb
  go_wp2_with fail
  go_ret
  exact ⟨by simp, HYE.out⟩
end Go.Proofs.YtpmmmgjiekikeaaDoor
