/- The walk of NfaBuilds. -/
import Derived.Test.YtodaoelkljaflaaNfaL
namespace Go.Proofs.Ytodaoelkljaflaa
open Go.RowKit
set_option linter.unusedVariables false
set_option linter.unusedSimpArgs false

theorem ok_pair {x y : Nd} (hx : x.small = true) (hy : y.small = true) (op : Int) (ho : op = 2 ∨ op = 3) : (⟨op, [], ofL [x, y]⟩ : Nd).ok = true := by
  have h1 := (small_parts hx).2.1
  have h2 := (small_parts hy).2.1
  refine ok_mk (okN_node op [x, y] 31 ?_ (by omega) (fun z hz => ?_)) ?_
  · rcases ho with rfl | rfl <;> rfl
  · simp at hz
    rcases hz with rfl | rfl
    · exact small_okN hx 31 (by omega)
    · exact small_okN hy 31 (by omega)
  · rw [cnt_node]; simp [cntL]; omega
theorem ok_one {x : Nd} (hx : x.small = true) (op : Int) (ho : op = 4 ∨ op = 5) : (⟨op, [], ofL [x]⟩ : Nd).ok = true := by
  have h1 := (small_parts hx).2.1
  refine ok_mk (okN_node op [x] 31 ?_ (by omega) (fun z hz => ?_)) ?_
  · rcases ho with rfl | rfl <;> rfl
  · simp at hz
    subst hz
    exact small_okN hx 31 (by omega)
  · rw [cnt_node]; simp [cntL]; omega
theorem ok_twice {x : Nd} (hx : x.small = true) : (⟨2, [], ofL [x, ⟨4, [], ofL [x]⟩]⟩ : Nd).ok = true := by
  have h1 := (small_parts hx).2.1
  refine ok_mk (okN_node 2 [x, ⟨4, [], ofL [x]⟩] 31 rfl (by omega) (fun z hz => ?_)) ?_
  · simp at hz
    rcases hz with rfl | rfl
    · exact small_okN hx 31 (by omega)
    · exact okN_node 4 [x] 30 rfl (by omega) (fun z hz => by simp at hz; subst hz; exact small_okN hx 30 (by omega))
  · rw [cnt_node]; simp [cntL, cnt_node]; omega
theorem boolOf (p : Prop) : ∃ b : Bool, b = true ↔ p := by
  by_cases h : p
  · exact ⟨true, by simp [h]⟩
  · exact ⟨false, by simp [h]⟩
/-- Is it cut so up to a place? -/
def CutTo (x y : Nd) (xs : List Int) (k : Nat) : Prop := ∃ i, i < k ∧ x.fits (xs.take i) ∧ y.fits (xs.drop i)
set_option maxRecDepth 100000 in
set_option maxHeartbeats 16000000 in
theorem nfaBuilds_walk (D : Nat) (x : Nd) (xa xk : Option Addr) (xc xkc : Nat) (y : Nd) (ya yk : Option Addr) (yc ykc : Nat) (xs0 : List Int) (a : Option Addr) (len0 cap : Nat) (w : World) (hinx : InV w.heap.size w D x [.int .i64 x.op, .slice xa x.cl.length xc, .slice xk (toL x.kids).length xkc]) (hiny : InV w.heap.size w D y [.int .i64 y.op, .slice ya y.cl.length yc, .slice yk (toL y.kids).length ykc]) (hrd : Rd .i64 w a len0 xs0) (hcap : len0 ≤ cap) (hcm : cap ≤ 9223372036854775807) (hnone : a = none → cap = 0) :
    Calls Try.prog 7 #[.agg #[.int .i64 x.op, .slice xa x.cl.length xc, .slice xk (toL x.kids).length xkc], .agg #[.int .i64 y.op, .slice ya y.cl.length yc, .slice yk (toL y.kids).length ykc], .slice a len0 cap] w fun e w' => e = .returned (.bool true) ∧ Below w.heap.size w w' := by
  obtain ⟨x0, hx0⟩ : ∃ x0, x0 = x.op := ⟨_, rfl⟩
  obtain ⟨xn, hxn⟩ : ∃ xn, xn = x.cl.length := ⟨_, rfl⟩
  obtain ⟨xl, hxl⟩ : ∃ xl, xl = (toL x.kids).length := ⟨_, rfl⟩
  obtain ⟨y0, hy0⟩ : ∃ y0, y0 = y.op := ⟨_, rfl⟩
  obtain ⟨yn, hyn⟩ : ∃ yn, yn = y.cl.length := ⟨_, rfl⟩
  obtain ⟨yl, hyl⟩ : ∃ yl, yl = (toL y.kids).length := ⟨_, rfl⟩
  have HSX : Hid (∀ V : World, Below w.heap.size w V → Calls Try.prog 25 #[.agg #[.int .i64 x0, .slice xa xn xc, .slice xk xl xkc]] V fun e w' => e = .returned (.bool x.small) ∧ Below V.heap.size V w') := fun V hV => by
    rw [hx0, hxn, hxl]; exact small_any D x xa xk xc xkc V ((hinx.later hV D).base hV.size D)
  have HSY : Hid (∀ V : World, Below w.heap.size w V → Calls Try.prog 25 #[.agg #[.int .i64 y0, .slice ya yn yc, .slice yk yl ykc]] V fun e w' => e = .returned (.bool y.small) ∧ Below V.heap.size V w') := fun V hV => by
    rw [hy0, hyn, hyl]; exact small_any D y ya yk yc ykc V ((hiny.later hV D).base hV.size D)
  have HFX : Hid (∀ V : World, x.ok = true → Below w.heap.size w V → Calls Try.prog 26 #[.agg #[.int .i64 x0, .slice xa xn xc, .slice xk xl xkc]] V fun e w' => ∃ bm, e = .returned (.pointer (some ⟨bm, 0, none⟩)) ∧ NMach V.heap.size w' bm x ∧ Below V.heap.size V w') := fun V hok hV => by
    rw [hx0, hxn, hxl]; exact fits_any D x xa xk xc xkc V ((hinx.later hV D).base hV.size D) hok
  have HFY : Hid (∀ V : World, y.ok = true → Below w.heap.size w V → Calls Try.prog 26 #[.agg #[.int .i64 y0, .slice ya yn yc, .slice yk yl ykc]] V fun e w' => ∃ bm, e = .returned (.pointer (some ⟨bm, 0, none⟩)) ∧ NMach V.heap.size w' bm y ∧ Below V.heap.size V w') := fun V hok hV => by
    rw [hy0, hyn, hyl]; exact fits_any D y ya yk yc ykc V ((hiny.later hV D).base hV.size D) hok
  rw [← hx0, ← hxn, ← hxl] at hinx
  rw [← hy0, ← hyn, ← hyl] at hiny
  have HIX : Hid (∀ V : World, Below w.heap.size w V → InV V.heap.size V D x [.int .i64 x0, .slice xa xn xc, .slice xk xl xkc]) := fun V hV => (hinx.later hV D).base hV.size D
  have HIY : Hid (∀ V : World, Below w.heap.size w V → InV V.heap.size V D y [.int .i64 y0, .slice ya yn yc, .slice yk yl ykc]) := fun V hV => (hiny.later hV D).base hV.size D
  rw [← hx0, ← hxn, ← hxl, ← hy0, ← hyn, ← hyl]
  obtain ⟨len, hlen⟩ : ∃ len : Nat, (len : Int) = min (len0 : Int) 20 := ⟨min len0 20, by omega⟩
  have hmin := min_run len0 len 20 hlen
  have hcut0 := cutI a len0 cap len (by omega)
  obtain ⟨xs, hxs⟩ : ∃ xs, xs = xs0.take len := ⟨_, rfl⟩
  have HRD : Hid (Rd .i64 w a len xs) := by rw [hxs]; exact hrd.take len (by omega)
  have HL : Hid (xs.length = len) := HRD.out.1
  have hl20 : len ≤ 20 := by omega
  have hl20i : (len : Int) ≤ 20 := by omega
  have hlc : len ≤ cap := by omega
  have HCM : Hid (cap ≤ 9223372036854775807) := hcm
  obtain ⟨W0, hW0⟩ : ∃ W0, W0 = (w.alloc (.cells #[.int .i64 x0, .slice xa xn xc, .slice xk xl xkc] 25)).alloc (.cells #[.int .i64 y0, .slice ya yn yc, .slice yk yl ykc] 25) := ⟨_, rfl⟩
  obtain ⟨H, hH⟩ : ∃ H, H = w.heap.size := ⟨_, rfl⟩
  have HB0 : Hid (Below w.heap.size w W0) := by rw [hW0]; exact ((Below.refl _ w).alloc (Nat.le_refl _) _).alloc (by simp) _
  have hax : W0.heap[H]? = some (.cells #[.int .i64 x0, .slice xa xn xc, .slice xk xl xkc] 25) := by
    rw [hW0, hH]
    exact (((Below.refl _ (w.alloc _)).alloc (Nat.le_refl _) _).block w.heap.size (by simp)).trans (heap_alloc_new w _)
  have hay : W0.heap[H + 1]? = some (.cells #[.int .i64 y0, .slice ya yn yc, .slice yk yl ykc] 25) := by rw [hW0, hH]; exact new_at2 w _ _
  have HAX : Hid (∀ V : World, Below W0.heap.size W0 V → (V.cell? ⟨H, 0, none⟩ = some (.int .i64 x0) ∧ V.cell? ⟨H, 1, none⟩ = some (.slice xa xn xc) ∧ V.cell? ⟨H, 2, none⟩ = some (.slice xk xl xkc)) ∧ V.cell? ⟨H + 1, 0, none⟩ = some (.int .i64 y0) ∧ V.cell? ⟨H + 1, 1, none⟩ = some (.slice ya yn yc) ∧ V.cell? ⟨H + 1, 2, none⟩ = some (.slice yk yl ykc)) := fun V hV =>
    ⟨⟨upC hV (cell_of_row W0 H 0 _ _ _ hax), upC hV (cell_of_row W0 H 1 _ _ _ hax), upC hV (cell_of_row W0 H 2 _ _ _ hax)⟩, upC hV (cell_of_row W0 (H + 1) 0 _ _ _ hay), upC hV (cell_of_row W0 (H + 1) 1 _ _ _ hay), upC hV (cell_of_row W0 (H + 1) 2 _ _ _ hay)⟩
  clear hinx hiny hrd hcap hcm hnone hx0 hxn hxl hy0 hyn hyl hxs hax hay
  go_enter Try.func7, Try.ntmps7
  go_upto_region 1 with fail
  rw [← hH, ← hW0]
  clear hH hW0
  go_wp2_with fail
  refine (shown_any W0).mono ?_
  rintro e w1 ⟨rfl, hb1⟩
  have A1 : Hid (Below W0.heap.size W0 w1) := hb1
  have B1 : Hid (Below w.heap.size w w1) := HB0.out.trans (hb1.mono HB0.out.size)
  obtain ⟨⟨e0, e1, e2⟩, f0, f1, f2⟩ := HAX.out w1 A1.out
  clear hb1 hlen
  go_wp2_with fail
  refine (HSX.out w1 B1.out).mono ?_
  rintro e w2 ⟨rfl, hb2⟩
  have A2 : Hid (Below W0.heap.size W0 w2) := A1.out.trans (hb2.mono A1.out.size)
  have B2 : Hid (Below w.heap.size w w2) := B1.out.trans (hb2.mono B1.out.size)
  clear hb2 e0 e1 e2 f0 f1 f2 hmin hcut0
  obtain ⟨sx, hsx⟩ : ∃ sx, sx = x.small := ⟨_, rfl⟩
  rw [← hsx]
  cases sx with
  | false =>
    clear hsx
    go_wp2
    go_ret
    exact ⟨rfl, B2.out⟩
  | true =>
  have HX : Hid (x.small = true) := hsx.symm
  clear hsx
  obtain ⟨⟨e0, e1, e2⟩, f0, f1, f2⟩ := HAX.out w2 A2.out
  go_wp2_with fail
  refine (HSY.out w2 B2.out).mono ?_
  rintro e w3 ⟨rfl, hb3⟩
  have A3 : Hid (Below W0.heap.size W0 w3) := A2.out.trans (hb3.mono A2.out.size)
  have B3 : Hid (Below w.heap.size w w3) := B2.out.trans (hb3.mono B2.out.size)
  clear hb3 e0 e1 e2 f0 f1 f2
  obtain ⟨sy, hsy⟩ : ∃ sy, sy = y.small := ⟨_, rfl⟩
  rw [← hsy]
  cases sy with
  | false =>
    clear hsy
    go_wp2
    go_ret
    exact ⟨rfl, B3.out⟩
  | true =>
  have HY : Hid (y.small = true) := hsy.symm
  clear hsy HSX HSY
  -- the seven machines
  obtain ⟨⟨e0, e1, e2⟩, f0, f1, f2⟩ := HAX.out w3 A3.out
  go_wp2_with fail
  refine (HFX.out w3 (small_parts HX.out).1 B3.out).mono ?_
  rintro e w4 ⟨m1, rfl, hm1, hb4⟩
  have A4 : Hid (Below W0.heap.size W0 w4) := A3.out.trans (hb4.mono A3.out.size)
  have B4 : Hid (Below w.heap.size w w4) := B3.out.trans (hb4.mono B3.out.size)
  have M1 : Hid (∀ V : World, Below w4.heap.size w4 V → NMach w3.heap.size V m1 x) := fun V hV => hm1.later hV
  clear hb4 hm1 e0 e1 e2 f0 f1 f2
  obtain ⟨⟨e0, e1, e2⟩, f0, f1, f2⟩ := HAX.out w4 A4.out
  go_wp2_with fail
  refine (HFY.out w4 (small_parts HY.out).1 B4.out).mono ?_
  rintro e w5 ⟨m2, rfl, hm2, hb5⟩
  have A5 : Hid (Below W0.heap.size W0 w5) := A4.out.trans (hb5.mono A4.out.size)
  have B5 : Hid (Below w.heap.size w w5) := B4.out.trans (hb5.mono B4.out.size)
  have C5 : Hid (Below w4.heap.size w4 w5) := hb5
  have M2 : Hid (∀ V : World, Below w5.heap.size w5 V → NMach w4.heap.size V m2 y) := fun V hV => hm2.later hV
  clear hb5 hm2 e0 e1 e2 f0 f1 f2
  obtain ⟨⟨e0, e1, e2⟩, f0, f1, f2⟩ := HAX.out w5 A5.out
  go_wp2_with fail
  refine (fitsC_any (D + 1) 2 [x, y] (some ⟨w5.heap.size, 0, none⟩) 2 2 _ (in_pair 2 (HIX.out w5 B5.out) (HIY.out w5 B5.out)) rfl (ok_pair HX.out HY.out 2 (.inl rfl))).mono ?_
  rintro e w6 ⟨m3, rfl, hm3, hb6⟩
  have C6 : Hid (Below w5.heap.size w5 w6) := ((Below.refl _ w5).alloc (Nat.le_refl _) _).trans (hb6.mono (by simp))
  have A6 : Hid (Below W0.heap.size W0 w6) := A5.out.trans (C6.out.mono A5.out.size)
  have B6 : Hid (Below w.heap.size w w6) := B5.out.trans (C6.out.mono B5.out.size)
  have M3 : Hid (∀ V : World, Below w6.heap.size w6 V → NMach (w5.heap.size + 1) V m3 ⟨2, [], ofL [x, y]⟩) := fun V hV => by
    have := hm3.later hV
    simpa using this
  clear hb6 hm3 e0 e1 e2 f0 f1 f2
  obtain ⟨⟨e0, e1, e2⟩, f0, f1, f2⟩ := HAX.out w6 A6.out
  go_wp2_with fail
  refine (fitsC_any (D + 1) 3 [x, y] (some ⟨w6.heap.size, 0, none⟩) 2 2 _ (in_pair 3 (HIX.out w6 B6.out) (HIY.out w6 B6.out)) rfl (ok_pair HX.out HY.out 3 (.inr rfl))).mono ?_
  rintro e w7 ⟨m4, rfl, hm4, hb7⟩
  have C7 : Hid (Below w6.heap.size w6 w7) := ((Below.refl _ w6).alloc (Nat.le_refl _) _).trans (hb7.mono (by simp))
  have A7 : Hid (Below W0.heap.size W0 w7) := A6.out.trans (C7.out.mono A6.out.size)
  have B7 : Hid (Below w.heap.size w w7) := B6.out.trans (C7.out.mono B6.out.size)
  have M4 : Hid (∀ V : World, Below w7.heap.size w7 V → NMach (w6.heap.size + 1) V m4 ⟨3, [], ofL [x, y]⟩) := fun V hV => by
    have := hm4.later hV
    simpa using this
  clear hb7 hm4 e0 e1 e2 f0 f1 f2
  obtain ⟨⟨e0, e1, e2⟩, f0, f1, f2⟩ := HAX.out w7 A7.out
  go_wp2_with fail
  refine (fitsC_any (D + 1) 5 [x] (some ⟨w7.heap.size, 0, none⟩) 1 1 _ (in_one 5 (HIX.out w7 B7.out)) rfl (ok_one HX.out 5 (.inr rfl))).mono ?_
  rintro e w8 ⟨m5, rfl, hm5, hb8⟩
  have C8 : Hid (Below w7.heap.size w7 w8) := ((Below.refl _ w7).alloc (Nat.le_refl _) _).trans (hb8.mono (by simp))
  have A8 : Hid (Below W0.heap.size W0 w8) := A7.out.trans (C8.out.mono A7.out.size)
  have B8 : Hid (Below w.heap.size w w8) := B7.out.trans (C8.out.mono B7.out.size)
  have M5 : Hid (∀ V : World, Below w8.heap.size w8 V → NMach (w7.heap.size + 1) V m5 ⟨5, [], ofL [x]⟩) := fun V hV => by
    have := hm5.later hV
    simpa using this
  clear hb8 hm5 e0 e1 e2 f0 f1 f2
  obtain ⟨⟨e0, e1, e2⟩, f0, f1, f2⟩ := HAX.out w8 A8.out
  go_wp2_with fail
  refine (fitsC_any (D + 1) 4 [x] (some ⟨w8.heap.size, 0, none⟩) 1 1 _ (in_one 4 (HIX.out w8 B8.out)) rfl (ok_one HX.out 4 (.inl rfl))).mono ?_
  rintro e w9 ⟨m6, rfl, hm6, hb9⟩
  have C9 : Hid (Below w8.heap.size w8 w9) := ((Below.refl _ w8).alloc (Nat.le_refl _) _).trans (hb9.mono (by simp))
  have A9 : Hid (Below W0.heap.size W0 w9) := A8.out.trans (C9.out.mono A8.out.size)
  have B9 : Hid (Below w.heap.size w w9) := B8.out.trans (C9.out.mono B8.out.size)
  have M6 : Hid (∀ V : World, Below w9.heap.size w9 V → NMach (w8.heap.size + 1) V m6 ⟨4, [], ofL [x]⟩) := fun V hV => by
    have := hm6.later hV
    simpa using this
  clear hb9 hm6 e0 e1 e2 f0 f1 f2
  obtain ⟨⟨e0, e1, e2⟩, f0, f1, f2⟩ := HAX.out w9 A9.out
  go_wp2_with fail
  have hi1 := in_one 4 (HIX.out w9 B9.out)
  have hi2 := in_up (HIX.out w9 B9.out) (.cells #[.int .i64 x0, .slice xa xn xc, .slice xk xl xkc] 25)
  have hi3 := in_pair 2 (hi2.deep D) hi1
  rw [show (w9.alloc (.cells #[.int .i64 x0, .slice xa xn xc, .slice xk xl xkc] 25)).heap.size = w9.heap.size + 1 by simp] at hi3
  refine (fitsC_any (D + 2) 2 [x, ⟨4, [], ofL [x]⟩] (some ⟨w9.heap.size + 1, 0, none⟩) 2 2 _ hi3 rfl (ok_twice HX.out)).mono ?_
  rintro e w10 ⟨m7, rfl, hm7, hb10⟩
  have C10 : Hid (Below w9.heap.size w9 w10) := (((Below.refl _ w9).alloc (Nat.le_refl _) _).alloc (by simp) _).trans (hb10.mono (by simp; omega))
  have B10 : Hid (Below w.heap.size w w10) := B9.out.trans (C10.out.mono B9.out.size)
  have M7 : Hid (∀ V : World, Below w10.heap.size w10 V → ∃ Z, NMach Z V m7 ⟨2, [], ofL [x, ⟨4, [], ofL [x]⟩]⟩) := fun V hV => ⟨_, hm7.later hV⟩
  clear hb10 hm7 e0 e1 e2 f0 f1 f2 hi1 hi2 hi3
  -- all of them, from here on
  have P : Hid (∀ V : World, Below w10.heap.size w10 V → Below w.heap.size w V ∧ NMach w3.heap.size V m1 x ∧ NMach w4.heap.size V m2 y ∧ NMach (w5.heap.size + 1) V m3 ⟨2, [], ofL [x, y]⟩ ∧ NMach (w6.heap.size + 1) V m4 ⟨3, [], ofL [x, y]⟩ ∧ NMach (w7.heap.size + 1) V m5 ⟨5, [], ofL [x]⟩ ∧ NMach (w8.heap.size + 1) V m6 ⟨4, [], ofL [x]⟩) := by
    intro V hV
    have v9 := C10.out.trans (hV.mono C10.out.size)
    have v8 := C9.out.trans (v9.mono C9.out.size)
    have v7 := C8.out.trans (v8.mono C8.out.size)
    have v6 := C7.out.trans (v7.mono C7.out.size)
    have v5 := C6.out.trans (v6.mono C6.out.size)
    have v4 := C5.out.trans (v5.mono C5.out.size)
    exact ⟨B10.out.trans (hV.mono B10.out.size), M1.out V v4, M2.out V v5, M3.out V v6, M4.out V v7, M5.out V v8, M6.out V v9⟩
  clear M1 M2 M3 M4 M5 M6 C5 C6 C7 C8 C9 C10 A1 A2 A3 A4 A5 A6 A7 A8 A9 HFX HFY HIX HIY HAX
  go_wp2
  have HRW : Hid (∀ V : World, Below w10.heap.size w10 V → Rd .i64 V a len xs) := fun V hV => HRD.out.later (P.out V hV).1
  go_loopw [15, 16] (fun x15 x16 wr => ∃ k : Nat, k ≤ len + 1 ∧ x16 = .int .i64 k ∧ Below w10.heap.size w10 wr ∧ ∃ b : Bool, x15 = .bool b ∧ (b = true ↔ CutTo x y xs k)) (fun _ x16 _ => len + 1 - (intOf x16).toNat)
  case atStart => exact ⟨0, by omega, rfl, Below.refl _ _, false, rfl, ⟨fun h => (by cases h), fun ⟨i, hi, _⟩ => by omega⟩⟩
  case round =>
    obtain ⟨k, hk, hx16, hbl, S, hx15, hS⟩ := hrel
    subst hx16 hx15
    have HB : Hid (Below w10.heap.size w10 wr) := hbl
    have HS : Hid (S = true ↔ CutTo x y xs k) := hS
    clear hbl hS
    by_cases hlt : k ≤ len
    · have hki : (k : Int) ≤ (len : Int) := by omega
      have hkc : k ≤ cap := by omega
      have HSN : Hid (CutTo x y xs (k + 1) ↔ CutTo x y xs k ∨ (x.fits (xs.take k) ∧ y.fits (xs.drop k))) := by
        constructor
        · rintro ⟨i, hi, h1, h2⟩
          rcases Nat.lt_or_ge i k with h | h
          · exact .inl ⟨i, h, h1, h2⟩
          · obtain rfl : i = k := by omega
            exact .inr ⟨h1, h2⟩
        · rintro (⟨i, hi, h1, h2⟩ | ⟨h1, h2⟩)
          · exact ⟨i, by omega, h1, h2⟩
          · exact ⟨k, by omega, h1, h2⟩
      cases S with
      | true =>
        have HN : Hid (true = true ↔ CutTo x y xs (k + 1)) := ⟨fun _ => HSN.out.2 (.inl (HS.out.1 rfl)), fun _ => rfl⟩
        go_wp2
        go_roundw
        case rel => exact ⟨k + 1, by omega, by go_num, HB.out, true, rfl, HN.out⟩
        case measure => simp [intOf]; omega
      | false =>
        have hcu := cutI a len cap k hkc
        obtain ⟨a', hcf, hrf⟩ := cutI_from (a := a) (len := len) (cap := cap) k hlt hlc
        have HRF : Hid (∀ (w : World) (xs : List Int), Rd .i64 w a len xs → Rd .i64 w a' (len - k) (xs.drop k)) := hrf
        have HC1 : Hid (Calls Try.prog 23 #[.pointer (some ⟨m1, 0, none⟩), .slice a k cap] wr fun e w' => ∃ b : Bool, e = .returned (.bool b) ∧ (b = true ↔ x.fits (xs.take k)) ∧ Below wr.heap.size wr w') := matchN_any _ wr m1 x (xs.take k) a k cap (P.out wr HB.out).2.1 ((HRW.out wr HB.out).take k hlt) (by omega)
        have HC2 : Hid (∀ V : World, Below w10.heap.size w10 V → Calls Try.prog 23 #[.pointer (some ⟨m2, 0, none⟩), .slice a' (len - k) (cap - k)] V fun e w' => ∃ b : Bool, e = .returned (.bool b) ∧ (b = true ↔ y.fits (xs.drop k)) ∧ Below V.heap.size V w') := fun V hV => matchN_any _ V m2 y (xs.drop k) a' (len - k) (cap - k) (P.out V hV).2.2.1 (HRF.out V xs (HRW.out V hV)) (by omega)
        clear hrf
        go_wp2_with fail
        refine HC1.out.mono ?_
        rintro e w11 ⟨b1, rfl, hb1, hb11⟩
        have H1 : Hid (b1 = true ↔ x.fits (xs.take k)) := hb1
        have B11 : Hid (Below w10.heap.size w10 w11) := HB.out.trans (hb11.mono HB.out.size)
        clear hb1 hb11 HC1
        cases b1 with
        | false =>
          have HN : Hid (false = true ↔ CutTo x y xs (k + 1)) := by
            refine ⟨fun h => (by cases h), fun h => ?_⟩
            rcases HSN.out.1 h with h | h
            · exact HS.out.2 h
            · exact H1.out.2 h.1
          go_wp2
          go_roundw
          case rel => exact ⟨k + 1, by omega, by go_num, B11.out, false, rfl, HN.out⟩
          case measure => simp [intOf]; omega
        | true =>
          go_wp2_with fail
          refine (HC2.out w11 B11.out).mono ?_
          rintro e w12 ⟨b2, rfl, hb2, hb12⟩
          have B12 : Hid (Below w10.heap.size w10 w12) := B11.out.trans (hb12.mono B11.out.size)
          have HN : Hid (b2 = true ↔ CutTo x y xs (k + 1)) := by
            show _ ↔ _
            rw [HSN.out, hb2]
            constructor
            · intro h
              exact .inr ⟨H1.out.1 (by simp), h⟩
            · rintro (h | h)
              · exact absurd (HS.out.2 h) (by simp)
              · exact h.2
          clear hb2 hb12 HC2
          go_wp2
          go_roundw
          case rel => exact ⟨k + 1, by omega, by go_num, B12.out, b2, rfl, HN.out⟩
          case measure => simp [intOf]; omega
    · obtain rfl : k = len + 1 := by omega
      have hki : ¬ ((len + 1 : Nat) : Int) ≤ (len : Int) := by omega
      have HSQ : Hid (S = true ↔ (⟨2, [], ofL [x, y]⟩ : Nd).fits xs) := by
        show _ ↔ _
        rw [HS.out, fits_seq]
        show _ ↔ seqL [x.fits, y.fits] xs
        rw [seqL_two, cut_iff, HL.out]
        constructor
        · rintro ⟨i, h1, h2⟩
          exact ⟨i, by omega, h2⟩
        · rintro ⟨i, h1, h2⟩
          exact ⟨i, by omega, h2⟩
      obtain ⟨bo, hbo⟩ : ∃ b : Bool, b = true ↔ x.fits xs := boolOf _
      obtain ⟨bY, hbY⟩ : ∃ b : Bool, b = true ↔ y.fits xs := boolOf _
      obtain ⟨bt, hbt⟩ : ∃ b : Bool, b = true ↔ (⟨2, [], ofL [x, ⟨4, [], ofL [x]⟩]⟩ : Nd).fits xs := boolOf _
      obtain ⟨z, hz⟩ : ∃ z, z = ((len : Int) == 0) := ⟨_, rfl⟩
      have hzx : z = true ↔ xs = [] := by
        rw [hz, beq_iff_eq]
        constructor
        · intro h; exact List.eq_nil_of_length_eq_zero (by rw [HL.out]; omega)
        · intro h; have := HL.out; rw [h] at this; simp at this; omega
      have HAL : Hid ((bo || bY) = true ↔ (⟨3, [], ofL [x, y]⟩ : Nd).fits xs) := by
        show _ ↔ _
        rw [fits_alt, Bool.or_eq_true, hbo, hbY]
        simp
      have HOP : Hid ((bo || z) = true ↔ (⟨5, [], ofL [x]⟩ : Nd).fits xs) := by
        show _ ↔ _
        rw [fits_opt, Bool.or_eq_true, hbo, hzx]
        exact or_comm
      have HST : Hid ((bt || z) = true ↔ (⟨4, [], ofL [x]⟩ : Nd).fits xs) := by
        show _ ↔ _
        rw [fits_star, star_twice, Bool.or_eq_true, hbt, hzx, fits_seq]
        show seqL [x.fits, (⟨4, [], ofL [x]⟩ : Nd).fits] xs ∨ _ ↔ _
        rw [seqL_two]
        simp only [fits_star]
      have HBO : Hid (bo = true ↔ x.fits xs) := hbo
      have HBY : Hid (bY = true ↔ y.fits xs) := hbY
      have HBT : Hid (bt = true ↔ (⟨2, [], ofL [x, ⟨4, [], ofL [x]⟩]⟩ : Nd).fits xs) := hbt
      have hzz := hz.symm
      clear hbo hbY hbt hzx hz hk hlt
      go_wp2_with fail
      refine (matchT_any _ wr m1 x xs a len cap (P.out wr HB.out).2.1 (HRW.out wr HB.out) (by omega) bo HBO.out).mono ?_
      rintro e u1 ⟨rfl, hv1⟩
      have U1 : Hid (Below w10.heap.size w10 u1) := HB.out.trans (hv1.mono HB.out.size)
      clear hv1
      go_wp2_with fail
      refine (matchT_any _ u1 m3 _ xs a len cap (P.out u1 U1.out).2.2.2.1 (HRW.out u1 U1.out) (by omega) S HSQ.out).mono ?_
      rintro e u2 ⟨rfl, hv2⟩
      have U2 : Hid (Below w10.heap.size w10 u2) := U1.out.trans (hv2.mono U1.out.size)
      clear hv2
      go_wp2_with fail
      refine (matchT_any _ u2 m4 _ xs a len cap (P.out u2 U2.out).2.2.2.2.1 (HRW.out u2 U2.out) (by omega) (bo || bY) HAL.out).mono ?_
      rintro e u3 ⟨rfl, hv3⟩
      have U3 : Hid (Below w10.heap.size w10 u3) := U2.out.trans (hv3.mono U2.out.size)
      clear hv3
      have HLAST : Hid (∀ V : World, Below w10.heap.size w10 V → Below w.heap.size w V) := fun V hV => (P.out V hV).1
      cases bo with
      | true =>
        go_wp2_with fail
        refine (matchT_any _ u3 m5 _ xs a len cap (P.out u3 U3.out).2.2.2.2.2.1 (HRW.out u3 U3.out) (by omega) _ HOP.out).mono ?_
        rintro e u4 ⟨rfl, hv4⟩
        have U4 : Hid (Below w10.heap.size w10 u4) := U3.out.trans (hv4.mono U3.out.size)
        clear hv4
        go_wp2_with fail
        refine (matchT_any _ u4 m6 _ xs a len cap (P.out u4 U4.out).2.2.2.2.2.2 (HRW.out u4 U4.out) (by omega) _ HST.out).mono ?_
        rintro e u5 ⟨rfl, hv5⟩
        have U5 : Hid (Below w10.heap.size w10 u5) := U4.out.trans (hv5.mono U4.out.size)
        clear hv5
        obtain ⟨Z7, hm7⟩ := M7.out u5 U5.out
        go_wp2_with fail
        refine (matchT_any _ u5 m7 _ xs a len cap hm7 (HRW.out u5 U5.out) (by omega) bt HBT.out).mono ?_
        rintro e u6 ⟨rfl, hv6⟩
        have U6 : Hid (Below w.heap.size w u6) := HLAST.out u6 (U5.out.trans (hv6.mono U5.out.size))
        clear hv6 hm7
        cases bt <;> cases z
        all_goals
          go_wp2
          go_ret
          exact ⟨rfl, U6.out⟩
      | false =>
        go_wp2_with fail
        refine (matchT_any _ u3 m2 y xs a len cap (P.out u3 U3.out).2.2.1 (HRW.out u3 U3.out) (by omega) bY HBY.out).mono ?_
        rintro e u4 ⟨rfl, hv4⟩
        have U4 : Hid (Below w10.heap.size w10 u4) := U3.out.trans (hv4.mono U3.out.size)
        clear hv4
        go_wp2_with fail
        refine (matchT_any _ u4 m5 _ xs a len cap (P.out u4 U4.out).2.2.2.2.2.1 (HRW.out u4 U4.out) (by omega) _ HOP.out).mono ?_
        rintro e u5 ⟨rfl, hv5⟩
        have U5 : Hid (Below w10.heap.size w10 u5) := U4.out.trans (hv5.mono U4.out.size)
        clear hv5
        go_wp2_with fail
        refine (matchT_any _ u5 m6 _ xs a len cap (P.out u5 U5.out).2.2.2.2.2.2 (HRW.out u5 U5.out) (by omega) _ HST.out).mono ?_
        rintro e u6 ⟨rfl, hv6⟩
        have U6 : Hid (Below w10.heap.size w10 u6) := U5.out.trans (hv6.mono U5.out.size)
        clear hv6
        obtain ⟨Z7, hm7⟩ := M7.out u6 U6.out
        go_wp2_with fail
        refine (matchT_any _ u6 m7 _ xs a len cap hm7 (HRW.out u6 U6.out) (by omega) bt HBT.out).mono ?_
        rintro e u7 ⟨rfl, hv7⟩
        have U7 : Hid (Below w.heap.size w u7) := HLAST.out u7 (U6.out.trans (hv7.mono U6.out.size))
        clear hv7 hm7
        cases bt <;> cases z
        all_goals
          go_wp2
          go_ret
          exact ⟨rfl, U7.out⟩
end Go.Proofs.Ytodaoelkljaflaa
