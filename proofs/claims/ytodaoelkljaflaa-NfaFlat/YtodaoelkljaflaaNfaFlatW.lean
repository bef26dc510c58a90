/- The walk of NfaFlat. -/
import Derived.Test.YtodaoelkljaflaaNfaBuildsW
namespace Go.Proofs.Ytodaoelkljaflaa
open Go.RowKit
set_option linter.unusedVariables false
set_option linter.unusedSimpArgs false

theorem okN_two {x y : Nd} {d : Nat} (hx : okN d x = true) (hy : okN d y = true) (op : Int) (ho : op = 2 ∨ op = 3) : okN (d + 1) ⟨op, [], ofL [x, y]⟩ = true := by
  refine okN_node op [x, y] d ?_ (by omega) (fun z hz => ?_)
  · rcases ho with rfl | rfl <;> rfl
  · simp at hz
    rcases hz with rfl | rfl
    · exact hx
    · exact hy
theorem ok_three {x y z : Nd} (hx : x.small = true) (hy : y.small = true) (hz : z.small = true) (op : Int) (ho : op = 2 ∨ op = 3) : (⟨op, [], ofL [x, y, z]⟩ : Nd).ok = true := by
  have h1 := (small_parts hx).2.1
  have h2 := (small_parts hy).2.1
  have h3 := (small_parts hz).2.1
  refine ok_mk (okN_node op [x, y, z] 31 ?_ (by omega) (fun u hu => ?_)) ?_
  · rcases ho with rfl | rfl <;> rfl
  · simp at hu
    rcases hu with rfl | rfl | rfl
    · exact small_okN hx 31 (by omega)
    · exact small_okN hy 31 (by omega)
    · exact small_okN hz 31 (by omega)
  · rw [cnt_node]; simp [cntL]; omega
theorem ok_left {x y z : Nd} (hx : x.small = true) (hy : y.small = true) (hz : z.small = true) (op : Int) (ho : op = 2 ∨ op = 3) : (⟨op, [], ofL [⟨op, [], ofL [x, y]⟩, z]⟩ : Nd).ok = true := by
  have h1 := (small_parts hx).2.1
  have h2 := (small_parts hy).2.1
  have h3 := (small_parts hz).2.1
  refine ok_mk (okN_two (okN_two (small_okN hx 30 (by omega)) (small_okN hy 30 (by omega)) op ho) (small_okN hz 31 (by omega)) op ho) ?_
  rw [cnt_node]; simp [cntL, cnt_node]; omega
theorem ok_right2 {x y z : Nd} (hx : x.small = true) (hy : y.small = true) (hz : z.small = true) (op : Int) (ho : op = 2 ∨ op = 3) : (⟨op, [], ofL [x, ⟨op, [], ofL [y, z]⟩]⟩ : Nd).ok = true := by
  have h1 := (small_parts hx).2.1
  have h2 := (small_parts hy).2.1
  have h3 := (small_parts hz).2.1
  refine ok_mk (okN_two (small_okN hx 31 (by omega)) (okN_two (small_okN hy 30 (by omega)) (small_okN hz 30 (by omega)) op ho) op ho) ?_
  rw [cnt_node]; simp [cntL, cnt_node]; omega
theorem seqL_three (k l m : List Int → Prop) (w : List Int) : seqL [k, l, m] w ↔ ∃ u v t, w = u ++ (v ++ t) ∧ k u ∧ l v ∧ m t := by
  rw [show seqL [k, l, m] w ↔ ∃ u r, w = u ++ r ∧ k u ∧ seqL [l, m] r from Iff.rfl]
  constructor
  · rintro ⟨u, r, h1, h2, h3⟩
    obtain ⟨v, t, h4, h5, h6⟩ := (seqL_two l m r).1 h3
    exact ⟨u, v, t, by rw [h1, h4], h2, h5, h6⟩
  · rintro ⟨u, v, t, h1, h2, h3, h4⟩
    exact ⟨u, v ++ t, h1, h2, (seqL_two l m _).2 ⟨v, t, rfl, h3, h4⟩⟩
theorem flat_left (x y z : Nd) (op : Int) (ho : op = 2 ∨ op = 3) (w : List Int) : (⟨op, [], ofL [⟨op, [], ofL [x, y]⟩, z]⟩ : Nd).fits w ↔ (⟨op, [], ofL [x, y, z]⟩ : Nd).fits w := by
  rcases ho with rfl | rfl
  · rw [fits_seq, fits_seq]
    show seqL [(⟨2, [], ofL [x, y]⟩ : Nd).fits, z.fits] w ↔ seqL [x.fits, y.fits, z.fits] w
    rw [seqL_two, seqL_three]
    constructor
    · rintro ⟨u, v, h1, h2, h3⟩
      rw [fits_seq] at h2
      obtain ⟨a, b, h4, h5, h6⟩ := (seqL_two x.fits y.fits u).1 h2
      exact ⟨a, b, v, by rw [h1, h4]; simp, h5, h6, h3⟩
    · rintro ⟨a, b, v, h1, h2, h3, h4⟩
      refine ⟨a ++ b, v, by rw [h1]; simp, ?_, h4⟩
      rw [fits_seq]
      exact (seqL_two x.fits y.fits _).2 ⟨a, b, rfl, h2, h3⟩
  · rw [fits_alt, fits_alt]
    simp only [List.mem_cons, List.not_mem_nil, or_false, exists_eq_or_imp, exists_eq_left]
    rw [fits_alt]
    simp only [List.mem_cons, List.not_mem_nil, or_false, exists_eq_or_imp, exists_eq_left]
    exact or_assoc
theorem flat_right (x y z : Nd) (op : Int) (ho : op = 2 ∨ op = 3) (w : List Int) : (⟨op, [], ofL [x, ⟨op, [], ofL [y, z]⟩]⟩ : Nd).fits w ↔ (⟨op, [], ofL [x, y, z]⟩ : Nd).fits w := by
  rcases ho with rfl | rfl
  · rw [fits_seq, fits_seq]
    show seqL [x.fits, (⟨2, [], ofL [y, z]⟩ : Nd).fits] w ↔ seqL [x.fits, y.fits, z.fits] w
    rw [seqL_two, seqL_three]
    constructor
    · rintro ⟨u, v, h1, h2, h3⟩
      rw [fits_seq] at h3
      obtain ⟨a, b, h4, h5, h6⟩ := (seqL_two y.fits z.fits v).1 h3
      exact ⟨u, a, b, by rw [h1, h4], h2, h5, h6⟩
    · rintro ⟨u, a, b, h1, h2, h3, h4⟩
      refine ⟨u, a ++ b, h1, h2, ?_⟩
      rw [fits_seq]
      exact (seqL_two y.fits z.fits _).2 ⟨a, b, rfl, h3, h4⟩
  · rw [fits_alt, fits_alt]
    simp only [List.mem_cons, List.not_mem_nil, or_false, exists_eq_or_imp, exists_eq_left]
    rw [fits_alt]
    simp only [List.mem_cons, List.not_mem_nil, or_false, exists_eq_or_imp, exists_eq_left]
set_option maxRecDepth 100000 in
set_option maxHeartbeats 16000000 in
theorem nfaFlat_walk (D : Nat) (x : Nd) (xa xk : Option Addr) (xc xkc : Nat) (y : Nd) (ya yk : Option Addr) (yc ykc : Nat) (z : Nd) (za zk : Option Addr) (zc zkc : Nat) (xs0 : List Int) (a : Option Addr) (len0 cap : Nat) (w : World) (hinx : InV w.heap.size w D x [.int .i64 x.op, .slice xa x.cl.length xc, .slice xk (toL x.kids).length xkc]) (hiny : InV w.heap.size w D y [.int .i64 y.op, .slice ya y.cl.length yc, .slice yk (toL y.kids).length ykc]) (hinz : InV w.heap.size w D z [.int .i64 z.op, .slice za z.cl.length zc, .slice zk (toL z.kids).length zkc]) (hrd : Rd .i64 w a len0 xs0) (hcap : len0 ≤ cap) (hcm : cap ≤ 9223372036854775807) (hnone : a = none → cap = 0) :
    Calls Try.prog 9 #[.agg #[.int .i64 x.op, .slice xa x.cl.length xc, .slice xk (toL x.kids).length xkc], .agg #[.int .i64 y.op, .slice ya y.cl.length yc, .slice yk (toL y.kids).length ykc], .agg #[.int .i64 z.op, .slice za z.cl.length zc, .slice zk (toL z.kids).length zkc], .slice a len0 cap] w fun e w' => e = .returned (.bool true) ∧ Below w.heap.size w w' := by
  obtain ⟨x0, hx0⟩ : ∃ x0, x0 = x.op := ⟨_, rfl⟩
  obtain ⟨xn, hxn⟩ : ∃ xn, xn = x.cl.length := ⟨_, rfl⟩
  obtain ⟨xl, hxl⟩ : ∃ xl, xl = (toL x.kids).length := ⟨_, rfl⟩
  obtain ⟨y0, hy0⟩ : ∃ y0, y0 = y.op := ⟨_, rfl⟩
  obtain ⟨yn, hyn⟩ : ∃ yn, yn = y.cl.length := ⟨_, rfl⟩
  obtain ⟨yl, hyl⟩ : ∃ yl, yl = (toL y.kids).length := ⟨_, rfl⟩
  obtain ⟨z0, hz0⟩ : ∃ z0, z0 = z.op := ⟨_, rfl⟩
  obtain ⟨zn, hzn⟩ : ∃ zn, zn = z.cl.length := ⟨_, rfl⟩
  obtain ⟨zl, hzl⟩ : ∃ zl, zl = (toL z.kids).length := ⟨_, rfl⟩
  have HSX : Hid (∀ V : World, Below w.heap.size w V → Calls Try.prog 25 #[.agg #[.int .i64 x0, .slice xa xn xc, .slice xk xl xkc]] V fun e w' => e = .returned (.bool x.small) ∧ Below V.heap.size V w') := fun V hV => by
    rw [hx0, hxn, hxl]; exact small_any D x xa xk xc xkc V ((hinx.later hV D).base hV.size D)
  have HSY : Hid (∀ V : World, Below w.heap.size w V → Calls Try.prog 25 #[.agg #[.int .i64 y0, .slice ya yn yc, .slice yk yl ykc]] V fun e w' => e = .returned (.bool y.small) ∧ Below V.heap.size V w') := fun V hV => by
    rw [hy0, hyn, hyl]; exact small_any D y ya yk yc ykc V ((hiny.later hV D).base hV.size D)
  have HSZ : Hid (∀ V : World, Below w.heap.size w V → Calls Try.prog 25 #[.agg #[.int .i64 z0, .slice za zn zc, .slice zk zl zkc]] V fun e w' => e = .returned (.bool z.small) ∧ Below V.heap.size V w') := fun V hV => by
    rw [hz0, hzn, hzl]; exact small_any D z za zk zc zkc V ((hinz.later hV D).base hV.size D)
  rw [← hx0, ← hxn, ← hxl] at hinx
  rw [← hy0, ← hyn, ← hyl] at hiny
  rw [← hz0, ← hzn, ← hzl] at hinz
  have HIX : Hid (∀ V : World, Below w.heap.size w V → InV V.heap.size V D x [.int .i64 x0, .slice xa xn xc, .slice xk xl xkc]) := fun V hV => (hinx.later hV D).base hV.size D
  have HIY : Hid (∀ V : World, Below w.heap.size w V → InV V.heap.size V D y [.int .i64 y0, .slice ya yn yc, .slice yk yl ykc]) := fun V hV => (hiny.later hV D).base hV.size D
  have HIZ : Hid (∀ V : World, Below w.heap.size w V → InV V.heap.size V D z [.int .i64 z0, .slice za zn zc, .slice zk zl zkc]) := fun V hV => (hinz.later hV D).base hV.size D
  rw [← hx0, ← hxn, ← hxl, ← hy0, ← hyn, ← hyl, ← hz0, ← hzn, ← hzl]
  obtain ⟨len, hlen⟩ : ∃ len : Nat, (len : Int) = min (len0 : Int) 20 := ⟨min len0 20, by omega⟩
  have hmin := min_run len0 len 20 hlen
  have hcut0 := cutI a len0 cap len (by omega)
  obtain ⟨xs, hxs⟩ : ∃ xs, xs = xs0.take len := ⟨_, rfl⟩
  have HRD : Hid (Rd .i64 w a len xs) := by rw [hxs]; exact hrd.take len (by omega)
  have hl20 : len ≤ 20 := by omega
  obtain ⟨W0, hW0⟩ : ∃ W0, W0 = ((w.alloc (.cells #[.int .i64 x0, .slice xa xn xc, .slice xk xl xkc] 25)).alloc (.cells #[.int .i64 y0, .slice ya yn yc, .slice yk yl ykc] 25)).alloc (.cells #[.int .i64 z0, .slice za zn zc, .slice zk zl zkc] 25) := ⟨_, rfl⟩
  obtain ⟨H, hH⟩ : ∃ H, H = w.heap.size := ⟨_, rfl⟩
  have HB0 : Hid (Below w.heap.size w W0) := by rw [hW0]; exact (((Below.refl _ w).alloc (Nat.le_refl _) _).alloc (by simp) _).alloc (by simp; omega) _
  have hax : W0.heap[H]? = some (.cells #[.int .i64 x0, .slice xa xn xc, .slice xk xl xkc] 25) := by
    rw [hW0, hH]
    exact ((((Below.refl _ (w.alloc (.cells #[.int .i64 x0, .slice xa xn xc, .slice xk xl xkc] 25))).alloc (Nat.le_refl _) (.cells #[.int .i64 y0, .slice ya yn yc, .slice yk yl ykc] 25)).alloc (by simp) _).block w.heap.size (by simp)).trans (heap_alloc_new w _)
  have hay : W0.heap[H + 1]? = some (.cells #[.int .i64 y0, .slice ya yn yc, .slice yk yl ykc] 25) := by
    rw [hW0, hH]
    exact (((Below.refl _ ((w.alloc (.cells #[.int .i64 x0, .slice xa xn xc, .slice xk xl xkc] 25)).alloc (.cells #[.int .i64 y0, .slice ya yn yc, .slice yk yl ykc] 25))).alloc (Nat.le_refl _) _).block (w.heap.size + 1) (by simp)).trans (new_at2 w _ _)
  have haz : W0.heap[H + 1 + 1]? = some (.cells #[.int .i64 z0, .slice za zn zc, .slice zk zl zkc] 25) := by
    rw [hW0, hH]
    have := new_at2 (w.alloc (.cells #[.int .i64 x0, .slice xa xn xc, .slice xk xl xkc] 25)) (.cells #[.int .i64 y0, .slice ya yn yc, .slice yk yl ykc] 25) (.cells #[.int .i64 z0, .slice za zn zc, .slice zk zl zkc] 25)
    rw [show (w.alloc (.cells #[.int .i64 x0, .slice xa xn xc, .slice xk xl xkc] 25)).heap.size = w.heap.size + 1 by simp] at this
    exact this
  have HAX : Hid (∀ V : World, Below W0.heap.size W0 V → (V.cell? ⟨H, 0, none⟩ = some (.int .i64 x0) ∧ V.cell? ⟨H, 1, none⟩ = some (.slice xa xn xc) ∧ V.cell? ⟨H, 2, none⟩ = some (.slice xk xl xkc)) ∧ (V.cell? ⟨H + 1, 0, none⟩ = some (.int .i64 y0) ∧ V.cell? ⟨H + 1, 1, none⟩ = some (.slice ya yn yc) ∧ V.cell? ⟨H + 1, 2, none⟩ = some (.slice yk yl ykc)) ∧ V.cell? ⟨H + 1 + 1, 0, none⟩ = some (.int .i64 z0) ∧ V.cell? ⟨H + 1 + 1, 1, none⟩ = some (.slice za zn zc) ∧ V.cell? ⟨H + 1 + 1, 2, none⟩ = some (.slice zk zl zkc)) := fun V hV =>
    ⟨⟨upC hV (cell_of_row W0 H 0 _ _ _ hax), upC hV (cell_of_row W0 H 1 _ _ _ hax), upC hV (cell_of_row W0 H 2 _ _ _ hax)⟩, ⟨upC hV (cell_of_row W0 (H + 1) 0 _ _ _ hay), upC hV (cell_of_row W0 (H + 1) 1 _ _ _ hay), upC hV (cell_of_row W0 (H + 1) 2 _ _ _ hay)⟩, upC hV (cell_of_row W0 (H + 1 + 1) 0 _ _ _ haz), upC hV (cell_of_row W0 (H + 1 + 1) 1 _ _ _ haz), upC hV (cell_of_row W0 (H + 1 + 1) 2 _ _ _ haz)⟩
  clear hinx hiny hinz hrd hcap hcm hnone hx0 hxn hxl hy0 hyn hyl hz0 hzn hzl hxs hax hay haz
  go_enter Try.func9, Try.ntmps9
  go_upto_region 1 with fail
  rw [← hH, ← hW0]
  clear hH hW0
  go_wp2_with fail
  refine (shown_any W0).mono ?_
  rintro e w1 ⟨rfl, hb1⟩
  have A1 : Hid (Below W0.heap.size W0 w1) := hb1
  have B1 : Hid (Below w.heap.size w w1) := HB0.out.trans (hb1.mono HB0.out.size)
  obtain ⟨⟨e0, e1, e2⟩, ⟨f0, f1, f2⟩, g0, g1, g2⟩ := HAX.out w1 A1.out
  clear hb1 hlen
  go_wp2_with fail
  refine (HSX.out w1 B1.out).mono ?_
  rintro e w2 ⟨rfl, hb2⟩
  have A2 : Hid (Below W0.heap.size W0 w2) := A1.out.trans (hb2.mono A1.out.size)
  have B2 : Hid (Below w.heap.size w w2) := B1.out.trans (hb2.mono B1.out.size)
  clear hb2 e0 e1 e2 f0 f1 f2 g0 g1 g2 hmin hcut0
  obtain ⟨sx, hsx⟩ : ∃ sx, sx = x.small := ⟨_, rfl⟩
  rw [← hsx]
  cases sx with
  | false =>
    clear hsx
    go_wp2
    go_ret
    exact ⟨rfl, B2.out⟩
  | true =>
  have HX : Hid (x.small = true) := hsx.symm
  clear hsx
  obtain ⟨⟨e0, e1, e2⟩, ⟨f0, f1, f2⟩, g0, g1, g2⟩ := HAX.out w2 A2.out
  go_wp2_with fail
  refine (HSY.out w2 B2.out).mono ?_
  rintro e w3 ⟨rfl, hb3⟩
  have A3 : Hid (Below W0.heap.size W0 w3) := A2.out.trans (hb3.mono A2.out.size)
  have B3 : Hid (Below w.heap.size w w3) := B2.out.trans (hb3.mono B2.out.size)
  clear hb3 e0 e1 e2 f0 f1 f2 g0 g1 g2
  obtain ⟨sy, hsy⟩ : ∃ sy, sy = y.small := ⟨_, rfl⟩
  rw [← hsy]
  cases sy with
  | false =>
    clear hsy
    go_wp2
    go_ret
    exact ⟨rfl, B3.out⟩
  | true =>
  have HY : Hid (y.small = true) := hsy.symm
  clear hsy
  obtain ⟨⟨e0, e1, e2⟩, ⟨f0, f1, f2⟩, g0, g1, g2⟩ := HAX.out w3 A3.out
  go_wp2_with fail
  refine (HSZ.out w3 B3.out).mono ?_
  rintro e w4 ⟨rfl, hb4⟩
  have A4 : Hid (Below W0.heap.size W0 w4) := A3.out.trans (hb4.mono A3.out.size)
  have B4 : Hid (Below w.heap.size w w4) := B3.out.trans (hb4.mono B3.out.size)
  clear hb4 e0 e1 e2 f0 f1 f2 g0 g1 g2
  obtain ⟨sz, hsz⟩ : ∃ sz, sz = z.small := ⟨_, rfl⟩
  rw [← hsz]
  cases sz with
  | false =>
    clear hsz
    go_wp2
    go_ret
    exact ⟨rfl, B4.out⟩
  | true =>
  have HZ : Hid (z.small = true) := hsz.symm
  clear hsz HSX HSY HSZ
  go_wp2
  go_loopw [10, 11, 12, 13, 14] (fun x10 _ _ _ _ wr => ∃ k : Int, 2 ≤ k ∧ k ≤ 4 ∧ x10 = .int .i64 k ∧ Below w4.heap.size w4 wr) (fun x10 _ _ _ _ _ => (4 - intOf x10).toNat)
  case atStart => exact ⟨2, by omega, by omega, rfl, Below.refl _ _⟩
  case round =>
    obtain ⟨k, hk2, hk4, hx10, hbl⟩ := hrel
    subst hx10
    have A5 : Hid (Below W0.heap.size W0 wr) := A4.out.trans (hbl.mono A4.out.size)
    have B5 : Hid (Below w.heap.size w wr) := B4.out.trans (hbl.mono B4.out.size)
    have C5 : Hid (Below w4.heap.size w4 wr) := hbl
    clear hbl
    by_cases hlt : k ≤ 3
    · have HOP : Hid (k = 2 ∨ k = 3) := by show _ ∨ _; omega
      obtain ⟨⟨e0, e1, e2⟩, ⟨f0, f1, f2⟩, g0, g1, g2⟩ := HAX.out wr A5.out
      go_wp2_with fail
      refine (fitsC_any (D + 1) k [x, y, z] (some ⟨wr.heap.size, 0, none⟩) 3 3 _ (in_three k (HIX.out wr B5.out) (HIY.out wr B5.out) (HIZ.out wr B5.out)) rfl (ok_three HX.out HY.out HZ.out k HOP.out)).mono ?_
      rintro e w6 ⟨m1, rfl, hm1, hb6⟩
      have C6 : Hid (Below wr.heap.size wr w6) := ((Below.refl _ wr).alloc (Nat.le_refl _) _).trans (hb6.mono (by simp))
      have A6 : Hid (Below W0.heap.size W0 w6) := A5.out.trans (C6.out.mono A5.out.size)
      have B6 : Hid (Below w.heap.size w w6) := B5.out.trans (C6.out.mono B5.out.size)
      have M1 : Hid (∀ V : World, Below w6.heap.size w6 V → ∃ Z, NMach Z V m1 ⟨k, [], ofL [x, y, z]⟩) := fun V hV => ⟨_, hm1.later hV⟩
      clear hb6 hm1 e0 e1 e2 f0 f1 f2 g0 g1 g2
      obtain ⟨⟨e0, e1, e2⟩, ⟨f0, f1, f2⟩, g0, g1, g2⟩ := HAX.out w6 A6.out
      have hup6 := HAX.out (w6.alloc (.cells #[.int .i64 x0, .slice xa xn xc, .slice xk xl xkc, .int .i64 y0, .slice ya yn yc, .slice yk yl ykc] 25)) (A6.out.alloc A6.out.size _)
      obtain ⟨_, _, g3, g4, g5⟩ := hup6
      go_wp2_with fail
      have hi1 := in_pair k (HIX.out w6 B6.out) (HIY.out w6 B6.out)
      have hi2 := in_up (HIZ.out w6 B6.out) (.cells #[.int .i64 x0, .slice xa xn xc, .slice xk xl xkc, .int .i64 y0, .slice ya yn yc, .slice yk yl ykc] 25)
      have hi3 := in_pair k hi1 (hi2.deep D)
      rw [show (w6.alloc (.cells #[.int .i64 x0, .slice xa xn xc, .slice xk xl xkc, .int .i64 y0, .slice ya yn yc, .slice yk yl ykc] 25)).heap.size = w6.heap.size + 1 by simp] at hi3
      refine (fitsC_any (D + 2) k [⟨k, [], ofL [x, y]⟩, z] (some ⟨w6.heap.size + 1, 0, none⟩) 2 2 _ hi3 rfl (ok_left HX.out HY.out HZ.out k HOP.out)).mono ?_
      rintro e w7 ⟨m2, rfl, hm2, hb7⟩
      have C7 : Hid (Below w6.heap.size w6 w7) := (((Below.refl _ w6).alloc (Nat.le_refl _) _).alloc (by simp) _).trans (hb7.mono (by simp; omega))
      have A7 : Hid (Below W0.heap.size W0 w7) := A6.out.trans (C7.out.mono A6.out.size)
      have B7 : Hid (Below w.heap.size w w7) := B6.out.trans (C7.out.mono B6.out.size)
      have M2 : Hid (∀ V : World, Below w7.heap.size w7 V → ∃ Z, NMach Z V m2 ⟨k, [], ofL [⟨k, [], ofL [x, y]⟩, z]⟩) := fun V hV => ⟨_, hm2.later hV⟩
      clear hb7 hm2 e0 e1 e2 f0 f1 f2 g0 g1 g2 hi1 hi2 hi3 g3 g4 g5
      obtain ⟨⟨e0, e1, e2⟩, ⟨f0, f1, f2⟩, g0, g1, g2⟩ := HAX.out w7 A7.out
      go_wp2_with fail
      have hi1 := in_pair k (HIY.out w7 B7.out) (HIZ.out w7 B7.out)
      have hi2 := in_up (HIX.out w7 B7.out) (.cells #[.int .i64 y0, .slice ya yn yc, .slice yk yl ykc, .int .i64 z0, .slice za zn zc, .slice zk zl zkc] 25)
      have hi3 := in_pair k (hi2.deep D) hi1
      rw [show (w7.alloc (.cells #[.int .i64 y0, .slice ya yn yc, .slice yk yl ykc, .int .i64 z0, .slice za zn zc, .slice zk zl zkc] 25)).heap.size = w7.heap.size + 1 by simp] at hi3
      refine (fitsC_any (D + 2) k [x, ⟨k, [], ofL [y, z]⟩] (some ⟨w7.heap.size + 1, 0, none⟩) 2 2 _ hi3 rfl (ok_right2 HX.out HY.out HZ.out k HOP.out)).mono ?_
      rintro e w8 ⟨m3, rfl, hm3, hb8⟩
      have C8 : Hid (Below w7.heap.size w7 w8) := (((Below.refl _ w7).alloc (Nat.le_refl _) _).alloc (by simp) _).trans (hb8.mono (by simp; omega))
      have B8 : Hid (Below w.heap.size w w8) := B7.out.trans (C8.out.mono B7.out.size)
      have M3 : Hid (∀ V : World, Below w8.heap.size w8 V → ∃ Z, NMach Z V m3 ⟨k, [], ofL [x, ⟨k, [], ofL [y, z]⟩]⟩) := fun V hV => ⟨_, hm3.later hV⟩
      have C48 : Hid (Below w4.heap.size w4 w8) := C5.out.trans ((C6.out.trans ((C7.out.trans (C8.out.mono C7.out.size)).mono C6.out.size)).mono C5.out.size)
      clear hb8 hm3 e0 e1 e2 f0 f1 f2 g0 g1 g2 hi1 hi2 hi3
      obtain ⟨b, hb⟩ := boolOf ((⟨k, [], ofL [x, y, z]⟩ : Nd).fits xs)
      have T1 : Hid (b = true ↔ (⟨k, [], ofL [x, y, z]⟩ : Nd).fits xs) := hb
      have T2 : Hid (b = true ↔ (⟨k, [], ofL [⟨k, [], ofL [x, y]⟩, z]⟩ : Nd).fits xs) := hb.trans (flat_left x y z k HOP.out xs).symm
      have T3 : Hid (b = true ↔ (⟨k, [], ofL [x, ⟨k, [], ofL [y, z]⟩]⟩ : Nd).fits xs) := hb.trans (flat_right x y z k HOP.out xs).symm
      have HRW : Hid (∀ V : World, Below w8.heap.size w8 V → Rd .i64 V a len xs) := fun V hV => HRD.out.later (B8.out.trans (hV.mono B8.out.size))
      clear hb
      obtain ⟨Z1, q1⟩ := M1.out w8 (C7.out.trans (C8.out.mono C7.out.size))
      go_wp2_with fail
      refine (matchT_any _ w8 m1 _ xs a len cap q1 (HRW.out w8 (Below.refl _ _)) (by omega) b T1.out).mono ?_
      rintro e u1 ⟨rfl, hv1⟩
      have U1 : Hid (Below w8.heap.size w8 u1) := hv1
      clear hv1 q1
      obtain ⟨Z2, q2⟩ := M2.out u1 (C8.out.trans (U1.out.mono C8.out.size))
      go_wp2_with fail
      refine (matchT_any _ u1 m2 _ xs a len cap q2 (HRW.out u1 U1.out) (by omega) b T2.out).mono ?_
      rintro e u2 ⟨rfl, hv2⟩
      have U2 : Hid (Below w8.heap.size w8 u2) := U1.out.trans (hv2.mono U1.out.size)
      clear hv2 q2
      obtain ⟨Z3, q3⟩ := M3.out u2 U2.out
      go_wp2_with fail
      refine (matchT_any _ u2 m3 _ xs a len cap q3 (HRW.out u2 U2.out) (by omega) b T3.out).mono ?_
      rintro e u3 ⟨rfl, hv3⟩
      have U3 : Hid (Below w4.heap.size w4 u3) := C48.out.trans ((U2.out.trans (hv3.mono U2.out.size)).mono C48.out.size)
      clear hv3 q3
      cases b
      all_goals
        go_wp2
        go_roundw
        case rel => exact ⟨k + 1, by omega, by omega, by go_num, U3.out⟩
        case measure => simp [intOf]; omega
    · have hki : ¬ k ≤ 3 := hlt
      go_wp2
      go_ret
      exact ⟨rfl, B5.out⟩
end Go.Proofs.Ytodaoelkljaflaa
