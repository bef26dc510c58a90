/- The walk of SegAll. -/
import Derived.Test.YtcafffohnokjgaaDoorJ28
import Derived.Test.YtcafffohnokjgaaDoorJ27
import Derived.BigQuiet
namespace Go.Proofs.YtcafffohnokjgaaDoor
open Go.RowKit Go.Shelf Go.Maps
set_option linter.unusedVariables false
set_option linter.unusedSimpArgs false

set_option maxRecDepth 100000 in
set_option maxHeartbeats 8000000 in
theorem segAll_walk (D K : Nat) (l : List Rl) (ca ra : Option Addr) (cc rc : Nat) (xs0 : List Int) (xa : Option Addr) (len0 xc : Nat)  (w : World) (hT : TabD w) (hr : RowR w D ra l.length l) (hl : l.length ≤ 140737488355328) (hK : K ≤ cc) (hK2 : K ≤ 140737488355328) (hrd : Rd .i64 w xa len0 xs0) (hcap : len0 ≤ xc) (hnone : xa = none → xc = 0) :
 Calls Tryd.prog 7 #[.agg #[.slice ca K cc, .slice ra l.length rc], .slice xa len0 xc] w fun e w' => e = .returned (.bool true) ∧ Below w.heap.size w w' := by
 obtain ⟨m, hm⟩ : ∃ m, m = min K 30 := ⟨_, rfl⟩
 obtain ⟨RN, hRN⟩ : ∃ RN, RN = l.length := ⟨_, rfl⟩
 have HTD : Hid (TabD w) := hT
 obtain ⟨n, hn⟩ : ∃ n : Nat, (n : Int) = min (len0 : Int) 30 := ⟨min len0 30, by omega⟩
 have hmin := min_run len0 n 30 hn
 have hcut0 := cutI xa len0 xc n (by omega)
 obtain ⟨row, hrow⟩ : ∃ row, row = xs0.take n := ⟨_, rfl⟩
 have HRD : Hid (Rd .i64 w xa n row) := by rw [hrow]; exact hrd.take n (by omega)
 have HL : Hid (row.length = n) := HRD.out.1
 have hn30 : (n : Int) ≤ 30 := by omega
 have HNC : Hid (n ≤ xc ∧ (xa = none → xc = 0)) := ⟨by omega, hnone⟩
 clear hrd hcap hrow hn hnone
 obtain ⟨j0, ji, jz0, jz1, jz2⟩ := info_parts info_Rl
 have HJ : Hid (Tryd.prog.info? 48 = some j0 ∧ j0.zero = some (.agg #[.int .i64 0, .slice none 0 0, .slice none 0 0, .int .i64 0, .slice none 0 0, .slice none 0 0, .bool false, .bool false]) ∧ j0.size = 8 ∧ j0.bytes = 120) := ⟨ji, jz0, jz1, jz2⟩
 clear ji jz0 jz1 jz2
 have HSH : Hid (∀ V : World, Below w.heap.size w V → Calls Tryd.prog 10 #[] V fun e w' => e = .returned (.bool true) ∧ Below V.heap.size V w') := fun V hV => shown10_any V (hT.later hV)
 have HFE : Hid (∀ V : World, Below w.heap.size w V → Calls Tryd.prog 11 #[.agg #[.slice ca K cc, .slice ra RN rc]] V (Few9 D l ca m cc w V)) := fun V hV => by
  rw [hRN]; exact few9_any D K m l ca ra cc rc w V hV hr hl hK hK2 hm
 obtain ⟨H, hH⟩ : ∃ H, H = w.heap.size := ⟨_, rfl⟩
 have HH : Hid (H = w.heap.size) := hH
 obtain ⟨W0, hW0⟩ : ∃ W0, W0 = w.alloc (.cells #[.slice ca K cc, .slice ra RN rc] 25) := ⟨_, rfl⟩
 have HB0 : Hid (Below w.heap.size w W0) := by rw [hW0]; exact (Below.refl _ w).alloc (Nat.le_refl _) _
 have HX0 : Hid (W0.heap[H]? = some (.cells #[.slice ca K cc, .slice ra RN rc] 25)) := by show _ = _; rw [hW0, hH]; exact heap_alloc_new w _
 have hm30 : (m : Int) ≤ 30 := by omega
 rw [← hRN]
 clear hT hr hl hK hK2 hm hRN
 go_enter Tryd.func7, Tryd.ntmps7
 go_upto_region 1 with fail
 rw [← hH, ← hW0]
 clear hH hW0
 go_wp2_with fail
 refine (HSH.out W0 HB0.out).mono ?_
 rintro e w1 ⟨rfl, hb1⟩
 have HB1 : Hid (Below w.heap.size w w1) := HB0.out.trans (hb1.mono HB0.out.size)
 have HX1 : Hid (w1.heap[H]? = some (.cells #[.slice ca K cc, .slice ra RN rc] 25)) := (hb1.block H (Array.getElem?_eq_some_iff.1 HX0.out).1).trans HX0.out
 clear hb1 HX0 HB0
 obtain ⟨⟨e0, e1⟩, _⟩ := box2 HX1.out
 go_wp2_with fail
 refine (HFE.out w1 HB1.out).mono ?_
 rintro e w2 ⟨hb2, ps, a', c', rfl, h8, hkr, hown⟩
 have HB2 : Hid (Below w.heap.size w w2) := HB1.out.trans (hb2.mono HB1.out.size)
 have hx2 : w2.heap[H]? = some (.cells #[.slice ca K cc, .slice ra RN rc] 25) := (hb2.block H (Array.getElem?_eq_some_iff.1 HX1.out).1).trans HX1.out
 obtain ⟨rl, hrl⟩ : ∃ rl, rl = ps.map fun x => x.1 := ⟨_, rfl⟩
 obtain ⟨N, hN⟩ : ∃ N, N = ps.length := ⟨_, rfl⟩
 have hNr : N = rl.length := by rw [hN, hrl]; simp
 rw [← hN] at h8 ⊢
 obtain ⟨W3, hW3⟩ : ∃ W3, W3 = (w2.setCell ⟨H, 0, none⟩ (.slice ca m cc)).setCell ⟨H, 1, none⟩ (.slice a' N c') := ⟨_, rfl⟩
 have hg3 : w2.grownBy W3 (some H) := by rw [hW3]; exact grown_all (grown_cell w2 H 0 _) (grown_cell _ H 1 _)
 have HB3 : Hid (Below w.heap.size w W3) := HB2.out.grown hg3 HB2.out.size (fun k hk => by cases hk; exact Nat.le_of_eq HH.out.symm)
 have HX3 : Hid (W3.heap[H]? = some (.cells #[.slice ca m cc, .slice a' N c'] 25)) := by
  show _ = _
  rw [hW3]
  exact heap_setCell_same _ H 1 _ _ _ (heap_setCell_same _ H 0 _ _ _ hx2)
 have HKR : Hid (KeptR w D l ps) := hkr
 have HPS : Hid (rl = ps.map (fun x => x.1) ∧ N = ps.length) := ⟨hrl, hN⟩
 have HOWN : Hid (W3.ownsRow w1.heap.size 48 8 (.slice a' N c') N (flR ps)) := by
  rw [← hN] at hown; exact hown.kept hg3 (.inr (own_ne hown hx2 (by decide)))
 have hro : RowR W3 D a' rl.length rl := by
  rw [hrl]
  exact kept_row hkr HB3.out (hown.kept hg3 (.inr (own_ne hown hx2 (by decide))))
 have HRO : Hid (RowR W3 D a' rl.length rl ∧ N = rl.length) := ⟨hro, hNr⟩
 obtain ⟨⟨y0, y1⟩, y2, y3⟩ := box2 hx2
 have hN8 : (N : Int) ≤ 8 := by omega
 clear hb2 hkr hown hrl hg3 hro hNr hx2 e0 e1 hN
 go_upto_region 3 with fail
 rw [← hW3]
 clear hW3 y0 y1 y2 y3 HX1 HB1 HB2 h8 HSH HFE
 obtain ⟨Y, hY⟩ : ∃ Y, Y = W3.heap.size := ⟨_, rfl⟩
 obtain ⟨O, hO⟩ : ∃ O, O = Y + 1 := ⟨_, rfl⟩
 have HYO : Hid (Y = W3.heap.size ∧ O = Y + 1) := ⟨hY, hO⟩
 obtain ⟨W4, hW4⟩ : ∃ W4, W4 = (W3.alloc (.cells #[.slice ca m cc, .slice none 0 0] 25)).alloc (.cells #[.slice ca m cc, .slice none 0 0] 25) := ⟨_, rfl⟩
 have HC4 : Hid (Below W3.heap.size W3 W4) := by rw [hW4]; exact ((Below.refl _ W3).alloc (Nat.le_refl _) _).alloc (by simp) _
 have HG4 : Hid (Gr2 W3.heap.size Y O (.slice ca m cc) (.slice none 0 0) (.slice none 0 0) [] [] W4) := by
  have b1 : W4.heap[Y]? = some (.cells #[.slice ca m cc, .slice none 0 0] 25) := by rw [hW4, hY]; exact (((Below.refl _ _).alloc (Nat.le_refl _) _).block W3.heap.size (by simp)).trans (heap_alloc_new W3 _)
  have b2 : W4.heap[O]? = some (.cells #[.slice ca m cc, .slice none 0 0] 25) := by rw [hW4, hO, hY]; exact new_at2 W3 _ _
  exact ⟨⟨by omega, b1, ⟨rfl, .inl ⟨rfl, rfl⟩⟩⟩, ⟨by omega, b2, ⟨rfl, .inl ⟨rfl, rfl⟩⟩⟩, by omega, .inl rfl⟩
 obtain ⟨⟨e0, e1⟩, _⟩ := box2 HX3.out
 obtain ⟨⟨e2, e3⟩, _⟩ := box2 (((Below.refl _ W3).alloc (Nat.le_refl _) (.cells #[.slice ca m cc, .slice none 0 0] 25)).block H (Array.getElem?_eq_some_iff.1 HX3.out).1 |>.trans HX3.out)
 go_upto_region 6 with fail
 simp only [World.size_alloc, ← hY, ← hO]
 rw [← hW4]
 clear hY hO hW4 e0 e1 e2 e3 hmin hcut0
 have HBX : Hid (∀ V : World, Below W3.heap.size W3 V → V.cell? ⟨H, 0, none⟩ = some (.slice ca m cc) ∧ V.cell? ⟨H, 1, none⟩ = some (.slice a' N c')) := fun V hV => (box2 ((hV.block H (Array.getElem?_eq_some_iff.1 HX3.out).1).trans HX3.out)).1
 go_wp2_with fail
 go_loopw [8] (fun x8 wr => ∃ (k cv cu : Nat) (av au : Option Addr) (zs : List (Rl × RlP)), k ≤ N ∧ x8 = .int .i64 (k : Int) ∧ zs.length = k ∧ zs.map (fun x => x.1) = rl.take k ∧ (∀ x, x ∈ zs → RlAt W3 D x.1 x.2) ∧ Gr2 W3.heap.size Y O (.slice ca m cc) (.slice av k cv) (.slice au k cu) (zs.map (wordR · true)) (zs.map (wordR · false)) wr ∧ Below W3.heap.size W3 wr) (fun x8 _ => N - (intOf x8).toNat)
 case atStart => exact ⟨0, 0, 0, none, none, [], by omega, rfl, rfl, rfl, fun x hx => absurd hx (by simp), HG4.out, HC4.out⟩
 case round =>
  obtain ⟨k, cv, cu, av, au, zs, hkN, hx8, hzl, hzr, hza, hgr, hwr⟩ := hrel
  subst hx8
  have HZL : Hid (zs.length = k ∧ zs.map (fun x => x.1) = rl.take k ∧ (∀ x, x ∈ zs → RlAt W3 D x.1 x.2)) := ⟨hzl, hzr, hza⟩
  have HGR : Hid (Gr2 W3.heap.size Y O (.slice ca m cc) (.slice av k cv) (.slice au k cu) (zs.map (wordR · true)) (zs.map (wordR · false)) wr) := hgr
  have HBW : Hid (Below W3.heap.size W3 wr) := hwr
  clear hzl hzr hza hgr hwr
  obtain ⟨d0, d1⟩ := HBX.out wr HBW.out
  by_cases hlt : k < N
  ·have hki : (k : Int) < (N : Int) := by omega
   have hk0 : (0 : Int) ≤ (k : Int) := by omega
   have hkl : k < rl.length := by rw [← HRO.out.2]; exact hlt
   obtain ⟨b, off, q, rfl, hr0, t0, t1, t2, t3, t4, t5, t6, t7⟩ := HRO.out.1.cells k hkl
   replace t0 := upC HBW.out t0
   replace t1 := upC HBW.out t1
   replace t2 := upC HBW.out t2
   replace t3 := upC HBW.out t3
   replace t4 := upC HBW.out t4
   replace t5 := upC HBW.out t5
   replace t6 := upC HBW.out t6
   replace t7 := upC HBW.out t7
   obtain ⟨r, hrr⟩ : ∃ r, r = rl[k] := ⟨_, rfl⟩
   have HZ2 : Hid ((zs ++ [(r, q)]).length = k + 1 ∧ (zs ++ [(r, q)]).map (fun x => x.1) = rl.take (k + 1) ∧ (∀ x, x ∈ zs ++ [(r, q)] → RlAt W3 D x.1 x.2)) := by
    refine ⟨by simp [HZL.out.1], ?_, fun x hx => ?_⟩
    ·rw [List.map_append, HZL.out.2.1, take_snoc rl k hkl, hrr]; rfl
    ·rcases List.mem_append.1 hx with hx | hx
     ·exact HZL.out.2.2 x hx
     ·rw [List.mem_singleton.1 hx, hrr]; exact hr0
   rw [← hrr] at t0 t1 t2 t3 t4 t5 t6 t7
   have HMY : Hid (∀ (V w1 : World) (g cp : Nat), Below wr.heap.size wr V → w1.ownsRow W3.heap.size 48 8 (.slice (some ⟨g, 0, none⟩) (k + 1) cp) (k + 1) (flR (zs.map (wordR · true)) ++ ((wordR (r, q) true).1.vals q).toList) → V.grownBy w1 (Value.slice av k cv).ownBlock → ((Value.slice av k cv).ownBlock = some g ∨ g = V.heap.size) →
    (w1.cell? ⟨Y, 1, none⟩ = some (.slice av k cv) ∧ w1.frozen? ⟨Y, 1, none⟩ = false) ∧ Gr2 W3.heap.size Y O (.slice ca m cc) (.slice (some ⟨g, 0, none⟩) (k + 1) cp) (.slice au k cu) ((zs ++ [(r, q)]).map (wordR · true)) (zs.map (wordR · false)) (w1.setCell ⟨Y, 1, none⟩ (.slice (some ⟨g, 0, none⟩) (k + 1) cp))) := fun V w1 g cp hV h1 h2 h3 => by
    have h := (HGR.out.later hV).more (x := wordR (r, q) true) (by simp [HZL.out.1]) h1 h2 h3
    rw [List.map_append]
    exact h
   have HMO : Hid (∀ (g4 c4 : Nat) (V w1 : World) (g cp : Nat), Gr2 W3.heap.size Y O (.slice ca m cc) (.slice (some ⟨g4, 0, none⟩) (k + 1) c4) (.slice au k cu) ((zs ++ [(r, q)]).map (wordR · true)) (zs.map (wordR · false)) V → w1.ownsRow W3.heap.size 48 8 (.slice (some ⟨g, 0, none⟩) (k + 1) cp) (k + 1) (flR (zs.map (wordR · false)) ++ ((wordR (r, q) false).1.vals q).toList) → V.grownBy w1 (Value.slice au k cu).ownBlock → ((Value.slice au k cu).ownBlock = some g ∨ g = V.heap.size) →
    (w1.cell? ⟨O, 1, none⟩ = some (.slice au k cu) ∧ w1.frozen? ⟨O, 1, none⟩ = false) ∧ Gr2 W3.heap.size Y O (.slice ca m cc) (.slice (some ⟨g4, 0, none⟩) (k + 1) c4) (.slice (some ⟨g, 0, none⟩) (k + 1) cp) ((zs ++ [(r, q)]).map (wordR · true)) ((zs ++ [(r, q)]).map (wordR · false)) (w1.setCell ⟨O, 1, none⟩ (.slice (some ⟨g, 0, none⟩) (k + 1) cp))) := fun g4 c4 V w1 g cp hG h1 h2 h3 => by
    have h := hG.swap.more (x := wordR (r, q) false) (by simp [HZL.out.1]) h1 h2 h3
    refine ⟨h.1, ?_⟩
    rw [List.map_append (f := (wordR · false))]
    exact h.2.swap
   clear hrr hr0
   obtain ⟨la, lc, lp, lpc, ra2, rcc, rp, rpc⟩ := q
   obtain ⟨q, hq⟩ : ∃ q : RlP, q = ⟨la, lc, lp, lpc, ra2, rcc, rp, rpc⟩ := ⟨_, rfl⟩
   rw [← hq] at HZ2 HMY HMO
   have HQ : Hid (q = ⟨la, lc, lp, lpc, ra2, rcc, rp, rpc⟩) := hq
   obtain ⟨lo, hlo⟩ : ∃ lo, lo = r.left.op := ⟨_, rfl⟩
   obtain ⟨ln, hln⟩ : ∃ ln, ln = r.left.cl.length := ⟨_, rfl⟩
   obtain ⟨lk, hlk⟩ : ∃ lk, lk = (toL r.left.kids).length := ⟨_, rfl⟩
   obtain ⟨ro, hro⟩ : ∃ ro, ro = r.right.op := ⟨_, rfl⟩
   obtain ⟨rn, hrn⟩ : ∃ rn, rn = r.right.cl.length := ⟨_, rfl⟩
   obtain ⟨rk, hrk⟩ : ∃ rk, rk = (toL r.right.kids).length := ⟨_, rfl⟩
   obtain ⟨st, hst⟩ : ∃ st, st = r.start := ⟨_, rfl⟩
   obtain ⟨br, hbr⟩ : ∃ br, br = r.brk := ⟨_, rfl⟩
   have HVA : Hid (∀ bb : Bool, ((wordR (r, q) bb).1.vals q).toList = [.int .i64 lo, .slice la ln lc, .slice lp lk lpc, .int .i64 ro, .slice ra2 rn rcc, .slice rp rk rpc, .bool bb, .bool st]) := fun bb => by
    rw [HQ.out, hlo, hln, hlk, hro, hrn, hrk, hst]; rfl
   rw [HVA.out true] at HMY
   rw [HVA.out false] at HMO
   simp only [← hlo, ← hln, ← hlk, ← hro, ← hrn, ← hrk, ← hst, ← hbr] at t0 t1 t2 t3 t4 t5 t6 t7
   clear hlo hln hlk hro hrn hrk hst hbr hq HVA
   obtain ⟨X, hX⟩ : ∃ X, X = wr.heap.size := ⟨_, rfl⟩
   obtain ⟨W5, hW5⟩ : ∃ W5, W5 = wr.alloc (.cells #[.int .i64 lo, .slice la ln lc, .slice lp lk lpc, .int .i64 ro, .slice ra2 rn rcc, .slice rp rk rpc, .bool br, .bool st] 48) := ⟨_, rfl⟩
   have hb5 : Below wr.heap.size wr W5 := by rw [hW5]; exact (Below.refl _ wr).alloc (Nat.le_refl _) _
   have hx5 : W5.heap[X]? = some (.cells #[.int .i64 lo, .slice la ln lc, .slice lp lk lpc, .int .i64 ro, .slice ra2 rn rcc, .slice rp rk rpc, .bool br, .bool st] 48) := by rw [hX, hW5]; exact heap_alloc_new wr _
   have c6 : W5.cell? ⟨X, 6, none⟩ = some (.bool br) := cell_of_row _ _ 6 _ _ _ hx5
   have f6 : W5.frozen? ⟨X, 6, none⟩ = false := Lib.frozen_of_heap hx5 6
   obtain ⟨W6, hW6⟩ : ∃ W6, W6 = W5.setCell ⟨X, 6, none⟩ (.bool true) := ⟨_, rfl⟩
   have HB6 : Hid (Below wr.heap.size wr W6) := by rw [hW6]; exact hb5.setCell (p := ⟨X, 6, none⟩) (Nat.le_of_eq hX.symm) _
   have HX6 : Hid (W6.heap[X]? = some (.cells #[.int .i64 lo, .slice la ln lc, .slice lp lk lpc, .int .i64 ro, .slice ra2 rn rcc, .slice rp rk rpc, .bool true, .bool st] 48)) := by show _ = _; rw [hW6]; exact heap_setCell_same _ X 6 _ _ _ hx5
   have HXX : Hid (X = wr.heap.size) := hX
   go_upto_region 10 with fail
   rw [← hX, ← hW5]
   clear hX hW5 hb5 hx5 t0 t1 t2 t3 t4 t5 t6 t7 d0 d1
   go_upto_region 11 with fail
   rw [← hW6]
   clear hW6 c6 f6
   have HG6 : Hid (Gr2 W3.heap.size Y O (.slice ca m cc) (.slice av k cv) (.slice au k cu) (zs.map (wordR · true)) (zs.map (wordR · false)) W6) := HGR.out.later HB6.out
   obtain ⟨t0, t1, t2, t3, t4, t5, t6, t7⟩ := box8 HX6.out
   obtain ⟨_, y1, y2⟩ := HG6.out.1.cells
   obtain ⟨WA, hWA⟩ : ∃ WA, WA = W6.alloc (.cells #[.int .i64 lo, .slice la ln lc, .slice lp lk lpc, .int .i64 ro, .slice ra2 rn rcc, .slice rp rk rpc, .bool true, .bool st] 48) := ⟨_, rfl⟩
   have HBA : Hid (Below W6.heap.size W6 WA) := by rw [hWA]; exact (Below.refl _ W6).alloc (Nat.le_refl _) _
   have HGA : Hid (Gr2 W3.heap.size Y O (.slice ca m cc) (.slice av k cv) (.slice au k cu) (zs.map (wordR · true)) (zs.map (wordR · false)) WA) := HG6.out.later HBA.out
   have HOW : Hid (WA.ownsRow W3.heap.size 48 8 (.slice av k cv) k (flR (zs.map (wordR · true)))) := by
    have h := HGA.out.1.2.2
    rw [List.length_map, HZL.out.1] at h
    exact h
   have HNW : Hid (WA.heap[W6.heap.size]? = some (.cells #[.int .i64 lo, .slice la ln lc, .slice lp lk lpc, .int .i64 ro, .slice ra2 rn rcc, .slice rp rk rpc, .bool true, .bool st] 48) ∧ W3.heap.size ≤ WA.heap.size) := ⟨by rw [hWA]; exact heap_alloc_new W6 _, Nat.le_trans HBW.out.size (Nat.le_trans HB6.out.size HBA.out.size)⟩
   have HXA : Hid (WA.heap[X]? = some (.cells #[.int .i64 lo, .slice la ln lc, .slice lp lk lpc, .int .i64 ro, .slice ra2 rn rcc, .slice rp rk rpc, .bool true, .bool st] 48)) := (HBA.out.block X (Array.getElem?_eq_some_iff.1 HX6.out).1).trans HX6.out
   have HNX : Hid (X ≠ Y ∧ X ≠ O ∧ (Value.slice av k cv).ownBlock ≠ some X ∧ (Value.slice au k cu).ownBlock ≠ some X) := by
    refine ⟨fun e => ?_, fun e => ?_, fun e => ?_, fun e => ?_⟩
    ·have := (Array.getElem?_eq_some_iff.1 HGR.out.1.2.1).1; rw [← e, HXX.out] at this; omega
    ·have := (Array.getElem?_eq_some_iff.1 HGR.out.2.1.2.1).1; rw [← e, HXX.out] at this; omega
    ·have := (HGR.out.1.ne e).2.1; rw [HXX.out] at this; omega
    ·have := (HGR.out.2.1.ne e).2.1; rw [HXX.out] at this; omega
   have HBV : Hid (Below wr.heap.size wr WA) := HB6.out.trans (HBA.out.mono HB6.out.size)
   have hlen1 : (flR (zs.map (wordR · true))).length = k * 8 := by rw [flR_len, List.length_map, HZL.out.1]
   have HLN : Hid ((flR (zs.map (wordR · true))).length = k * 8) := hlen1
   clear hlen1
   go_upto_region 12 with (at_builtin; rw [← hWA]; refine wpList_append_lies _ rfl _ _ 23 rfl W3.heap.size 48 j0 _ 8 120 Tryd.underlying23 HJ.out.1 HJ.out.2.1 HJ.out.2.2.1 HJ.out.2.2.2 rfl (by decide) (.slice av k cv) k (flR (zs.map (wordR · true))) rfl HOW.out ⟨W6.heap.size, 0, none⟩ 1 1 [.int .i64 lo, .slice la ln lc, .slice lp lk lpc, .int .i64 ro, .slice ra2 rn rcc, .slice rp rk rpc, .bool true, .bool st] rfl rfl (World.news_of_block (fr := (0, 0)) HNW.out.1) (by simp [Value.oneCell']) (by omega) (by unfold maxLen; omega) (by omega) HNW.out.2 _ rfl (fun g4 cap4 w4 q1 q2 q3 q4 => ?_); obtain ⟨⟨x1, x2⟩, hg4⟩ := HMY.out WA w4 g4 cap4 HBV.out q1 q2 q3; have HG7 : Hid (Gr2 W3.heap.size Y O (.slice ca m cc) (.slice (some ⟨g4, 0, none⟩) (k + 1) cap4) (.slice au k cu) ((zs ++ [(r, q)]).map (wordR · true)) (zs.map (wordR · false)) (w4.setCell ⟨Y, 1, none⟩ (.slice (some ⟨g4, 0, none⟩) (k + 1) cap4))) := hg4; have HX7 : Hid ((w4.setCell ⟨Y, 1, none⟩ (.slice (some ⟨g4, 0, none⟩) (k + 1) cap4)).heap[X]? = some (.cells #[.int .i64 lo, .slice la ln lc, .slice lp lk lpc, .int .i64 ro, .slice ra2 rn rcc, .slice rp rk rpc, .bool true, .bool st] 48)) := HGA.out.other (g := g4) (cp := cap4) HXA.out HNX.out.1 HNX.out.2.2.1 q2 _; have HNX5 : Hid ((Value.slice (some ⟨g4, 0, none⟩) (k + 1) cap4).ownBlock ≠ some X) := (fun e => by have e2 : g4 = X := Option.some.inj e; rcases q3 with q3 | q3; exact HNX.out.2.2.1 (q3.trans (by rw [e2])); exact absurd (Array.getElem?_eq_some_iff.1 HXA.out).1 (by rw [← e2, q3]; exact Nat.lt_irrefl _)); have HB7 : Hid (Below W3.heap.size W3 (w4.setCell ⟨Y, 1, none⟩ (.slice (some ⟨g4, 0, none⟩) (k + 1) cap4))) := (((HBW.out.trans (HBV.out.mono HBW.out.size)).grown q2 HNW.out.2 (fun y hy => (HGA.out.1.ne hy).1)).setCell (p := ⟨Y, 1, none⟩) HGA.out.1.1 _); clear q1 q2 q3 q4 hg4 t0 t1 t2 t3 t4 t5 t6 t7 y1 y2)
   obtain ⟨W7, hW7⟩ : ∃ W7, W7 = w4.setCell ⟨Y, 1, none⟩ (.slice (some ⟨g4, 0, none⟩) (k + 1) cap4) := ⟨_, rfl⟩
   rw [← hW7] at HG7 HX7 HB7 ⊢
   clear hW7 x1 x2 hWA HGA HOW HNW HXA HBV HLN HBA HG6 HX6 HB6
   have c6 : W7.cell? ⟨X, 6, none⟩ = some (.bool true) := cell_of_row _ _ 6 _ _ _ HX7.out
   have f6 : W7.frozen? ⟨X, 6, none⟩ = false := Lib.frozen_of_heap HX7.out 6
   obtain ⟨W8, hW8⟩ : ∃ W8, W8 = W7.setCell ⟨X, 6, none⟩ (.bool false) := ⟨_, rfl⟩
   have HX3' : Hid (W3.heap.size ≤ X) := by show _ ≤ _; rw [HXX.out]; exact HBW.out.size
   have HB8 : Hid (Below W3.heap.size W3 W8) := by rw [hW8]; exact HB7.out.setCell (p := ⟨X, 6, none⟩) HX3'.out _
   have HX8 : Hid (W8.heap[X]? = some (.cells #[.int .i64 lo, .slice la ln lc, .slice lp lk lpc, .int .i64 ro, .slice ra2 rn rcc, .slice rp rk rpc, .bool false, .bool st] 48)) := by show _ = _; rw [hW8]; exact heap_setCell_same _ X 6 _ _ _ HX7.out
   have HG8 : Hid (Gr2 W3.heap.size Y O (.slice ca m cc) (.slice (some ⟨g4, 0, none⟩) (k + 1) cap4) (.slice au k cu) ((zs ++ [(r, q)]).map (wordR · true)) (zs.map (wordR · false)) W8) := by
    have hgx := grown_cell W7 X 6 (Value.bool false)
    rw [← hW8] at hgx
    obtain ⟨p1, p2, p3, p4⟩ := HG7.out
    refine ⟨p1.keep hgx (fun e => HNX.out.1 (Option.some.inj e)) (.inr HNX5.out), p2.keep hgx (fun e => HNX.out.2.1 (Option.some.inj e)) (.inr HNX.out.2.2.2), p3, p4⟩
   go_upto_region 13 with fail
   rw [← hW8]
   clear hW8 c6 f6 HX7 HG7 HB7
   obtain ⟨t0, t1, t2, t3, t4, t5, t6, t7⟩ := box8 HX8.out
   obtain ⟨_, y1, y2⟩ := HG8.out.2.1.cells
   obtain ⟨WA, hWA⟩ : ∃ WA, WA = W8.alloc (.cells #[.int .i64 lo, .slice la ln lc, .slice lp lk lpc, .int .i64 ro, .slice ra2 rn rcc, .slice rp rk rpc, .bool false, .bool st] 48) := ⟨_, rfl⟩
   have HBA : Hid (Below W8.heap.size W8 WA) := by rw [hWA]; exact (Below.refl _ W8).alloc (Nat.le_refl _) _
   have HGA : Hid (Gr2 W3.heap.size Y O (.slice ca m cc) (.slice (some ⟨g4, 0, none⟩) (k + 1) cap4) (.slice au k cu) ((zs ++ [(r, q)]).map (wordR · true)) (zs.map (wordR · false)) WA) := HG8.out.later HBA.out
   have HOW : Hid (WA.ownsRow W3.heap.size 48 8 (.slice au k cu) k (flR (zs.map (wordR · false)))) := by
    have h := HGA.out.2.1.2.2
    rw [List.length_map, HZL.out.1] at h
    exact h
   have HNW : Hid (WA.heap[W8.heap.size]? = some (.cells #[.int .i64 lo, .slice la ln lc, .slice lp lk lpc, .int .i64 ro, .slice ra2 rn rcc, .slice rp rk rpc, .bool false, .bool st] 48) ∧ W3.heap.size ≤ WA.heap.size) := ⟨by rw [hWA]; exact heap_alloc_new W8 _, Nat.le_trans HB8.out.size HBA.out.size⟩
   have HBV : Hid (Below W3.heap.size W3 WA) := HB8.out.trans (HBA.out.mono HB8.out.size)
   go_wp2_with (at_builtin; rw [← hWA]; refine wpList_append_lies _ rfl _ _ 23 rfl W3.heap.size 48 j0 _ 8 120 Tryd.underlying23 HJ.out.1 HJ.out.2.1 HJ.out.2.2.1 HJ.out.2.2.2 rfl (by decide) (.slice au k cu) k (flR (zs.map (wordR · false))) rfl HOW.out ⟨W8.heap.size, 0, none⟩ 1 1 [.int .i64 lo, .slice la ln lc, .slice lp lk lpc, .int .i64 ro, .slice ra2 rn rcc, .slice rp rk rpc, .bool false, .bool st] rfl rfl (World.news_of_block (fr := (0, 0)) HNW.out.1) (by simp [Value.oneCell']) (by omega) (by unfold maxLen; omega) (by omega) HNW.out.2 _ rfl (fun g5 cap5 w5 q1 q2 q3 q4 => ?_); obtain ⟨⟨x1, x2⟩, hg5⟩ := HMO.out g4 cap4 WA w5 g5 cap5 HGA.out q1 q2 q3; have HG9 : Hid (Gr2 W3.heap.size Y O (.slice ca m cc) (.slice (some ⟨g4, 0, none⟩) (k + 1) cap4) (.slice (some ⟨g5, 0, none⟩) (k + 1) cap5) ((zs ++ [(r, q)]).map (wordR · true)) ((zs ++ [(r, q)]).map (wordR · false)) (w5.setCell ⟨O, 1, none⟩ (.slice (some ⟨g5, 0, none⟩) (k + 1) cap5))) := hg5; have HB9 : Hid (Below W3.heap.size W3 (w5.setCell ⟨O, 1, none⟩ (.slice (some ⟨g5, 0, none⟩) (k + 1) cap5))) := ((HBV.out.grown q2 HNW.out.2 (fun y hy => (HGA.out.2.1.ne hy).1)).setCell (p := ⟨O, 1, none⟩) HGA.out.2.1.1 _); clear q1 q2 q3 q4 hg5 t0 t1 t2 t3 t4 t5 t6 t7 y1 y2)
   go_roundw
   case rel => exact ⟨k + 1, cap4, cap5, some ⟨g4, 0, none⟩, some ⟨g5, 0, none⟩, zs ++ [(r, q)], by omega, by go_num, HZ2.out.1, HZ2.out.2.1, HZ2.out.2.2, HG9.out, HB9.out⟩
   case measure => simp [intOf]; omega
  ·obtain rfl : k = N := by omega
   have hzr : zs.map (fun x => x.1) = rl := by rw [HZL.out.2.1]; exact List.take_of_length_le (by rw [← HRO.out.2]; omega)
   have HLY : Hid ((zs.map (wordR · true)).map (fun x => x.1) = wordL true rl ∧ (zs.map (wordR · false)).map (fun x => x.1) = wordL false rl) := by
    rw [← hzr]; unfold wordL; rw [List.map_map, List.map_map, List.map_map, List.map_map]; exact ⟨rfl, rfl⟩
   have HRA : Hid (∀ V : World, Below wr.heap.size wr V → RowR V D av (wordL true rl).length (wordL true rl) ∧ RowR V D au (wordL false rl).length (wordL false rl) ∧ RowR V D a' rl.length rl) := fun V hV => by
    have hg := HGR.out.later hV
    have hB := HBW.out.trans (hV.mono HBW.out.size)
    have e1 := hg.1.2.2
    have e2 := hg.2.1.2.2
    have kl : ∀ bb : Bool, (zs.map (wordR · bb)).length = k := fun bb => by rw [List.length_map, HZL.out.1]
    refine ⟨?_, ?_, HRO.out.1.later hB⟩
    ·rw [← HLY.out.1]
     refine own_row (w := W3) (B := W3.heap.size) (c := cv) (fun x hx => ?_) hB (by rw [kl]; rw [kl] at e1; exact e1)
     obtain ⟨y, hy, rfl⟩ := List.mem_map.1 hx
     exact HZL.out.2.2 y hy
    ·rw [← HLY.out.2]
     refine own_row (w := W3) (B := W3.heap.size) (c := cu) (fun x hx => ?_) hB (by rw [kl]; rw [kl] at e2; exact e2)
     obtain ⟨y, hy, rfl⟩ := List.mem_map.1 hx
     exact HZL.out.2.2 y hy
   have HKL : Hid (k = rl.length ∧ (wordL true rl).length = k ∧ (wordL false rl).length = k) := ⟨HRO.out.2, by rw [word_len]; exact HRO.out.2.symm, by rw [word_len]; exact HRO.out.2.symm⟩
   have HBG : Hid (∀ V : World, Below wr.heap.size wr V → (V.cell? ⟨Y, 0, none⟩ = some (.slice ca m cc) ∧ V.cell? ⟨Y, 1, none⟩ = some (.slice av k cv)) ∧ (V.cell? ⟨O, 0, none⟩ = some (.slice ca m cc) ∧ V.cell? ⟨O, 1, none⟩ = some (.slice au k cu)) ∧ V.cell? ⟨H, 0, none⟩ = some (.slice ca m cc) ∧ V.cell? ⟨H, 1, none⟩ = some (.slice a' k c')) := fun V hV => by
    have hg := HGR.out.later hV
    obtain ⟨p1, p2, _⟩ := hg.1.cells
    obtain ⟨p3, p4, _⟩ := hg.2.1.cells
    exact ⟨⟨p1, p2⟩, ⟨p3, p4⟩, HBX.out V (HBW.out.trans (hV.mono HBW.out.size))⟩
   have HBw : Hid (∀ V : World, Below wr.heap.size wr V → Below w.heap.size w V) := fun V hV => HB3.out.trans ((HBW.out.trans (hV.mono HBW.out.size)).mono HB3.out.size)
   have HC1 : Hid (∀ V : World, Below wr.heap.size wr V → Calls Tryd.prog 12 #[.agg #[.slice ca m cc, .slice av k cv]] V (CmpW m rl (wordL true rl) V)) := fun V hV => by
    have h := compile_any D m (wordL true rl) ca av cc cv V (HTD.out.later (HBw.out V hV)) (HRA.out V hV).1 (by have := HKL.out; omega)
    rw [HKL.out.2.1] at h; exact h.mono fun e w' hh => cmp_as hh (word_cm _ _ _) (by rw [word_left, word_right])
   have HC2 : Hid (∀ V : World, Below wr.heap.size wr V → Calls Tryd.prog 12 #[.agg #[.slice ca m cc, .slice au k cu]] V (CmpW m rl (wordL false rl) V)) := fun V hV => by
    have h := compile_any D m (wordL false rl) ca au cc cu V (HTD.out.later (HBw.out V hV)) (HRA.out V hV).2.1 (by have := HKL.out; omega)
    rw [HKL.out.2.2] at h; exact h.mono fun e w' hh => cmp_as hh (word_cm _ _ _) (by rw [word_left, word_right])
   have HC3 : Hid (∀ V : World, Below wr.heap.size wr V → Calls Tryd.prog 12 #[.agg #[.slice ca m cc, .slice a' k c']] V (CmpW m rl rl V)) := fun V hV => by
    have h := compile_any D m rl ca a' cc c' V (HTD.out.later (HBw.out V hV)) (HRA.out V hV).2.2 (by have := HKL.out; omega)
    rw [← HKL.out.1] at h; exact h.mono fun e w' hh => cmp_as hh rfl Iff.rfl
   have hai : ¬ (k : Int) < (k : Int) := by omega
   clear hzr HZL HGR HRA HTD HRO HOWN HPS HKR HX3 d0 d1 hlt
   obtain ⟨⟨p1, p2⟩, ⟨p3, p4⟩, d0, d1⟩ := HBG.out wr (Below.refl _ _)
   go_wp2_with fail
   refine (HC1.out wr (Below.refl _ _)).mono ?_
   rintro e wa ⟨hba, hor1⟩
   have HBa : Hid (Below wr.heap.size wr wa) := hba
   clear hba p1 p2 p3 p4 d0 d1
   obtain ⟨_, ⟨p3, p4⟩, _⟩ := HBG.out wa HBa.out
   rcases hor1 with ⟨hcm, rfl⟩ | ⟨hcm, ⟨rfl, hbg⟩ | ⟨t1, rfl, ht1, hnb⟩⟩
   ·have HCM : Hid (cmB m rl = false) := hcm
    clear hcm
    go_wp2_with fail
    refine (HC2.out wa HBa.out).mono ?_
    rintro e wb ⟨hbb, hor⟩
    have HBb : Hid (Below wr.heap.size wr wb) := HBa.out.trans (hbb.mono HBa.out.size)
    obtain rfl : e = .returned (.tuple #[.pointer none, .int .i64 1]) := by
     rcases hor with ⟨_, h⟩ | ⟨h, _⟩
     ·exact h
     ·rw [HCM.out] at h; cases h
    clear hbb hor p3 p4
    obtain ⟨_, _, d0, d1⟩ := HBG.out wb HBb.out
    go_wp2_with fail
    refine (HC3.out wb HBb.out).mono ?_
    rintro e wc ⟨hbc, hor⟩
    have HBc : Hid (Below wr.heap.size wr wc) := HBb.out.trans (hbc.mono HBb.out.size)
    obtain rfl : e = .returned (.tuple #[.pointer none, .int .i64 1]) := by
     rcases hor with ⟨_, h⟩ | ⟨h, _⟩
     ·exact h
     ·rw [HCM.out] at h; cases h
    clear hbc hor d0 d1
    go_wp2_with fail
    go_ret
    exact ⟨rfl, HBw.out wc HBc.out⟩
   ·have HCM : Hid (cmB m rl = true ∧ (BigC m (xsL rl) ∨ BigC m (xsR rl))) := ⟨hcm, hbg⟩
    clear hcm hbg
    go_wp2_with fail
    refine (HC2.out wa HBa.out).mono ?_
    rintro e wb ⟨hbb, hor⟩
    have HBb : Hid (Below wr.heap.size wr wb) := HBa.out.trans (hbb.mono HBa.out.size)
    obtain rfl : e = .returned (.tuple #[.pointer none, .int .i64 7]) := by
     rcases hor with ⟨h, _⟩ | ⟨_, ⟨h, _⟩ | ⟨_, _, _, h⟩⟩
     ·rw [HCM.out.1] at h; cases h
     ·exact h
     ·exact absurd HCM.out.2 h
    clear hbb hor p3 p4
    obtain ⟨_, _, d0, d1⟩ := HBG.out wb HBb.out
    go_wp2_with fail
    refine (HC3.out wb HBb.out).mono ?_
    rintro e wc ⟨hbc, hor⟩
    have HBc : Hid (Below wr.heap.size wr wc) := HBb.out.trans (hbc.mono HBb.out.size)
    obtain rfl : e = .returned (.tuple #[.pointer none, .int .i64 7]) := by
     rcases hor with ⟨h, _⟩ | ⟨_, ⟨h, _⟩ | ⟨_, _, _, h⟩⟩
     ·rw [HCM.out.1] at h; cases h
     ·exact h
     ·exact absurd HCM.out.2 h
    clear hbc hor d0 d1
    go_wp2_with fail
    go_ret
    exact ⟨rfl, HBw.out wc HBc.out⟩
   have HCM : Hid (cmB m rl = true ∧ ¬ (BigC m (xsL rl) ∨ BigC m (xsR rl))) := ⟨hcm, hnb⟩
   have HT1 : Hid (∀ V : World, Below wa.heap.size wa V → TabAt V m (wordL true rl) t1) := fun V hV => ht1.later hV
   clear hcm hnb ht1
   go_wp2_with fail
   refine (HC2.out wa HBa.out).mono ?_
   rintro e wb ⟨hbb, hor⟩
   have HBab : Hid (Below wa.heap.size wa wb) := hbb
   have HBb : Hid (Below wr.heap.size wr wb) := HBa.out.trans (hbb.mono HBa.out.size)
   obtain ⟨t2, rfl, ht2⟩ : ∃ t2, e = .returned (.tuple #[.pointer (some ⟨t2, 0, none⟩), .int .i64 0]) ∧ TabAt wb m (wordL false rl) t2 := by
    rcases hor with ⟨h, _⟩ | ⟨_, ⟨_, h⟩ | ⟨t2, h1, h2, _⟩⟩
    ·rw [HCM.out.1] at h; cases h
    ·exact absurd h HCM.out.2
    ·exact ⟨t2, h1, h2⟩
   have HT2 : Hid (∀ V : World, Below wb.heap.size wb V → TabAt V m (wordL false rl) t2) := fun V hV => ht2.later hV
   clear hbb hor p3 p4 ht2
   obtain ⟨_, _, d0, d1⟩ := HBG.out wb HBb.out
   go_wp2_with fail
   refine (HC3.out wb HBb.out).mono ?_
   rintro e wc ⟨hbc, hor⟩
   have HBbc : Hid (Below wb.heap.size wb wc) := hbc
   have HBc : Hid (Below wr.heap.size wr wc) := HBb.out.trans (hbc.mono HBb.out.size)
   obtain ⟨t3, rfl, ht3⟩ : ∃ t3, e = .returned (.tuple #[.pointer (some ⟨t3, 0, none⟩), .int .i64 0]) ∧ TabAt wc m rl t3 := by
    rcases hor with ⟨h, _⟩ | ⟨_, ⟨_, h⟩ | ⟨t3, h1, h2, _⟩⟩
    ·rw [HCM.out.1] at h; cases h
    ·exact absurd h HCM.out.2
    ·exact ⟨t3, h1, h2⟩
   have HT3 : Hid (∀ V : World, Below wc.heap.size wc V → TabAt V m rl t3) := fun V hV => ht3.later hV
   clear hbc hor d0 d1 ht3 HC1 HC2 HC3 HBG
   have HS : Hid (∀ V : World, Below wc.heap.size wc V → Calls Tryd.prog 18 #[.pointer (some ⟨t1, 0, none⟩), .slice xa n xc] V (BdsQ m (wordL true rl) n row V) ∧ Calls Tryd.prog 18 #[.pointer (some ⟨t2, 0, none⟩), .slice xa n xc] V (BdsQ m (wordL false rl) n row V) ∧ Calls Tryd.prog 18 #[.pointer (some ⟨t3, 0, none⟩), .slice xa n xc] V (BdsQ m rl n row V)) := fun V hV => by
    have h2 := HBbc.out.trans (hV.mono HBbc.out.size)
    have h1 := HBab.out.trans (h2.mono HBab.out.size)
    have hr := HRD.out.later (HBw.out V (HBc.out.trans (hV.mono HBc.out.size)))
    have hl := HKL.out
    exact ⟨segBnd_any m t1 n xc (wordL true rl) row xa V (HT1.out V h1) (by omega) hr HNC.out.2 (by omega), segBnd_any m t2 n xc (wordL false rl) row xa V (HT2.out V h2) (by omega) hr HNC.out.2 (by omega), segBnd_any m t3 n xc rl row xa V (HT3.out V hV) (by omega) hr HNC.out.2 (by omega)⟩
   go_wp2_with fail
   refine (HS.out wc (Below.refl _ _)).1.mono ?_
   rintro e wd ⟨hbd, hor⟩
   have HBd : Hid (Below wc.heap.size wc wd) := hbd
   rcases hor with ⟨hnc, rfl⟩ | ⟨hcl, L1, g1, rfl, hg1, hb1⟩
   ·have HNCL : Hid (¬ Cls m row) := hnc
    clear hnc hbd
    go_wp2_with fail
    refine (HS.out wd HBd.out).2.1.mono ?_
    rintro e we ⟨hbe, hor⟩
    have HBe : Hid (Below wc.heap.size wc we) := HBd.out.trans (hbe.mono HBd.out.size)
    obtain rfl : e = .returned (.tuple #[.slice none 0 0, .int .i64 1]) := by
     rcases hor with ⟨_, h⟩ | ⟨h, _⟩
     ·exact h
     ·exact absurd h HNCL.out
    clear hbe hor
    go_wp2_with fail
    refine (HS.out we HBe.out).2.2.mono ?_
    rintro e wf ⟨hbf, hor⟩
    have HBf : Hid (Below w.heap.size w wf) := HBw.out wf (HBc.out.trans ((HBe.out.trans (hbf.mono HBe.out.size)).mono HBc.out.size))
    obtain rfl : e = .returned (.tuple #[.slice none 0 0, .int .i64 1]) := by
     rcases hor with ⟨_, h⟩ | ⟨h, _⟩
     ·exact h
     ·exact absurd h HNCL.out
    clear hbf hor
    go_wp2_with fail
    go_loopw [22] (fun x22 wz => x22 = .int .i64 0 ∧ wz = wf) (fun _ _ => 0)
    case atStart => exact ⟨rfl, rfl⟩
    case round =>
     obtain ⟨hx, hwr⟩ := hrel
     subst hx
     obtain rfl : wf = wr := hwr.symm
     go_wp2_with fail
     go_ret
     exact ⟨rfl, HBf.out⟩
   have HCL : Hid (Cls m row) := hcl
   have HL1 : Hid (IsBd m (wordL true rl) n row L1) := hb1
   have HG1 : Hid (∀ V : World, Below wd.heap.size wd V → V.heap[g1]? = some (.cells (bFun n (fun q => decide (q ∈ L1))) 4)) := fun V hV => (hV.block g1 (Array.getElem?_eq_some_iff.1 hg1).1).trans hg1
   clear hcl hb1 hg1 hbd
   go_wp2_with fail
   refine (HS.out wd HBd.out).2.1.mono ?_
   rintro e we ⟨hbe, hor⟩
   have HBde : Hid (Below wd.heap.size wd we) := hbe
   have HBe : Hid (Below wc.heap.size wc we) := HBd.out.trans (hbe.mono HBd.out.size)
   rcases hor with ⟨h, _⟩ | ⟨_, L2, g2, rfl, hg2, hb2⟩
   ·exact absurd HCL.out h
   have HL2 : Hid (IsBd m (wordL false rl) n row L2) := hb2
   have HG2 : Hid (∀ V : World, Below we.heap.size we V → V.heap[g2]? = some (.cells (bFun n (fun q => decide (q ∈ L2))) 4)) := fun V hV => (hV.block g2 (Array.getElem?_eq_some_iff.1 hg2).1).trans hg2
   clear hb2 hg2 hbe
   go_wp2_with fail
   refine (HS.out we HBe.out).2.2.mono ?_
   rintro e wf ⟨hbf, hor⟩
   have HBef : Hid (Below we.heap.size we wf) := hbf
   have HBf : Hid (Below w.heap.size w wf) := HBw.out wf (HBc.out.trans ((HBe.out.trans (hbf.mono HBe.out.size)).mono HBc.out.size))
   rcases hor with ⟨h, _⟩ | ⟨_, L3, g3, rfl, hg3, hb3⟩
   ·exact absurd HCL.out h
   have HTT : Hid ((0 < n → ∀ k, k ≤ n → k ∈ L1) ∧ (∀ k, k ∈ L2 → k ∈ L3)) := ⟨fun hn k hk => HL1.out.yes hn hk, fun k hk => HL2.out.no hb3 hk⟩
   have HGC : Hid (∀ k, k < n + 1 → wf.cell? ⟨g1, k, none⟩ = some (.bool (decide (k ∈ L1))) ∧ wf.cell? ⟨g2, k, none⟩ = some (.bool (decide (k ∈ L2))) ∧ wf.cell? ⟨g3, k, none⟩ = some (.bool (decide (k ∈ L3)))) := fun k hk => by
    refine ⟨?_, ?_, ?_⟩
    ·rw [cell_of_row _ g1 k _ _ _ (HG1.out wf (HBde.out.trans (HBef.out.mono HBde.out.size))), bFun_get n _ hk]
    ·rw [cell_of_row _ g2 k _ _ _ (HG2.out wf HBef.out), bFun_get n _ hk]
    ·rw [cell_of_row _ g3 k _ _ _ hg3, bFun_get n _ hk]
   clear hb3 hg3 hbf HL1 HL2 HG1 HG2 HS HBw HT1 HT2 HT3
   obtain ⟨z, hz⟩ : ∃ z, z = decide (0 < n) := ⟨_, rfl⟩
   have hz1 : decide (0 < n) = z := hz.symm
   have hz2 : decide ((0 : Int) < (n : Int)) = z := by rw [hz]; exact decide_eq_decide.2 (by omega)
   have HZ : Hid (z = decide (0 < n)) := hz
   clear hz
   go_wp2_with fail
   go_loopw [22] (fun x22 wz => ∃ i : Nat, i ≤ n + 1 ∧ x22 = .int .i64 (i : Int) ∧ wz = wf) (fun x22 _ => n + 1 - (intOf x22).toNat)
   case atStart => exact ⟨0, by omega, rfl, rfl⟩
   case round =>
    obtain ⟨i, hin, hx, hwr⟩ := hrel
    subst hx
    obtain rfl : wf = wr := hwr.symm
    by_cases hi : i < n + 1
    ·have hii : (i : Int) < (n : Int) + 1 := by omega
     have hi0 : (0 : Int) ≤ (i : Int) := by omega
     obtain ⟨c1, c2, c3⟩ := HGC.out i hi
     obtain ⟨b1, hb1⟩ : ∃ b, b = decide (i ∈ L1) := ⟨_, rfl⟩
     obtain ⟨b2, hb2⟩ : ∃ b, b = decide (i ∈ L2) := ⟨_, rfl⟩
     obtain ⟨b3, hb3⟩ : ∃ b, b = decide (i ∈ L3) := ⟨_, rfl⟩
     rw [← hb1] at c1
     rw [← hb2] at c2
     rw [← hb3] at c3
     have h1 : z = true → b1 = true := fun h => by rw [hb1, decide_eq_true_eq]; rw [HZ.out, decide_eq_true_eq] at h; exact HTT.out.1 h i (by omega)
     have h2 : b2 = true → b3 = true := fun h => by rw [hb3, decide_eq_true_eq]; rw [hb2, decide_eq_true_eq] at h; exact HTT.out.2 i h
     clear hb1 hb2 hb3
     have hcase : (z = false ∨ (z = true ∧ b1 = true)) ∧ (b2 = false ∨ (b2 = true ∧ b3 = true)) := by
      refine ⟨?_, ?_⟩
      ·cases z
       ·exact .inl rfl
       ·exact .inr ⟨rfl, h1 rfl⟩
      ·cases b2
       ·exact .inl rfl
       ·exact .inr ⟨rfl, h2 rfl⟩
     clear h1 h2 HZ
     rcases hcase with ⟨rfl | ⟨rfl, rfl⟩, rfl | ⟨rfl, rfl⟩⟩
     all_goals
      go_wp2_with fail
      go_roundw
      case rel => exact ⟨i + 1, by omega, by go_num, trivial⟩
      case measure => simp [intOf]; omega
    ·have hii : ¬ (i : Int) < (n : Int) + 1 := by omega
     go_wp2_with fail
     go_ret
     exact ⟨rfl, HBf.out⟩
end Go.Proofs.YtcafffohnokjgaaDoor
