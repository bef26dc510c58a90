/- The walk of SegSteps. -/
import Derived.Test.YtcafffohnokjgaaDoorJ28
import Derived.Test.YtcafffohnokjgaaDoorJ27
import Derived.BigQuiet
import Derived.Test.YtcafffohnokjgaaDoorJ30
namespace Go.Proofs.YtcafffohnokjgaaDoor
open Go.RowKit Go.Shelf Go.Maps
set_option linter.unusedVariables false
set_option linter.unusedSimpArgs false

set_option maxRecDepth 100000 in
set_option maxHeartbeats 8000000 in
theorem segSteps_walk (D K : Nat) (l : List Rl) (ca ra : Option Addr) (cc rc : Nat) (xs0 : List Int) (xa : Option Addr) (len0 xc : Nat) (at0 : Int) (w : World) (hT : TabD w) (hr : RowR w D ra l.length l) (hl : l.length ≤ 140737488355328) (hK : K ≤ cc) (hK2 : K ≤ 140737488355328) (hrd : Rd .i64 w xa len0 xs0) (hcap : len0 ≤ xc) (hnone : xa = none → xc = 0) :
 Calls Tryd.prog 3 #[.agg #[.slice ca K cc, .slice ra l.length rc], .slice xa len0 xc, .int .i64 at0] w fun e w' => e = .returned (.bool true) ∧ Below w.heap.size w w' := by
 obtain ⟨m, hm⟩ : ∃ m, m = min K 30 := ⟨_, rfl⟩
 obtain ⟨RN, hRN⟩ : ∃ RN, RN = l.length := ⟨_, rfl⟩
 have HTD : Hid (TabD w) := hT
 obtain ⟨n, hn⟩ : ∃ n : Nat, (n : Int) = min (len0 : Int) 16 := ⟨min len0 16, by omega⟩
 have hmin := min_run len0 n 16 hn
 have hcut0 := cutI xa len0 xc n (by omega)
 obtain ⟨row, hrow⟩ : ∃ row, row = xs0.take n := ⟨_, rfl⟩
 have HRD : Hid (Rd .i64 w xa n row) := by rw [hrow]; exact hrd.take n (by omega)
 have HL : Hid (row.length = n) := HRD.out.1
 have hn30 : (n : Int) ≤ 16 := by omega
 have HNC : Hid (n ≤ xc ∧ (xa = none → xc = 0)) := ⟨by omega, hnone⟩
 clear hrd hcap hrow hn hnone
 have HSH : Hid (∀ V : World, Below w.heap.size w V → Calls Tryd.prog 10 #[] V fun e w' => e = .returned (.bool true) ∧ Below V.heap.size V w') := fun V hV => shown10_any V (hT.later hV)
 have HFE : Hid (∀ V : World, Below w.heap.size w V → Calls Tryd.prog 11 #[.agg #[.slice ca K cc, .slice ra RN rc]] V (Few9 D l ca m cc w V)) := fun V hV => by
  rw [hRN]; exact few9_any D K m l ca ra cc rc w V hV hr hl hK hK2 hm
 obtain ⟨H, hH⟩ : ∃ H, H = w.heap.size := ⟨_, rfl⟩
 have HH : Hid (H = w.heap.size) := hH
 obtain ⟨W0, hW0⟩ : ∃ W0, W0 = w.alloc (.cells #[.slice ca K cc, .slice ra RN rc] 25) := ⟨_, rfl⟩
 have HB0 : Hid (Below w.heap.size w W0) := by rw [hW0]; exact (Below.refl _ w).alloc (Nat.le_refl _) _
 have HX0 : Hid (W0.heap[H]? = some (.cells #[.slice ca K cc, .slice ra RN rc] 25)) := by show _ = _; rw [hW0, hH]; exact heap_alloc_new w _
 have hm30 : (m : Int) ≤ 30 := by omega
 rw [← hRN]
 clear hT hr hl hK hK2 hm hRN
 go_enter Tryd.func3, Tryd.ntmps3
 go_upto_region 1 with fail
 rw [← hH, ← hW0]
 clear hH hW0
 go_wp2_with fail
 refine (HSH.out W0 HB0.out).mono ?_
 rintro e w1 ⟨rfl, hb1⟩
 have HB1 : Hid (Below w.heap.size w w1) := HB0.out.trans (hb1.mono HB0.out.size)
 have HX1 : Hid (w1.heap[H]? = some (.cells #[.slice ca K cc, .slice ra RN rc] 25)) := (hb1.block H (Array.getElem?_eq_some_iff.1 HX0.out).1).trans HX0.out
 clear hb1 HX0 HB0
 obtain ⟨⟨e0, e1⟩, _⟩ := box2 HX1.out
 go_wp2_with fail
 refine (HFE.out w1 HB1.out).mono ?_
 rintro e w2 ⟨hb2, ps, a', c', rfl, h8, hkr, hown⟩
 have HB2 : Hid (Below w.heap.size w w2) := HB1.out.trans (hb2.mono HB1.out.size)
 have hx2 : w2.heap[H]? = some (.cells #[.slice ca K cc, .slice ra RN rc] 25) := (hb2.block H (Array.getElem?_eq_some_iff.1 HX1.out).1).trans HX1.out
 obtain ⟨rl, hrl⟩ : ∃ rl, rl = ps.map fun x => x.1 := ⟨_, rfl⟩
 obtain ⟨N, hN⟩ : ∃ N, N = ps.length := ⟨_, rfl⟩
 have hNr : N = rl.length := by rw [hN, hrl]; simp
 rw [← hN] at h8 ⊢
 obtain ⟨W3, hW3⟩ : ∃ W3, W3 = (w2.setCell ⟨H, 0, none⟩ (.slice ca m cc)).setCell ⟨H, 1, none⟩ (.slice a' N c') := ⟨_, rfl⟩
 have hg3 : w2.grownBy W3 (some H) := by rw [hW3]; exact grown_all (grown_cell w2 H 0 _) (grown_cell _ H 1 _)
 have HB3 : Hid (Below w.heap.size w W3) := HB2.out.grown hg3 HB2.out.size (fun k hk => by cases hk; exact Nat.le_of_eq HH.out.symm)
 have HX3 : Hid (W3.heap[H]? = some (.cells #[.slice ca m cc, .slice a' N c'] 25)) := by
  show _ = _
  rw [hW3]
  exact heap_setCell_same _ H 1 _ _ _ (heap_setCell_same _ H 0 _ _ _ hx2)
 have HKR : Hid (KeptR w D l ps) := hkr
 have HPS : Hid (rl = ps.map (fun x => x.1) ∧ N = ps.length) := ⟨hrl, hN⟩
 have HOWN : Hid (W3.ownsRow w1.heap.size 48 8 (.slice a' N c') N (flR ps)) := by
  rw [← hN] at hown; exact hown.kept hg3 (.inr (own_ne hown hx2 (by decide)))
 have hro : RowR W3 D a' rl.length rl := by
  rw [hrl]
  exact kept_row hkr HB3.out (hown.kept hg3 (.inr (own_ne hown hx2 (by decide))))
 have HRO : Hid (RowR W3 D a' rl.length rl ∧ N = rl.length) := ⟨hro, hNr⟩
 obtain ⟨⟨y0, y1⟩, y2, y3⟩ := box2 hx2
 have hN8 : (N : Int) ≤ 8 := by omega
 clear hb2 hkr hown hrl hg3 hro hNr hx2 e0 e1 hN
 go_upto_region 3 with fail
 rw [← hW3]
 clear hW3 y0 y1 y2 y3 HX1 HB1 HB2 h8 HSH HFE
 have HCP : Hid (Calls Tryd.prog 12 #[.agg #[.slice ca m cc, .slice a' N c']] W3 (CmpP m rl W3)) := by
  rw [HRO.out.2]; exact compile_any D m rl ca a' cc c' W3 (HTD.out.later HB3.out) HRO.out.1 (by have := HRO.out.2; omega)
 obtain ⟨⟨e0, e1⟩, _⟩ := box2 HX3.out
 go_wp2_with fail
 refine HCP.out.mono ?_
 rintro e w4 ⟨hb4, hor⟩
 have HB4 : Hid (Below w.heap.size w w4) := HB3.out.trans (hb4.mono HB3.out.size)
 rcases hor with ⟨_, rfl⟩ | ⟨hcm, ⟨rfl, _⟩ | ⟨tb, rfl, htw, hta, hnb1, hnb2⟩⟩
 ·clear hb4 e0 e1
  go_wp2_with fail
  go_ret
  exact ⟨rfl, HB4.out⟩
 ·clear hb4 e0 e1 hcm
  go_wp2_with fail
  go_ret
  exact ⟨rfl, HB4.out⟩
 rw [Int.toNat_natCast] at hta
 have HTA : Hid (∀ V : World, Below w4.heap.size w4 V → TabAt V m rl tb) := fun V hV => hta.later hV
 have HR4 : Hid (N = rl.length) := HRO.out.2
 have HRV : Hid (∀ V : World, Below w4.heap.size w4 V → Rd .i64 V xa n row) := fun V hV => HRD.out.later (HB4.out.trans (hV.mono HB4.out.size))
 have HOK : Hid (∀ r, r ∈ rl → okN 32 r.left = true ∧ okN 32 r.right = true) := cm_ok hcm
 have HX4 : Hid (w4.heap[H]? = some (.cells #[.slice ca m cc, .slice a' N c'] 25)) := (hb4.block H (Array.getElem?_eq_some_iff.1 HX3.out).1).trans HX3.out
 have HRW : Hid (RowR w4 D a' N rl) := by rw [HR4.out]; exact HRO.out.1.later hb4
 clear hb4 htw e0 e1 HCP HRO HX3 HB3 hcm hnb1 hnb2 hta hmin hcut0 HKR HPS HOWN
 have HCB : Hid (Calls Tryd.prog 13 #[.agg #[.slice ca m cc, .slice a' N c'], .slice xa n xc] w4 (RbdP m rl row n w4)) := refBnd_any D m N n rl row ca a' xa cc c' xc w4 HRW.out (by omega) (by omega) (HRV.out w4 (Below.refl _ _)) (by omega)
 obtain ⟨⟨e0, e1⟩, _⟩ := box2 HX4.out
 go_wp2_with fail
 refine HCB.out.mono ?_
 rintro e w5 ⟨hb5, hor⟩
 have HB5 : Hid (Below w4.heap.size w4 w5) := hb5
 clear hb5 HCB e0 e1
 have HNX : Hid (∀ V : World, Below w4.heap.size w4 V → Calls Tryd.prog 14 #[.pointer (some ⟨tb, 0, none⟩), .slice xa n xc, .int .i64 at0] V (StpP nextL m rl n row at0 V) ∧ Calls Tryd.prog 15 #[.pointer (some ⟨tb, 0, none⟩), .slice xa n xc, .int .i64 at0] V (StpP prevL m rl n row at0 V)) := fun V hB =>
  ⟨segNext_any m tb n xc rl row xa at0 V (HTA.out V hB) (by have := HR4.out; omega) (HRV.out V hB) HNC.out.2 (by omega), segPrev_any m tb n xc rl row xa at0 V (HTA.out V hB) (by have := HR4.out; omega) (HRV.out V hB) HNC.out.2 (by omega)⟩
 rcases hor with ⟨hnc, rfl⟩ | ⟨hcl, a, c, rfl, hrt⟩
 ·have HNCL : Hid (¬ Cls m row) := hnc
  clear hnc
  go_wp2_with fail
  refine (HNX.out w5 HB5.out).1.mono ?_
  rintro e w6 ⟨hb6, hor⟩
  have HB6 : Hid (Below w4.heap.size w4 w6) := HB5.out.trans (hb6.mono HB5.out.size)
  obtain rfl : e = .returned (.tuple #[.int .i64 0, .int .i64 1]) := by
   rcases hor with ⟨_, h⟩ | ⟨h, _⟩ | ⟨h, _⟩
   ·exact h
   ·exact absurd h HNCL.out
   ·exact absurd h HNCL.out
  clear hb6 hor
  go_wp2_with fail
  refine (HNX.out w6 HB6.out).2.mono ?_
  rintro e w7 ⟨hb7, hor⟩
  have HB7 : Hid (Below w.heap.size w w7) := HB4.out.trans ((HB6.out.trans (hb7.mono HB6.out.size)).mono HB4.out.size)
  obtain rfl : e = .returned (.tuple #[.int .i64 0, .int .i64 1]) := by
   rcases hor with ⟨_, h⟩ | ⟨h, _⟩ | ⟨h, _⟩
   ·exact h
   ·exact absurd h HNCL.out
   ·exact absurd h HNCL.out
  clear hb7 hor
  go_wp2_with fail
  go_ret
  exact ⟨rfl, HB7.out⟩
 have HCL : Hid (Cls m row) := hcl
 have HRT : Hid (∀ V : World, Below w5.heap.size w5 V → RdT V a (n + 1) (boundL rl row)) := fun V hV => hrt.later hV
 clear hcl hrt
 by_cases hat : at0 < 0 ∨ (n : Int) < at0
 ·have HAT : Hid (at0 < 0 ∨ (n : Int) < at0) := hat
  go_wp2_with fail
  refine (HNX.out w5 HB5.out).1.mono ?_
  rintro e w6 ⟨hb6, hor⟩
  have HB6 : Hid (Below w4.heap.size w4 w6) := HB5.out.trans (hb6.mono HB5.out.size)
  obtain rfl : e = .returned (.tuple #[.int .i64 0, .int .i64 3]) := by
   rcases hor with ⟨h, _⟩ | ⟨_, _, h⟩ | ⟨_, h1, h2, _⟩
   ·exact absurd HCL.out h
   ·exact h
   ·have := HAT.out; omega
  clear hb6 hor
  go_wp2_with fail
  refine (HNX.out w6 HB6.out).2.mono ?_
  rintro e w7 ⟨hb7, hor⟩
  have HB7 : Hid (Below w.heap.size w w7) := HB4.out.trans ((HB6.out.trans (hb7.mono HB6.out.size)).mono HB4.out.size)
  obtain rfl : e = .returned (.tuple #[.int .i64 0, .int .i64 3]) := by
   rcases hor with ⟨h, _⟩ | ⟨_, _, h⟩ | ⟨_, h1, h2, _⟩
   ·exact absurd HCL.out h
   ·exact h
   ·have := HAT.out; omega
  clear hb7 hor
  by_cases h0 : at0 < 0
  ·clear hat
   go_wp2_with fail
   go_ret
   exact ⟨rfl, HB7.out⟩
  ·have h1 : (n : Int) < at0 := by omega
   clear hat
   go_wp2_with fail
   go_ret
   exact ⟨rfl, HB7.out⟩
 obtain ⟨A, rfl⟩ : ∃ A : Nat, at0 = (A : Int) := ⟨at0.toNat, by omega⟩
 have hA : A ≤ n := by omega
 have hAi : ¬ (n : Int) < (A : Int) := by omega
 have hA0 : ¬ (A : Int) < 0 := by omega
 clear hat
 go_wp2_with fail
 refine (HNX.out w5 HB5.out).1.mono ?_
 rintro e w6 ⟨hb6, hor⟩
 have HB56 : Hid (Below w5.heap.size w5 w6) := hb6
 have HB6 : Hid (Below w4.heap.size w4 w6) := HB5.out.trans (hb6.mono HB5.out.size)
 obtain ⟨L, hbd, rfl⟩ : ∃ L, IsBd m rl n row L ∧ e = .returned (.tuple #[.int .i64 ((nextL L n A : Nat) : Int), .int .i64 0]) := by
  rcases hor with ⟨h, _⟩ | ⟨_, h, _⟩ | ⟨_, _, _, q1, q2, q3, q4, he, hA, hB⟩
  ·exact absurd HCL.out h
  ·omega
  ·exact ⟨_, ⟨q1, q2, q3, q4, rfl, hA, hB⟩, he⟩
 have HBD : Hid (IsBd m rl n row L) := hbd
 clear hb6 hor hbd
 obtain ⟨xn, hxn⟩ : ∃ xn, xn = nextL L n A := ⟨_, rfl⟩
 have HXN : Hid (xn = nextL L n A) := hxn
 rw [← hxn]
 clear hxn
 go_wp2_with fail
 refine (HNX.out w6 HB6.out).2.mono ?_
 rintro e w7 ⟨hb7, hor⟩
 have HB57 : Hid (Below w5.heap.size w5 w7) := HB56.out.trans (hb7.mono HB56.out.size)
 have HB7 : Hid (Below w4.heap.size w4 w7) := HB6.out.trans (hb7.mono HB6.out.size)
 obtain rfl : e = .returned (.tuple #[.int .i64 ((prevL L n A : Nat) : Int), .int .i64 0]) := by
  rcases hor with ⟨h, _⟩ | ⟨_, h, _⟩ | ⟨_, _, _, q1, q2, q3, q4, he, hA, hB⟩
  ·exact absurd HCL.out h
  ·omega
  ·rw [he, IsBd.one (L := L) HBD.out ⟨q1, q2, q3, q4, rfl, hA, hB⟩]; rfl
 clear hb7 hor
 obtain ⟨xp, hxp⟩ : ∃ xp, xp = prevL L n A := ⟨_, rfl⟩
 have HXP : Hid (xp = prevL L n A) := hxp
 rw [← hxp]
 clear hxp
 have HRF : Hid (∀ V : World, Below w7.heap.size w7 V → RdT V a (n + 1) ((List.range (n + 1)).map fun q => decide (q ∈ L))) := fun V hV => by
  rw [← HBD.out.list HL.out HCL.out HOK.out]
  exact HRT.out V (HB57.out.trans (hV.mono HB57.out.size))
 have HCN : Hid (∀ V : World, Below w7.heap.size w7 V → Calls Tryd.prog 16 #[.slice a (n + 1) c, .int .i64 (A : Int)] V fun e w' => e = .returned (.int .i64 (xn : Int)) ∧ Below V.heap.size V w') := fun V hV => by
  refine (refNext_any (fun q => decide (q ∈ L)) n 0 c A a V (HRF.out V hV) (by omega) hA).mono ?_
  rintro e w' ⟨v, rfl, hv, rfl⟩
  refine ⟨?_, Below.refl _ _⟩
  rw [HXN.out, nxV_next HBD.out.sorted (fun h => (HBD.out.ends h).2) (fun x hx => HBD.out.le hx) hA hv]
 have HCP : Hid (∀ V : World, Below w7.heap.size w7 V → Calls Tryd.prog 17 #[.slice a (n + 1) c, .int .i64 (A : Int)] V fun e w' => e = .returned (.int .i64 (xp : Int)) ∧ Below V.heap.size V w') := fun V hV => by
  refine (refPrev_any (fun q => decide (q ∈ L)) n 0 c A a V (HRF.out V hV) (by omega) hA).mono ?_
  rintro e w' ⟨v, rfl, hv, rfl⟩
  refine ⟨?_, Below.refl _ _⟩
  rw [HXP.out, pvV_prev (n := n) HBD.out.sorted (fun h => HBD.out.none h) (fun h => (HBD.out.ends h).1) hA hv]
 clear HNX HRT HRF HBD
 go_wp2_with fail
 refine (HCN.out w7 (Below.refl _ _)).mono ?_
 rintro e w8 ⟨rfl, hb8⟩
 have HB8 : Hid (Below w7.heap.size w7 w8) := hb8
 clear hb8
 go_wp2_with fail
 refine (HCP.out w8 HB8.out).mono ?_
 rintro e w9 ⟨rfl, hb9⟩
 have HB9 : Hid (Below w.heap.size w w9) := HB4.out.trans ((HB7.out.trans ((HB8.out.trans (hb9.mono HB8.out.size)).mono HB7.out.size)).mono HB4.out.size)
 clear hb9
 go_wp2_with fail
 go_ret
 exact ⟨rfl, HB9.out⟩
end Go.Proofs.YtcafffohnokjgaaDoor
