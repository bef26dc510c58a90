/- The walk of WindowUndo. -/
import Derived.Test.YtclogekfdmikpaaDoorJ40
import Derived.Test.YtclogekfdmikpaaDoorJ38
import Derived.Test.YtclogekfdmikpaaDoorJ39
import Derived.BigQuiet
namespace Go.Proofs.YtclogekfdmikpaaDoor
open Go.RowKit Go.Shelf Go.Maps
set_option linter.unusedVariables false
set_option linter.unusedSimpArgs false

theorem spl_back (xs cls : List Int) (p k come : Nat) (h : p + k ≤ xs.length) (hc : cls.length = come) : spl (spl xs p k cls) p come ((xs.drop p).take k) = xs := by
 have h1 := spl_take xs cls p k h
 have h2 : (spl xs p k cls).drop (p + come) = xs.drop (p + k) := by
  unfold spl
  have hl : (xs.take p ++ cls).length = p + come := by rw [List.length_append, List.length_take, hc]; omega
  rw [List.drop_left' hl]
 have h3 : spl (spl xs p k cls) p come ((xs.drop p).take k) = (spl xs p k cls).take p ++ (xs.drop p).take k ++ (spl xs p k cls).drop (p + come) := rfl
 rw [h3, h1, h2]
 exact spl_same xs p k
set_option maxRecDepth 100000 in
set_option maxHeartbeats 8000000 in
theorem windowUndo_walk (D K : Nat) (l : List Rl) (ca ra : Option Addr) (cc rc : Nat) (xs0 : List Int) (xa : Option Addr) (len0 xc : Nat) (at0 n0 : Int) (ys0 : List Int) (oa : Option Addr) (olen oc : Nat) (w : World) (hT : TabD w) (hr : RowR w D ra l.length l) (hl : l.length ≤ 140737488355328) (hK : K ≤ cc) (hK2 : K ≤ 140737488355328) (hrd : Rd .i64 w xa len0 xs0) (hcap : len0 ≤ xc) (hnone : xa = none → xc = 0)(hxb : ∀ ad, xa = some ad → ad.block < w.heap.size) (hrdo : Rd .i64 w oa olen ys0) (hoc : olen ≤ oc) (hon : oa = none → oc = 0) (hob : ∀ ad, oa = some ad → ad.block < w.heap.size) :
 Calls Tryd.prog 5 #[.agg #[.slice ca K cc, .slice ra l.length rc], .slice xa len0 xc, .agg #[.int .i64 at0, .int .i64 n0, .slice oa olen oc]] w fun e w' => e = .returned (.bool true) ∧ Below w.heap.size w w' := by
 obtain ⟨m, hm⟩ : ∃ m, m = min K 30 := ⟨_, rfl⟩
 obtain ⟨RN, hRN⟩ : ∃ RN, RN = l.length := ⟨_, rfl⟩
 have HTD : Hid (TabD w) := hT
 obtain ⟨n, hn⟩ : ∃ n : Nat, (n : Int) = min (len0 : Int) 100 := ⟨min len0 100, by omega⟩
 have hmin := min_run len0 n 100 hn
 have hcut0 := cutI xa len0 xc n (by omega)
 obtain ⟨row, hrow⟩ : ∃ row, row = xs0.take n := ⟨_, rfl⟩
 have HRD : Hid (Rd .i64 w xa n row) := by rw [hrow]; exact hrd.take n (by omega)
 have HL : Hid (row.length = n) := HRD.out.1
 have hn30 : (n : Int) ≤ 100 := by omega
 have HNC : Hid (n ≤ xc ∧ (xa = none → xc = 0)) := ⟨by omega, hnone⟩
 clear hrd hcap hrow hn hnone
 have HXB : Hid (∀ ad, xa = some ad → ad.block < w.heap.size) := hxb
 obtain ⟨come, hcm0⟩ : ∃ come : Nat, (come : Int) = min (olen : Int) 20 := ⟨min olen 20, by omega⟩
 have hmin2 := min_run olen come 20 hcm0
 have hcut2 := cutI oa olen oc come (by omega)
 obtain ⟨cls, hclsd⟩ : ∃ cls, cls = ys0.take come := ⟨_, rfl⟩
 have HRO2 : Hid (Rd .i64 w oa come cls ∧ come ≤ 20 ∧ (oa = none → oc = 0) ∧ ∀ ad, oa = some ad → ad.block < w.heap.size) := ⟨by rw [hclsd]; exact hrdo.take come (by omega), by omega, hon, hob⟩
 clear hxb hrdo hoc hon hob hcm0 hclsd
 have HSH : Hid (∀ V : World, Below w.heap.size w V → Calls Tryd.prog 9 #[] V fun e w' => e = .returned (.bool true) ∧ Below V.heap.size V w') := fun V hV => shown11_any V (hT.later hV)
 have HFE : Hid (∀ V : World, Below w.heap.size w V → Calls Tryd.prog 10 #[.agg #[.slice ca K cc, .slice ra RN rc]] V (Few9 D l ca m cc w V)) := fun V hV => by
  rw [hRN]; exact few9_any D K m l ca ra cc rc w V hV hr hl hK hK2 hm
 obtain ⟨H, hH⟩ : ∃ H, H = w.heap.size := ⟨_, rfl⟩
 have HH : Hid (H = w.heap.size) := hH
 obtain ⟨W0, hW0⟩ : ∃ W0, W0 = (w.alloc (.cells #[.slice ca K cc, .slice ra RN rc] 25)).alloc (.cells #[.int .i64 at0, .int .i64 n0, .slice oa olen oc] 39) := ⟨_, rfl⟩
 have HB0 : Hid (Below w.heap.size w W0) := by rw [hW0]; exact ((Below.refl _ w).alloc (Nat.le_refl _) _).alloc (by simp) _
 have HX0 : Hid (W0.heap[H]? = some (.cells #[.slice ca K cc, .slice ra RN rc] 25)) := by show _ = _; rw [hW0, hH, Below.heap_alloc _ _ _ (by simp)]; exact heap_alloc_new w _
 have HO0 : Hid (W0.heap[H + 1]? = some (.cells #[.int .i64 at0, .int .i64 n0, .slice oa olen oc] 39)) := by
  show _ = _
  have h := heap_alloc_new (w.alloc (.cells #[.slice ca K cc, .slice ra RN rc] 25)) (.cells #[.int .i64 at0, .int .i64 n0, .slice oa olen oc] 39)
  rw [← hW0, show (w.alloc (.cells #[.slice ca K cc, .slice ra RN rc] 25)).heap.size = H + 1 by rw [hH]; simp] at h
  exact h
 have hm30 : (m : Int) ≤ 30 := by omega
 rw [← hRN]
 clear hT hr hl hK hK2 hm hRN
 go_enter Tryd.func5, Tryd.ntmps5
 go_upto_region 1 with fail
 rw [← hH, ← hW0]
 clear hH hW0
 go_wp2_with fail
 refine (HSH.out W0 HB0.out).mono ?_
 rintro e w1 ⟨rfl, hb1⟩
 have HB1 : Hid (Below w.heap.size w w1) := HB0.out.trans (hb1.mono HB0.out.size)
 have HX1 : Hid (w1.heap[H]? = some (.cells #[.slice ca K cc, .slice ra RN rc] 25)) := (hb1.block H (Array.getElem?_eq_some_iff.1 HX0.out).1).trans HX0.out
 have HO1 : Hid (w1.heap[H + 1]? = some (.cells #[.int .i64 at0, .int .i64 n0, .slice oa olen oc] 39)) := (hb1.block (H + 1) (Array.getElem?_eq_some_iff.1 HO0.out).1).trans HO0.out
 clear hb1 HX0 HB0 HO0
 obtain ⟨⟨e0, e1⟩, _⟩ := box2 HX1.out
 go_wp2_with fail
 refine (HFE.out w1 HB1.out).mono ?_
 rintro e w2 ⟨hb2, ps, a', c', rfl, h8, hkr, hown⟩
 have HB2 : Hid (Below w.heap.size w w2) := HB1.out.trans (hb2.mono HB1.out.size)
 have hx2 : w2.heap[H]? = some (.cells #[.slice ca K cc, .slice ra RN rc] 25) := (hb2.block H (Array.getElem?_eq_some_iff.1 HX1.out).1).trans HX1.out
 have HO2 : Hid (w2.heap[H + 1]? = some (.cells #[.int .i64 at0, .int .i64 n0, .slice oa olen oc] 39)) := (hb2.block (H + 1) (Array.getElem?_eq_some_iff.1 HO1.out).1).trans HO1.out
 clear HO1
 obtain ⟨rl, hrl⟩ : ∃ rl, rl = ps.map fun x => x.1 := ⟨_, rfl⟩
 obtain ⟨N, hN⟩ : ∃ N, N = ps.length := ⟨_, rfl⟩
 have hNr : N = rl.length := by rw [hN, hrl]; simp
 rw [← hN] at h8 ⊢
 obtain ⟨W3, hW3⟩ : ∃ W3, W3 = (w2.setCell ⟨H, 0, none⟩ (.slice ca m cc)).setCell ⟨H, 1, none⟩ (.slice a' N c') := ⟨_, rfl⟩
 have hg3 : w2.grownBy W3 (some H) := by rw [hW3]; exact grown_all (grown_cell w2 H 0 _) (grown_cell _ H 1 _)
 have HB3 : Hid (Below w.heap.size w W3) := HB2.out.grown hg3 HB2.out.size (fun k hk => by cases hk; exact Nat.le_of_eq HH.out.symm)
 have HX3 : Hid (W3.heap[H]? = some (.cells #[.slice ca m cc, .slice a' N c'] 25)) := by
  show _ = _
  rw [hW3]
  exact heap_setCell_same _ H 1 _ _ _ (heap_setCell_same _ H 0 _ _ _ hx2)
 have HO3 : Hid (W3.heap[H + 1]? = some (.cells #[.int .i64 at0, .int .i64 n0, .slice oa olen oc] 39)) := by
  show _ = _
  rw [hW3]
  exact (Below.heap_setCell _ ⟨H, 1, none⟩ _ (H + 1) (by simp)).trans ((Below.heap_setCell w2 ⟨H, 0, none⟩ _ (H + 1) (by simp)).trans HO2.out)
 have HKR : Hid (KeptR w D l ps) := hkr
 have HPS : Hid (rl = ps.map (fun x => x.1) ∧ N = ps.length) := ⟨hrl, hN⟩
 have HOWN : Hid (W3.ownsRow w1.heap.size 58 8 (.slice a' N c') N (flR ps)) := by
  rw [← hN] at hown; exact hown.kept hg3 (.inr (own_ne hown hx2 (by decide)))
 have hro : RowR W3 D a' rl.length rl := by
  rw [hrl]
  exact kept_row hkr HB3.out (hown.kept hg3 (.inr (own_ne hown hx2 (by decide))))
 have HRO : Hid (RowR W3 D a' rl.length rl ∧ N = rl.length) := ⟨hro, hNr⟩
 obtain ⟨⟨y0, y1⟩, y2, y3⟩ := box2 hx2
 have hN8 : (N : Int) ≤ 8 := by omega
 clear hb2 hkr hown hrl hg3 hro hNr hx2 e0 e1 hN
 go_upto_region 3 with fail
 rw [← hW3]
 clear hW3 y0 y1 y2 y3 HX1 HB1 HB2 h8 HSH HFE HO2
 have HCP : Hid (Calls Tryd.prog 11 #[.agg #[.slice ca m cc, .slice a' N c']] W3 (CmpP m rl W3)) := by
  rw [HRO.out.2]; exact compile_any D m rl ca a' cc c' W3 (HTD.out.later HB3.out) HRO.out.1 (by have := HRO.out.2; omega)
 obtain ⟨⟨e0, e1⟩, _⟩ := box2 HX3.out
 go_wp2_with fail
 refine HCP.out.mono ?_
 rintro e w4 ⟨hb4, hor⟩
 have HB4 : Hid (Below w.heap.size w w4) := HB3.out.trans (hb4.mono HB3.out.size)
 have HO4 : Hid (w4.heap[H + 1]? = some (.cells #[.int .i64 at0, .int .i64 n0, .slice oa olen oc] 39)) := (hb4.block (H + 1) (Array.getElem?_eq_some_iff.1 HO3.out).1).trans HO3.out
 rcases hor with ⟨_, rfl⟩ | ⟨hcm, ⟨rfl, _⟩ | ⟨tb, rfl, htw, hta, hnb1, hnb2⟩⟩
 ·clear hb4 e0 e1
  go_wp2_with fail
  go_ret
  exact ⟨rfl, HB4.out⟩
 ·clear hb4 e0 e1 hcm
  go_wp2_with fail
  go_ret
  exact ⟨rfl, HB4.out⟩
 rw [Int.toNat_natCast] at hta
 have HTA : Hid (∀ V : World, Below w4.heap.size w4 V → TabAt V m rl tb) := fun V hV => hta.later hV
 have HR4 : Hid (N = rl.length) := HRO.out.2
 have HRV : Hid (∀ V : World, Below w4.heap.size w4 V → Rd .i64 V xa n row) := fun V hV => HRD.out.later (HB4.out.trans (hV.mono HB4.out.size))
 clear hb4 htw e0 e1 HCP HRO HX3 HB3 hcm hnb1 hnb2 hmin hcut0 HKR HPS HOWN HO3
 obtain ⟨la, lb, nxA, ouA, nxB, ouB, htq⟩ := hta
 have HTQ : Hid (TabQ w4 m rl tb la lb nxA ouA nxB ouB) := htq
 clear htq
 have HNW : Hid (Calls Tryd.prog 12 #[.pointer (some ⟨tb, 0, none⟩), .slice xa n xc] w4 (NewQ m rl tb nxA nxB row w4)) := new_any m rl tb la lb nxA ouA nxB ouB row n xc xa w4 HTQ.out (HRV.out w4 (Below.refl _ _)) HNC.out.2 (by omega)
 go_wp2_with fail
 refine HNW.out.mono ?_
 rintro e w5 ⟨hb5, hor⟩
 have HB5 : Hid (Below w4.heap.size w4 w5) := hb5
 clear hb5 HNW
 rcases hor with ⟨_, rfl⟩ | ⟨hfr, P, tv, av, bv, rfl, hPl, hx5⟩
 ·go_wp2_with fail
  go_ret
  exact ⟨rfl, HB4.out.trans (HB5.out.mono HB4.out.size)⟩
 have hln : row.length = n := HL.out
 rw [hln] at hx5
 have HX5 : Hid (WinX w5 P tb w4.heap.size row tv av bv (n + 1) (stI nxA row) (n + 1) (stI nxB (row).reverse) (2 * (n : Int))) := hx5
 have HCL : Hid (Cls m row) := fr_cls hfr
 have HT5 : Hid (TabQ w5 m rl tb la lb nxA ouA nxB ouB) := HTQ.out.later HB5.out
 clear hx5 hfr hPl hln
 have HBD : Hid (Calls Tryd.prog 17 #[.pointer (some ⟨P, 0, none⟩)] w5 fun e w' => Below w5.heap.size w5 w' ∧ ∃ g, w5.heap.size ≤ g ∧ e = .returned (.slice (some ⟨g, 0, none⟩) (n + 1) (n + 1)) ∧ w'.heap[g]? = some (.cells (bFun n (bdW rl nxA ouA nxB ouB row)) 4)) := winBnd_any m rl P tb la lb w4.heap.size n nxA ouA nxB ouB row tv av bv _ w5 HX5.out HT5.out HL.out (by omega) (by have := HR4.out; omega) HCL.out
 go_wp2_with fail
 refine HBD.out.mono ?_
 rintro e w6 ⟨hb6, g, hgl, rfl, hg⟩
 have HX6 : Hid (WinX w6 P tb w4.heap.size row tv av bv (n + 1) (stI nxA row) (n + 1) (stI nxB (row).reverse) (2 * (n : Int)) ∧ Below w4.heap.size w4 w6 ∧ w6.heap[g]? = some (.cells (bFun n (bdW rl nxA ouA nxB ouB row)) 4) ∧ ∀ k, OwnW P tv av bv k → k < g) := ⟨HX5.out.keep (chg_below hb6 (fun _ => False)) (fun _ _ h => h), HB5.out.trans (hb6.mono HB5.out.size), hg, fun k hk => by have := (HX5.out.low k hk).2; omega⟩
 clear hb6 hgl hg HBD HX5 HT5
 have HOB : Hid (∀ W, Below w4.heap.size w4 W → W.cell? ⟨H + 1, 0, none⟩ = some (.int .i64 at0) ∧ W.cell? ⟨H + 1, 1, none⟩ = some (.int .i64 n0) ∧ W.cell? ⟨H + 1, 2, none⟩ = some (.slice oa olen oc)) := fun W hW => by
  have h := (hW.block (H + 1) (Array.getElem?_eq_some_iff.1 HO4.out).1).trans HO4.out
  exact ⟨cell_of_row W (H + 1) 0 _ _ _ h, cell_of_row W (H + 1) 1 _ _ _ h, cell_of_row W (H + 1) 2 _ _ _ h⟩
 obtain ⟨o0, o1, o2⟩ := HOB.out w6 HX6.out.2.1
 go_upto_region 12 with fail
 clear hmin2 hcut2 o2
 obtain ⟨ta, tcap, htv, _, _, _, _⟩ := own_rdI HX6.out.1.2.1
 have hP6 : w6.heap[P]? = some (.cells (WCells tb (.slice ta n tcap) av bv (2 * (n : Int))) 72) := by
  have h := HX6.out.1.1
  rw [htv, HL.out] at h
  exact h
 by_cases hrng : rngB n at0 n0 = false
 ·have HSP : Hid (Calls Tryd.prog 13 #[.pointer (some ⟨P, 0, none⟩), .int .i64 at0, .int .i64 n0, .slice oa come oc] w6 fun e w' => e = .returned (.int .i64 3) ∧ Below w6.heap.size w6 w') := splice_far P tb n tcap ta av bv _ _ at0 n0 w6 hP6 (by omega) hrng
  clear htv hP6 hrng
  go_wp2_with fail
  refine HSP.out.mono ?_
  rintro e w7 ⟨rfl, hb7⟩
  have HX7 : Hid (WinX w7 P tb w4.heap.size row tv av bv (n + 1) (stI nxA row) (n + 1) (stI nxB (row).reverse) (2 * (n : Int)) ∧ Below w4.heap.size w4 w7 ∧ w7.heap[g]? = some (.cells (bFun n (bdW rl nxA ouA nxB ouB row)) 4)) := ⟨HX6.out.1.keep (chg_below hb7 (fun _ => False)) (fun _ _ h => h), HX6.out.2.1.trans (hb7.mono HX6.out.2.1.size), (hb7.block g (Array.getElem?_eq_some_iff.1 HX6.out.2.2.1).1).trans HX6.out.2.2.1⟩
  clear hb7 HSP HX6 o0 o1
  have HT7 : Hid (TabQ w7 m rl tb la lb nxA ouA nxB ouB) := HTQ.out.later HX7.out.2.1
  have HBD : Hid (Calls Tryd.prog 17 #[.pointer (some ⟨P, 0, none⟩)] w7 fun e w' => Below w7.heap.size w7 w' ∧ ∃ g, w7.heap.size ≤ g ∧ e = .returned (.slice (some ⟨g, 0, none⟩) (n + 1) (n + 1)) ∧ w'.heap[g]? = some (.cells (bFun n (bdW rl nxA ouA nxB ouB row)) 4)) := winBnd_any m rl P tb la lb w4.heap.size n nxA ouA nxB ouB row tv av bv _ w7 HX7.out.1 HT7.out HL.out (by omega) (by have := HR4.out; omega) HCL.out
  go_wp2_with fail
  refine HBD.out.mono ?_
  rintro e w8 ⟨hb8, g8, hgl8, rfl, hg8⟩
  have HSA : Hid (Calls Tryd.prog 16 #[.slice (some ⟨g8, 0, none⟩) (n + 1) (n + 1), .slice (some ⟨g, 0, none⟩) (n + 1) (n + 1)] w8 fun e w' => e = .returned (.bool true) ∧ Below w8.heap.size w8 w') := by
   have h := sameL_any _ _ _ _ (n + 1) (n + 1) (n + 1) w8 (rdT_fun hg8) (rdT_fun ((hb8.block g (Array.getElem?_eq_some_iff.1 HX7.out.2.2).1).trans HX7.out.2.2)) (by omega)
   rw [decide_eq_true rfl] at h
   exact h
  have HX8 : Hid (WinX w8 P tb w4.heap.size row tv av bv (n + 1) (stI nxA row) (n + 1) (stI nxB (row).reverse) (2 * (n : Int)) ∧ Below w4.heap.size w4 w8) := ⟨HX7.out.1.keep (chg_below hb8 (fun _ => False)) (fun _ _ h => h), HX7.out.2.1.trans (hb8.mono HX7.out.2.1.size)⟩
  clear hb8 hgl8 hg8 HBD HX7 HT7
  go_wp2_with fail
  refine HSA.out.mono ?_
  rintro e w9 ⟨rfl, hb9⟩
  have HX9 : Hid (WinX w9 P tb w4.heap.size row tv av bv (n + 1) (stI nxA row) (n + 1) (stI nxB (row).reverse) (2 * (n : Int)) ∧ Below w4.heap.size w4 w9) := ⟨HX8.out.1.keep (chg_below hb9 (fun _ => False)) (fun _ _ h => h), HX8.out.2.trans (hb9.mono HX8.out.2.size)⟩
  clear hb9 HSA HX8
  obtain ⟨ta, tcap, htv, _, _, hrt, htn⟩ := own_rdI HX9.out.1.2.1
  have HCS : Hid (Calls Tryd.prog 15 #[.pointer (some ⟨P, 0, none⟩)] w9 fun e w' => ∃ v, e = .returned v ∧ w'.ownsRow w9.heap.size 3 1 v row.length (jv row) ∧ Below w9.heap.size w9 w') := classes_any P tb row.length tcap ta _ _ _ row w9 (by rw [← htv]; exact HX9.out.1.1) hrt htn (by have := HL.out; omega)
  clear hrt htn htv
  go_wp2_with fail
  refine HCS.out.mono ?_
  rintro e w10 ⟨v, rfl, ho, hb10⟩
  have HX10 : Hid (Below w4.heap.size w4 w10) := HX9.out.2.trans (hb10.mono HX9.out.2.size)
  obtain ⟨va, vcap, rfl, _, _, hrv, _⟩ := own_rdI ho
  have HNM : Hid (Calls Tryd.prog 19 #[.slice va row.length vcap, .slice xa n xc] w10 fun e w' => e = .returned (.bool true) ∧ ∃ q, w' = w10.drewN q) := by
   have h := numbers_any row row row.length n vcap xc va xa w10 hrv (HRV.out w10 HX10.out) (by have := HL.out; omega) (by omega)
   rw [decide_eq_true rfl] at h
   exact h
  clear hb10 ho hrv HCS HX9
  go_wp2_with fail
  refine HNM.out.mono ?_
  rintro e w11 ⟨rfl, q, hw11⟩
  obtain rfl := hw11
  go_wp2_with fail
  go_ret
  have h := HB4.out.trans (HX10.out.mono HB4.out.size)
  exact ⟨rfl, ⟨h.os, h.tape, h.output, h.size, h.block⟩⟩
 ·have hrg : 0 ≤ at0 ∧ 0 ≤ n0 ∧ at0 + n0 ≤ (n : Int) := by
   have h : rngB n at0 n0 = true := by simpa using hrng
   unfold rngB hasB at h
   simp only [Bool.and_eq_true, decide_eq_true_eq] at h
   omega
  obtain ⟨p, hp⟩ : ∃ p : Nat, at0 = (p : Int) := ⟨at0.toNat, by omega⟩
  obtain ⟨k, hk⟩ : ∃ k : Nat, n0 = (k : Int) := ⟨n0.toNat, by omega⟩
  subst hp hk
  have hpk : p + k ≤ n := by omega
  clear hrng hrg
  have hro6 : Rd .i64 w6 oa come cls := HRO2.out.1.later (HB4.out.trans (HX6.out.2.1.mono HB4.out.size))
  by_cases hst : cls.any (frC m) = true
  ·have HSP : Hid (Calls Tryd.prog 13 #[.pointer (some ⟨P, 0, none⟩), .int .i64 (p : Int), .int .i64 (k : Int), .slice oa come oc] w6 fun e w' => e = .returned (.int .i64 1) ∧ Below w6.heap.size w6 w') := splice_strange m rl P tb n tcap p k come oc ta oa cls av bv _ w6 hP6 (fun W hW => (HTQ.out.later (HX6.out.2.1.trans (hW.mono HX6.out.2.1.size))).at) hpk (by omega) hro6 (by have := HRO2.out.2.1; omega) hst
   clear htv hP6 hst hro6 hpk
   go_wp2_with fail
   refine HSP.out.mono ?_
   rintro e w7 ⟨rfl, hb7⟩
   have HX7 : Hid (WinX w7 P tb w4.heap.size row tv av bv (n + 1) (stI nxA row) (n + 1) (stI nxB (row).reverse) (2 * (n : Int)) ∧ Below w4.heap.size w4 w7 ∧ w7.heap[g]? = some (.cells (bFun n (bdW rl nxA ouA nxB ouB row)) 4)) := ⟨HX6.out.1.keep (chg_below hb7 (fun _ => False)) (fun _ _ h => h), HX6.out.2.1.trans (hb7.mono HX6.out.2.1.size), (hb7.block g (Array.getElem?_eq_some_iff.1 HX6.out.2.2.1).1).trans HX6.out.2.2.1⟩
   clear hb7 HSP HX6 o0 o1
   have HT7 : Hid (TabQ w7 m rl tb la lb nxA ouA nxB ouB) := HTQ.out.later HX7.out.2.1
   have HBD : Hid (Calls Tryd.prog 17 #[.pointer (some ⟨P, 0, none⟩)] w7 fun e w' => Below w7.heap.size w7 w' ∧ ∃ g, w7.heap.size ≤ g ∧ e = .returned (.slice (some ⟨g, 0, none⟩) (n + 1) (n + 1)) ∧ w'.heap[g]? = some (.cells (bFun n (bdW rl nxA ouA nxB ouB row)) 4)) := winBnd_any m rl P tb la lb w4.heap.size n nxA ouA nxB ouB row tv av bv _ w7 HX7.out.1 HT7.out HL.out (by omega) (by have := HR4.out; omega) HCL.out
   go_wp2_with fail
   refine HBD.out.mono ?_
   rintro e w8 ⟨hb8, g8, hgl8, rfl, hg8⟩
   have HSA : Hid (Calls Tryd.prog 16 #[.slice (some ⟨g8, 0, none⟩) (n + 1) (n + 1), .slice (some ⟨g, 0, none⟩) (n + 1) (n + 1)] w8 fun e w' => e = .returned (.bool true) ∧ Below w8.heap.size w8 w') := by
    have h := sameL_any _ _ _ _ (n + 1) (n + 1) (n + 1) w8 (rdT_fun hg8) (rdT_fun ((hb8.block g (Array.getElem?_eq_some_iff.1 HX7.out.2.2).1).trans HX7.out.2.2)) (by omega)
    rw [decide_eq_true rfl] at h
    exact h
   have HX8 : Hid (WinX w8 P tb w4.heap.size row tv av bv (n + 1) (stI nxA row) (n + 1) (stI nxB (row).reverse) (2 * (n : Int)) ∧ Below w4.heap.size w4 w8) := ⟨HX7.out.1.keep (chg_below hb8 (fun _ => False)) (fun _ _ h => h), HX7.out.2.1.trans (hb8.mono HX7.out.2.1.size)⟩
   clear hb8 hgl8 hg8 HBD HX7 HT7
   go_wp2_with fail
   refine HSA.out.mono ?_
   rintro e w9 ⟨rfl, hb9⟩
   have HX9 : Hid (WinX w9 P tb w4.heap.size row tv av bv (n + 1) (stI nxA row) (n + 1) (stI nxB (row).reverse) (2 * (n : Int)) ∧ Below w4.heap.size w4 w9) := ⟨HX8.out.1.keep (chg_below hb9 (fun _ => False)) (fun _ _ h => h), HX8.out.2.trans (hb9.mono HX8.out.2.size)⟩
   clear hb9 HSA HX8
   obtain ⟨ta, tcap, htv, _, _, hrt, htn⟩ := own_rdI HX9.out.1.2.1
   have HCS : Hid (Calls Tryd.prog 15 #[.pointer (some ⟨P, 0, none⟩)] w9 fun e w' => ∃ v, e = .returned v ∧ w'.ownsRow w9.heap.size 3 1 v row.length (jv row) ∧ Below w9.heap.size w9 w') := classes_any P tb row.length tcap ta _ _ _ row w9 (by rw [← htv]; exact HX9.out.1.1) hrt htn (by have := HL.out; omega)
   clear hrt htn htv
   go_wp2_with fail
   refine HCS.out.mono ?_
   rintro e w10 ⟨v, rfl, ho, hb10⟩
   have HX10 : Hid (Below w4.heap.size w4 w10) := HX9.out.2.trans (hb10.mono HX9.out.2.size)
   obtain ⟨va, vcap, rfl, _, _, hrv, _⟩ := own_rdI ho
   have HNM : Hid (Calls Tryd.prog 19 #[.slice va row.length vcap, .slice xa n xc] w10 fun e w' => e = .returned (.bool true) ∧ ∃ q, w' = w10.drewN q) := by
    have h := numbers_any row row row.length n vcap xc va xa w10 hrv (HRV.out w10 HX10.out) (by have := HL.out; omega) (by omega)
    rw [decide_eq_true rfl] at h
    exact h
   clear hb10 ho hrv HCS HX9
   go_wp2_with fail
   refine HNM.out.mono ?_
   rintro e w11 ⟨rfl, q, hw11⟩
   obtain rfl := hw11
   go_wp2_with fail
   go_ret
   have h := HB4.out.trans (HX10.out.mono HB4.out.size)
   exact ⟨rfl, ⟨h.os, h.tape, h.output, h.size, h.block⟩⟩
  ·have hcl : Cls m cls := fr_cls (by simpa using hst)
   have hcc : cls.length = come := hro6.1
   obtain ⟨pk, hpkd⟩ : ∃ pk : Nat, pk = p + k := ⟨_, rfl⟩
   obtain ⟨xb, hcut, hrdb, hblk, hnb⟩ := cutI_mid xa n xc p pk (by omega) (by omega) HNC.out.1
   rw [show pk - p = k by omega] at hcut hrdb
   obtain ⟨row7, hrow7⟩ : ∃ row7, row7 = spl row p k cls := ⟨_, rfl⟩
   obtain ⟨n7, hn7⟩ : ∃ n7, n7 = row7.length := ⟨_, rfl⟩
   have hl7 : n7 = n - k + come := by rw [hn7, hrow7, spl_len row cls p k (by have := HL.out; omega), HL.out, hcc]
   have hback := spl_back row cls p k come (by have := HL.out; omega) hcc
   rw [← hrow7] at hback
   have HSP : Hid (Calls Tryd.prog 13 #[.pointer (some ⟨P, 0, none⟩), .int .i64 (p : Int), .int .i64 (k : Int), .slice oa come oc] w6 fun e w' => e = .returned (.int .i64 0) ∧ ∃ tv' av' bv' tc', WinX w' P tb w4.heap.size row7 tv' av' bv' (n7 + 1) (stI nxA row7) (n7 + 1) (stI nxB (row7).reverse) tc' ∧ Below w4.heap.size w4 w' ∧ w'.heap[g]? = some (.cells (bFun n (bdW rl nxA ouA nxB ouB row)) 4) ∧ ∀ k, OwnW P tv' av' bv' k → k ≠ g) := by
    obtain ⟨x1, x2, x3, x4⟩ := HX6.out
    have hA := HTQ.out.2.2.1
    have hB := HTQ.out.2.2.2.2.2.1
    have hbc : ∀ W, ChgW w6 W (OwnW P tv av bv) → Below w4.heap.size w4 W := fun W hc => below_chg x2 hc (Nat.le_refl _) (Nat.le_refl _) (fun k hk => (x1.low k hk).1)
    have h := splice_ok m rl P tb la lb w4.heap.size nxA ouA nxB ouB row cls p k come n tv av bv _ oa oc w6 x1 (fun W hc => HTQ.out.later (hbc W hc)) HL.out hpk hcc HCL.out hcl hro6 HRO2.out.2.2.1 (fun b off e e2 => by
     have h1 := HRO2.out.2.2.2 _ e
     have h2 := (x1.low b (.inr (.inl e2))).1
     have h3 := HB4.out.size
     have e5 : b = (⟨b, off, none⟩ : Addr).block := rfl
     omega) (by have := HRO2.out.2.1; omega) (fun row i => stR_lt hA row i) (wide_at hA) (fun row i => stR_lt hB row i) (wide_at hB)
    refine Calls.mono h ?_
    rintro e w' ⟨he, tv', av', bv', r1, r2, h1, h2, h3, h4, a1, a2, a3⟩
    rw [← hrow7, ← hn7] at h1
    have hgl : g < w6.heap.size := (Array.getElem?_eq_some_iff.1 x3).1
    refine ⟨he, tv', av', bv', _, h1, hbc w' h4, chg_heap h4 x3 (fun q => by have := x4 g q; omega), ?_⟩
    rintro q (rfl | hq | hq | hq) e
    ·have := x4 _ (.inl e.symm); omega
    ·rcases a1 q hq with r | r
     ·have := x4 q (.inr (.inl r)); omega
     ·omega
    ·rcases a2 q hq with r | r
     ·have := x4 q (.inr (.inr (.inl r))); omega
     ·omega
    ·rcases a3 q hq with r | r
     ·have := x4 q (.inr (.inr (.inr r))); omega
     ·omega
   have HLL : Hid (p + come ≤ n7 ∧ n7 ≤ 120 ∧ row7.length = n7 ∧ Cls m row7 ∧ spl row7 p come ((row.drop p).take k) = row ∧ ((row.drop p).take k).length = k ∧ k ≤ 100) := ⟨by omega, by have := HRO2.out.2.1; omega, hn7.symm, by rw [hrow7]; exact spl_cls HCL.out hcl p k, hback, by have := HL.out; simp; omega, by omega⟩
   have HCB : Hid ((∀ (w : World) (xs : List Int), Rd .i64 w xa n xs → Rd .i64 w xb k ((xs.drop p).take k)) ∧ (∀ ad', xb = some ad' → ∃ ad, xa = some ad ∧ ad'.block = ad.block) ∧ (xb = none → xa = none)) := ⟨hrdb, hblk, hnb⟩
   have hs3 : (p : Int) + (k : Int) = (pk : Int) := by omega
   have hw3 : IntKind.i64.wrap (pk : Int) = (pk : Int) := by rw [IntKind.wrap_i64]; omega
   clear htv hP6 hst hro6 hcl hcc hrow7 hn7 hl7 hback hrdb hblk hnb hpkd hpk
   go_wp2_with fail
   refine HSP.out.mono ?_
   rintro e w7 ⟨rfl, tv7, av7, bv7, tc7, hx7, hb7, hg7, hq7⟩
   have HX7 : Hid (WinX w7 P tb w4.heap.size row7 tv7 av7 bv7 (n7 + 1) (stI nxA row7) (n7 + 1) (stI nxB (row7).reverse) tc7 ∧ Below w4.heap.size w4 w7 ∧ w7.heap[g]? = some (.cells (bFun n (bdW rl nxA ouA nxB ouB row)) 4) ∧ ∀ k, OwnW P tv7 av7 bv7 k → k ≠ g) := ⟨hx7, hb7, hg7, hq7⟩
   clear hx7 hb7 hg7 hq7 HSP HX6 o0 o1
   obtain ⟨o0, o1, _⟩ := HOB.out w7 HX7.out.2.1
   have HSP2 : Hid (∀ q, Calls Tryd.prog 13 #[.pointer (some ⟨P, 0, none⟩), .int .i64 (p : Int), .int .i64 (come : Int), .slice xb k (xc - p)] (w7.drewN q) fun e w' => e = .returned (.int .i64 0) ∧ ∃ tv' av' bv' tc', WinX w' P tb w4.heap.size row tv' av' bv' (n + 1) (stI nxA row) (n + 1) (stI nxB (row).reverse) tc' ∧ Below w4.heap.size w4 w' ∧ w'.heap[g]? = some (.cells (bFun n (bdW rl nxA ouA nxB ouB row)) 4)) := by
    intro q
    obtain ⟨x1, x2, x3, x4⟩ := HX7.out
    have hA := HTQ.out.2.2.1
    have hB := HTQ.out.2.2.2.2.2.1
    have x2' : Below w4.heap.size w4 (w7.drewN q) := ⟨x2.os, x2.tape, x2.output, x2.size, x2.block⟩
    have x1' : WinX (w7.drewN q) P tb w4.heap.size row7 tv7 av7 bv7 (n7 + 1) (stI nxA row7) (n7 + 1) (stI nxB (row7).reverse) tc7 := x1
    have hbc : ∀ W, ChgW (w7.drewN q) W (OwnW P tv7 av7 bv7) → Below w4.heap.size w4 W := fun W hc => below_chg x2' hc (Nat.le_refl _) (Nat.le_refl _) (fun k hk => (x1.low k hk).1)
    have hl2 : Cls m ((row.drop p).take k) := fun c hc => HCL.out c (List.mem_of_mem_drop (List.mem_of_mem_take hc))
    have h := splice_ok m rl P tb la lb w4.heap.size nxA ouA nxB ouB row7 ((row.drop p).take k) p come k n7 tv7 av7 bv7 _ xb (xc - p) (w7.drewN q) x1' (fun W hc => HTQ.out.later (hbc W hc)) HLL.out.2.2.1 HLL.out.1 HLL.out.2.2.2.2.2.1 HLL.out.2.2.2.1 hl2 (HCB.out.1 _ row (HRV.out _ x2')) (fun e => by have := HNC.out.2 (HCB.out.2.2 e); omega) (fun b off e e2 => by
     obtain ⟨ad, e3, e4⟩ := HCB.out.2.1 _ e
     have h1 := HXB.out ad e3
     have h2 := (x1.low b (.inr (.inl e2))).1
     have h3 := HB4.out.size
     have e5 : b = ad.block := e4
     omega) (by have := HLL.out; omega) (fun row i => stR_lt hA row i) (wide_at hA) (fun row i => stR_lt hB row i) (wide_at hB)
    refine Calls.mono h ?_
    rintro e w' ⟨he, tv', av', bv', r1, r2, h1, h2, h3, h4, _⟩
    rw [HLL.out.2.2.2.2.1, HL.out] at h1
    exact ⟨he, tv', av', bv', _, h1, hbc w' h4, chg_heap h4 x3 (fun q => x4 g q rfl)⟩
   go_upto_region 15 with fail
   have HSO : Hid (∀ w', Below w4.heap.size w4 w' → w'.cell? ⟨H + 1, 0, none⟩ = some (.int .i64 (p : Int)) ∧ w'.cell? ⟨H + 1, 1, none⟩ = some (.int .i64 (k : Int))) := fun w' h => ⟨(HOB.out w' h).1, (HOB.out w' h).2.1⟩
   refine wp_region_noPanic ?_
   refine wp_region_held_drew (S := (fun w' => w'.cell? ⟨H + 1, 0, none⟩ = some (.int .i64 (p : Int)) ∧ w'.cell? ⟨H + 1, 1, none⟩ = some (.int .i64 (k : Int)))) (by kernel_rfl) (⟨o0, o1⟩) (fun hHeld => ?_)
   refine wpAnyH_take (i := 0) (v := ?_) rfl (by kernel_rfl) (by kernel_rfl) (by kernel_rfl) (fun _ _ _ h => h) (Or.inl ⟨by rfl, ?_⟩) (by assumption) ?_
   rotate_left
   ·intro W' hSw; obtain ⟨s0, s1⟩ := hSw; go_simp; try with_reducible rfl
   try simp only [Act.put, List.getElem_toArray, List.getElem_cons_succ, List.getElem_cons_zero, List.setIfInBounds_toArray, List.set_cons_zero, List.set_cons_succ]
   refine wpAnyH_take (i := 1) (v := ?_) rfl (by kernel_rfl) (by kernel_rfl) (by kernel_rfl) (fun _ _ _ h => h) (Or.inl ⟨by rfl, ?_⟩) (by assumption) ?_
   rotate_left
   ·intro W' hSw; obtain ⟨s0, s1⟩ := hSw; go_simp; try with_reducible rfl
   try simp only [Act.put, List.getElem_toArray, List.getElem_cons_succ, List.getElem_cons_zero, List.setIfInBounds_toArray, List.set_cons_zero, List.set_cons_succ]
   refine wpAnyH_take (i := 2) (v := ?_) rfl (by kernel_rfl) (by kernel_rfl) (by kernel_rfl) (fun _ _ _ h => h) (Or.inl ⟨by rfl, ?_⟩) (by assumption) ?_
   rotate_left
   ·intro W' hSw; obtain ⟨s0, s1⟩ := hSw; go_simp; try with_reducible rfl
   try simp only [Act.put, List.getElem_toArray, List.getElem_cons_succ, List.getElem_cons_zero, List.setIfInBounds_toArray, List.set_cons_zero, List.set_cons_succ]
   refine wpAnyH_take (i := 3) (v := ?_) rfl (by kernel_rfl) (by kernel_rfl) (by kernel_rfl) (fun _ _ _ h => h) (Or.inl ⟨by rfl, ?_⟩) (by assumption) ?_
   rotate_left
   ·intro W' hSw; obtain ⟨s0, s1⟩ := hSw; go_simp; try with_reducible rfl
   try simp only [Act.put, List.getElem_toArray, List.getElem_cons_succ, List.getElem_cons_zero, List.setIfInBounds_toArray, List.set_cons_zero, List.set_cons_succ]
   refine wpAnyH_take (i := 4) (v := ?_) rfl (by kernel_rfl) (by kernel_rfl) (by kernel_rfl) (fun _ _ _ h => h) (Or.inl ⟨by rfl, ?_⟩) (by assumption) ?_
   rotate_left
   ·intro W' hSw; obtain ⟨s0, s1⟩ := hSw; go_simp; try with_reducible rfl
   try simp only [Act.put, List.getElem_toArray, List.getElem_cons_succ, List.getElem_cons_zero, List.setIfInBounds_toArray, List.set_cons_zero, List.set_cons_succ]
   refine wpAnyH_take (i := 5) (v := ?_) rfl (by kernel_rfl) (by kernel_rfl) (by kernel_rfl) (fun _ _ _ h => h) (Or.inl ⟨by rfl, ?_⟩) (by assumption) ?_
   rotate_left
   ·intro W' hSw; obtain ⟨s0, s1⟩ := hSw; go_simp; try with_reducible rfl
   try simp only [Act.put, List.getElem_toArray, List.getElem_cons_succ, List.getElem_cons_zero, List.setIfInBounds_toArray, List.set_cons_zero, List.set_cons_succ]
   refine wpAnyH_take (i := 6) (v := ?_) rfl (by kernel_rfl) (by kernel_rfl) (by kernel_rfl) (fun _ _ _ h => h) (Or.inl ⟨by rfl, ?_⟩) (by assumption) ?_
   rotate_left
   ·intro W' hSw; obtain ⟨s0, s1⟩ := hSw; go_simp; try with_reducible rfl
   try simp only [Act.put, List.getElem_toArray, List.getElem_cons_succ, List.getElem_cons_zero, List.setIfInBounds_toArray, List.set_cons_zero, List.set_cons_succ]
   refine wpAnyH_take (i := 7) (v := ?_) rfl (by kernel_rfl) (by kernel_rfl) (by kernel_rfl) (fun _ _ _ h => h) (Or.inl ⟨by rfl, ?_⟩) (by assumption) ?_
   rotate_left
   ·intro W' hSw; obtain ⟨s0, s1⟩ := hSw; go_simp; try with_reducible rfl
   try simp only [Act.put, List.getElem_toArray, List.getElem_cons_succ, List.getElem_cons_zero, List.setIfInBounds_toArray, List.set_cons_zero, List.set_cons_succ]
   refine wpAnyH_take (i := 8) (v := ?_) rfl (by kernel_rfl) (by kernel_rfl) (by kernel_rfl) (fun _ _ _ h => h) (Or.inl ⟨by rfl, ?_⟩) (by assumption) ?_
   rotate_left
   ·intro W' hSw; obtain ⟨s0, s1⟩ := hSw; go_simp; try with_reducible rfl
   try simp only [Act.put, List.getElem_toArray, List.getElem_cons_succ, List.getElem_cons_zero, List.setIfInBounds_toArray, List.set_cons_zero, List.set_cons_succ]
   refine wpAnyH_take (i := 9) (v := ?_) rfl (by kernel_rfl) (by kernel_rfl) (by kernel_rfl) (fun _ _ _ h => h) (Or.inl ⟨by rfl, ?_⟩) (by assumption) ?_
   rotate_left
   ·intro W' hSw; obtain ⟨s0, s1⟩ := hSw; go_simp; try with_reducible rfl
   try simp only [Act.put, List.getElem_toArray, List.getElem_cons_succ, List.getElem_cons_zero, List.setIfInBounds_toArray, List.set_cons_zero, List.set_cons_succ]
   refine wpAnyH_take (i := 10) (v := ?_) rfl (by kernel_rfl) (by kernel_rfl) (by kernel_rfl) (fun _ _ _ h => h) (Or.inl ⟨by rfl, ?_⟩) (by assumption) ?_
   rotate_left
   ·intro W' hSw; obtain ⟨s0, s1⟩ := hSw; go_simp; try with_reducible rfl
   try simp only [Act.put, List.getElem_toArray, List.getElem_cons_succ, List.getElem_cons_zero, List.setIfInBounds_toArray, List.set_cons_zero, List.set_cons_succ]
   refine wpAnyH_take (i := 11) (v := ?_) rfl (by kernel_rfl) (by kernel_rfl) (by kernel_rfl) (fun _ _ _ h => h) (Or.inl ⟨by rfl, ?_⟩) (by assumption) ?_
   rotate_left
   ·intro W' hSw; obtain ⟨s0, s1⟩ := hSw; go_simp; try with_reducible rfl
   try simp only [Act.put, List.getElem_toArray, List.getElem_cons_succ, List.getElem_cons_zero, List.setIfInBounds_toArray, List.set_cons_zero, List.set_cons_succ]
   refine wpAnyH_take (i := 12) (v := ?_) rfl (by kernel_rfl) (by kernel_rfl) (by kernel_rfl) (fun _ _ _ h => h) (Or.inl ⟨by rfl, ?_⟩) (by assumption) ?_
   rotate_left
   ·intro W' hSw; obtain ⟨s0, s1⟩ := hSw; go_simp; try with_reducible rfl
   try simp only [Act.put, List.getElem_toArray, List.getElem_cons_succ, List.getElem_cons_zero, List.setIfInBounds_toArray, List.set_cons_zero, List.set_cons_succ]
   refine wpAnyH_take (i := 13) (v := ?_) rfl (by kernel_rfl) (by kernel_rfl) (by kernel_rfl) (fun _ _ _ h => h) (Or.inl ⟨by rfl, ?_⟩) (by assumption) ?_
   rotate_left
   ·intro W' hSw; obtain ⟨s0, s1⟩ := hSw; go_simp; try with_reducible rfl
   try simp only [Act.put, List.getElem_toArray, List.getElem_cons_succ, List.getElem_cons_zero, List.setIfInBounds_toArray, List.set_cons_zero, List.set_cons_succ]
   refine wpAnyH_ready (rs := [14]) (by kernel_rfl) (by simp) ?_
   refine AllReadyH.cons rfl (fun KK hK => ?_) AllReadyH.nil
   go_simp
   refine (HSP2.out 1).mono ?_
   rintro e wv ⟨rfl, tvv, avv, bvv, tcv, hxv, hbv, hgv⟩
   have HXV : Hid (WinX wv P tb w4.heap.size row tvv avv bvv (n + 1) (stI nxA row) (n + 1) (stI nxB (row).reverse) tcv ∧ Below w4.heap.size w4 wv ∧ wv.heap[g]? = some (.cells (bFun n (bdW rl nxA ouA nxB ouB row)) 4)) := ⟨hxv, hbv, hgv⟩
   clear hxv hbv hgv
   refine hK.out _ _ (HSO.out _ HXV.out.2.1) (fun hHeld => ?_)
   clear hK KK
   try simp only [Act.put, List.getElem_toArray, List.getElem_cons_succ, List.getElem_cons_zero, List.setIfInBounds_toArray, List.set_cons_zero, List.set_cons_succ]
   refine wpAnyH_take (i := 15) (v := ?_) rfl (by kernel_rfl) (by kernel_rfl) (by kernel_rfl) (fun _ _ _ h => h) (Or.inl ⟨by rfl, ?_⟩) (by assumption) ?_
   rotate_left
   ·intro W' hSw; obtain ⟨s0, s1⟩ := hSw; go_simp; try with_reducible rfl
   try simp only [Act.put, List.getElem_toArray, List.getElem_cons_succ, List.getElem_cons_zero, List.setIfInBounds_toArray, List.set_cons_zero, List.set_cons_succ]
   refine wpAnyH_done (by kernel_rfl) ?_ _
   refine NoPanic.normal ?_
   clear hHeld
   clear HX7 HSP2 o0 o1 hcut HSO
   have HX7 : Hid (WinX wv P tb w4.heap.size row tvv avv bvv (n + 1) (stI nxA row) (n + 1) (stI nxB (row).reverse) tcv ∧ Below w4.heap.size w4 wv ∧ wv.heap[g]? = some (.cells (bFun n (bdW rl nxA ouA nxB ouB row)) 4)) := HXV.out
   clear HXV
   have HT7 : Hid (TabQ wv m rl tb la lb nxA ouA nxB ouB) := HTQ.out.later HX7.out.2.1
   have HBD : Hid (Calls Tryd.prog 17 #[.pointer (some ⟨P, 0, none⟩)] wv fun e w' => Below wv.heap.size wv w' ∧ ∃ g, wv.heap.size ≤ g ∧ e = .returned (.slice (some ⟨g, 0, none⟩) (n + 1) (n + 1)) ∧ w'.heap[g]? = some (.cells (bFun n (bdW rl nxA ouA nxB ouB row)) 4)) := winBnd_any m rl P tb la lb w4.heap.size n nxA ouA nxB ouB row tvv avv bvv _ wv HX7.out.1 HT7.out HL.out (by omega) (by have := HR4.out; omega) HCL.out
   go_wp2_with fail
   refine HBD.out.mono ?_
   rintro e w8 ⟨hb8, g8, hgl8, rfl, hg8⟩
   have HSA : Hid (Calls Tryd.prog 16 #[.slice (some ⟨g8, 0, none⟩) (n + 1) (n + 1), .slice (some ⟨g, 0, none⟩) (n + 1) (n + 1)] w8 fun e w' => e = .returned (.bool true) ∧ Below w8.heap.size w8 w') := by
    have h := sameL_any _ _ _ _ (n + 1) (n + 1) (n + 1) w8 (rdT_fun hg8) (rdT_fun ((hb8.block g (Array.getElem?_eq_some_iff.1 HX7.out.2.2).1).trans HX7.out.2.2)) (by omega)
    rw [decide_eq_true rfl] at h
    exact h
   have HX8 : Hid (WinX w8 P tb w4.heap.size row tvv avv bvv (n + 1) (stI nxA row) (n + 1) (stI nxB (row).reverse) tcv ∧ Below w4.heap.size w4 w8) := ⟨HX7.out.1.keep (chg_below hb8 (fun _ => False)) (fun _ _ h => h), HX7.out.2.1.trans (hb8.mono HX7.out.2.1.size)⟩
   clear hb8 hgl8 hg8 HBD HX7 HT7
   go_wp2_with fail
   refine HSA.out.mono ?_
   rintro e w9 ⟨rfl, hb9⟩
   have HX9 : Hid (WinX w9 P tb w4.heap.size row tvv avv bvv (n + 1) (stI nxA row) (n + 1) (stI nxB (row).reverse) tcv ∧ Below w4.heap.size w4 w9) := ⟨HX8.out.1.keep (chg_below hb9 (fun _ => False)) (fun _ _ h => h), HX8.out.2.trans (hb9.mono HX8.out.2.size)⟩
   clear hb9 HSA HX8
   obtain ⟨ta, tcap, htv, _, _, hrt, htn⟩ := own_rdI HX9.out.1.2.1
   have HCS : Hid (Calls Tryd.prog 15 #[.pointer (some ⟨P, 0, none⟩)] w9 fun e w' => ∃ v, e = .returned v ∧ w'.ownsRow w9.heap.size 3 1 v row.length (jv row) ∧ Below w9.heap.size w9 w') := classes_any P tb row.length tcap ta _ _ _ row w9 (by rw [← htv]; exact HX9.out.1.1) hrt htn (by have := HL.out; omega)
   clear hrt htn htv
   go_wp2_with fail
   refine HCS.out.mono ?_
   rintro e w10 ⟨v, rfl, ho, hb10⟩
   have HX10 : Hid (Below w4.heap.size w4 w10) := HX9.out.2.trans (hb10.mono HX9.out.2.size)
   obtain ⟨va, vcap, rfl, _, _, hrv, _⟩ := own_rdI ho
   have HNM : Hid (Calls Tryd.prog 19 #[.slice va row.length vcap, .slice xa n xc] w10 fun e w' => e = .returned (.bool true) ∧ ∃ q, w' = w10.drewN q) := by
    have h := numbers_any row row row.length n vcap xc va xa w10 hrv (HRV.out w10 HX10.out) (by have := HL.out; omega) (by omega)
    rw [decide_eq_true rfl] at h
    exact h
   clear hb10 ho hrv HCS HX9
   go_wp2_with fail
   refine HNM.out.mono ?_
   rintro e w11 ⟨rfl, q, hw11⟩
   obtain rfl := hw11
   go_wp2_with fail
   go_ret
   have h := HB4.out.trans (HX10.out.mono HB4.out.size)
   exact ⟨rfl, ⟨h.os, h.tape, h.output, h.size, h.block⟩⟩
end Go.Proofs.YtclogekfdmikpaaDoor
