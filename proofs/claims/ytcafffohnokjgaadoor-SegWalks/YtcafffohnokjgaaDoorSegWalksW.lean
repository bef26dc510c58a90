/- The walk of SegWalks. -/
import Derived.Test.YtcafffohnokjgaaDoorJ28
import Derived.Test.YtcafffohnokjgaaDoorJ27
import Derived.BigQuiet
namespace Go.Proofs.YtcafffohnokjgaaDoor
open Go.RowKit Go.Shelf Go.Maps
set_option linter.unusedVariables false
set_option linter.unusedSimpArgs false

set_option maxRecDepth 100000 in
set_option maxHeartbeats 8000000 in
theorem segWalks_walk (D K : Nat) (l : List Rl) (ca ra : Option Addr) (cc rc : Nat) (xs0 : List Int) (xa : Option Addr) (len0 xc : Nat)  (w : World) (hT : TabD w) (hr : RowR w D ra l.length l) (hl : l.length ≤ 140737488355328) (hK : K ≤ cc) (hK2 : K ≤ 140737488355328) (hrd : Rd .i64 w xa len0 xs0) (hcap : len0 ≤ xc) (hnone : xa = none → xc = 0) :
 Calls Tryd.prog 4 #[.agg #[.slice ca K cc, .slice ra l.length rc], .slice xa len0 xc] w fun e w' => e = .returned (.bool true) ∧ Below w.heap.size w w' := by
 obtain ⟨m, hm⟩ : ∃ m, m = min K 30 := ⟨_, rfl⟩
 obtain ⟨RN, hRN⟩ : ∃ RN, RN = l.length := ⟨_, rfl⟩
 have HTD : Hid (TabD w) := hT
 obtain ⟨n, hn⟩ : ∃ n : Nat, (n : Int) = min (len0 : Int) 30 := ⟨min len0 30, by omega⟩
 have hmin := min_run len0 n 30 hn
 have hcut0 := cutI xa len0 xc n (by omega)
 obtain ⟨row, hrow⟩ : ∃ row, row = xs0.take n := ⟨_, rfl⟩
 have HRD : Hid (Rd .i64 w xa n row) := by rw [hrow]; exact hrd.take n (by omega)
 have HL : Hid (row.length = n) := HRD.out.1
 have hn30 : (n : Int) ≤ 30 := by omega
 have HNC : Hid (n ≤ xc ∧ (xa = none → xc = 0)) := ⟨by omega, hnone⟩
 clear hrd hcap hrow hn hnone
 have HSH : Hid (∀ V : World, Below w.heap.size w V → Calls Tryd.prog 10 #[] V fun e w' => e = .returned (.bool true) ∧ Below V.heap.size V w') := fun V hV => shown10_any V (hT.later hV)
 have HFE : Hid (∀ V : World, Below w.heap.size w V → Calls Tryd.prog 11 #[.agg #[.slice ca K cc, .slice ra RN rc]] V (Few9 D l ca m cc w V)) := fun V hV => by
  rw [hRN]; exact few9_any D K m l ca ra cc rc w V hV hr hl hK hK2 hm
 obtain ⟨H, hH⟩ : ∃ H, H = w.heap.size := ⟨_, rfl⟩
 have HH : Hid (H = w.heap.size) := hH
 obtain ⟨W0, hW0⟩ : ∃ W0, W0 = w.alloc (.cells #[.slice ca K cc, .slice ra RN rc] 25) := ⟨_, rfl⟩
 have HB0 : Hid (Below w.heap.size w W0) := by rw [hW0]; exact (Below.refl _ w).alloc (Nat.le_refl _) _
 have HX0 : Hid (W0.heap[H]? = some (.cells #[.slice ca K cc, .slice ra RN rc] 25)) := by show _ = _; rw [hW0, hH]; exact heap_alloc_new w _
 have hm30 : (m : Int) ≤ 30 := by omega
 rw [← hRN]
 clear hT hr hl hK hK2 hm hRN
 go_enter Tryd.func4, Tryd.ntmps4
 go_upto_region 1 with fail
 rw [← hH, ← hW0]
 clear hH hW0
 go_wp2_with fail
 refine (HSH.out W0 HB0.out).mono ?_
 rintro e w1 ⟨rfl, hb1⟩
 have HB1 : Hid (Below w.heap.size w w1) := HB0.out.trans (hb1.mono HB0.out.size)
 have HX1 : Hid (w1.heap[H]? = some (.cells #[.slice ca K cc, .slice ra RN rc] 25)) := (hb1.block H (Array.getElem?_eq_some_iff.1 HX0.out).1).trans HX0.out
 clear hb1 HX0 HB0
 obtain ⟨⟨e0, e1⟩, _⟩ := box2 HX1.out
 go_wp2_with fail
 refine (HFE.out w1 HB1.out).mono ?_
 rintro e w2 ⟨hb2, ps, a', c', rfl, h8, hkr, hown⟩
 have HB2 : Hid (Below w.heap.size w w2) := HB1.out.trans (hb2.mono HB1.out.size)
 have hx2 : w2.heap[H]? = some (.cells #[.slice ca K cc, .slice ra RN rc] 25) := (hb2.block H (Array.getElem?_eq_some_iff.1 HX1.out).1).trans HX1.out
 obtain ⟨rl, hrl⟩ : ∃ rl, rl = ps.map fun x => x.1 := ⟨_, rfl⟩
 obtain ⟨N, hN⟩ : ∃ N, N = ps.length := ⟨_, rfl⟩
 have hNr : N = rl.length := by rw [hN, hrl]; simp
 rw [← hN] at h8 ⊢
 obtain ⟨W3, hW3⟩ : ∃ W3, W3 = (w2.setCell ⟨H, 0, none⟩ (.slice ca m cc)).setCell ⟨H, 1, none⟩ (.slice a' N c') := ⟨_, rfl⟩
 have hg3 : w2.grownBy W3 (some H) := by rw [hW3]; exact grown_all (grown_cell w2 H 0 _) (grown_cell _ H 1 _)
 have HB3 : Hid (Below w.heap.size w W3) := HB2.out.grown hg3 HB2.out.size (fun k hk => by cases hk; exact Nat.le_of_eq HH.out.symm)
 have HX3 : Hid (W3.heap[H]? = some (.cells #[.slice ca m cc, .slice a' N c'] 25)) := by
  show _ = _
  rw [hW3]
  exact heap_setCell_same _ H 1 _ _ _ (heap_setCell_same _ H 0 _ _ _ hx2)
 have HKR : Hid (KeptR w D l ps) := hkr
 have HPS : Hid (rl = ps.map (fun x => x.1) ∧ N = ps.length) := ⟨hrl, hN⟩
 have HOWN : Hid (W3.ownsRow w1.heap.size 48 8 (.slice a' N c') N (flR ps)) := by
  rw [← hN] at hown; exact hown.kept hg3 (.inr (own_ne hown hx2 (by decide)))
 have hro : RowR W3 D a' rl.length rl := by
  rw [hrl]
  exact kept_row hkr HB3.out (hown.kept hg3 (.inr (own_ne hown hx2 (by decide))))
 have HRO : Hid (RowR W3 D a' rl.length rl ∧ N = rl.length) := ⟨hro, hNr⟩
 obtain ⟨⟨y0, y1⟩, y2, y3⟩ := box2 hx2
 have hN8 : (N : Int) ≤ 8 := by omega
 clear hb2 hkr hown hrl hg3 hro hNr hx2 e0 e1 hN
 go_upto_region 3 with fail
 rw [← hW3]
 clear hW3 y0 y1 y2 y3 HX1 HB1 HB2 h8 HSH HFE
 have HCP : Hid (Calls Tryd.prog 12 #[.agg #[.slice ca m cc, .slice a' N c']] W3 (CmpP m rl W3)) := by
  rw [HRO.out.2]; exact compile_any D m rl ca a' cc c' W3 (HTD.out.later HB3.out) HRO.out.1 (by have := HRO.out.2; omega)
 obtain ⟨⟨e0, e1⟩, _⟩ := box2 HX3.out
 go_wp2_with fail
 refine HCP.out.mono ?_
 rintro e w4 ⟨hb4, hor⟩
 have HB4 : Hid (Below w.heap.size w w4) := HB3.out.trans (hb4.mono HB3.out.size)
 rcases hor with ⟨_, rfl⟩ | ⟨hcm, ⟨rfl, _⟩ | ⟨tb, rfl, htw, hta, hnb1, hnb2⟩⟩
 ·clear hb4 e0 e1
  go_wp2_with fail
  go_ret
  exact ⟨rfl, HB4.out⟩
 ·clear hb4 e0 e1 hcm
  go_wp2_with fail
  go_ret
  exact ⟨rfl, HB4.out⟩
 rw [Int.toNat_natCast] at hta
 have HTA : Hid (∀ V : World, Below w4.heap.size w4 V → TabAt V m rl tb) := fun V hV => hta.later hV
 have HR4 : Hid (N = rl.length) := HRO.out.2
 have HRV : Hid (∀ V : World, Below w4.heap.size w4 V → Rd .i64 V xa n row) := fun V hV => HRD.out.later (HB4.out.trans (hV.mono HB4.out.size))
 clear hb4 htw e0 e1 HCP HRO HX3 HB3 hcm hnb1 hnb2 hta hmin hcut0 HKR HPS HOWN
 have HX5 : Hid (Calls Tryd.prog 18 #[.pointer (some ⟨tb, 0, none⟩), .slice xa n xc] w4 (BdsP m rl n row w4)) := segBounds_any m tb n xc rl row xa w4 (HTA.out w4 (Below.refl _ _)) (by have := HR4.out; omega) (HRV.out w4 (Below.refl _ _)) HNC.out.2 (by omega)
 go_wp2_with fail
 refine HX5.out.mono ?_
 rintro e w5 ⟨hb5, hor⟩
 have HB5 : Hid (Below w4.heap.size w4 w5) := hb5
 clear hb5 HX5
 rcases hor with ⟨_, rfl⟩ | ⟨hcl, nxA, ouA, nxB, ouB, g, rfl, hg, hlA, hlB⟩
 ·go_wp2_with fail
  go_ret
  exact ⟨rfl, HB4.out.trans (HB5.out.mono HB4.out.size)⟩
 obtain ⟨L, hL⟩ : ∃ L, L = allB (brkN rl) rl.length n (ouR nxA ouA row) (ouR nxB ouB row.reverse) := ⟨_, rfl⟩
 rw [← hL] at hg
 have HLB : Hid (L.Pairwise (· < ·) ∧ (0 < n → 0 ∈ L ∧ n ∈ L) ∧ (∀ x, x ∈ L → x ≤ n) ∧ (n = 0 → L = [])) := by
  refine ⟨by rw [hL]; exact allB_sorted _ _ _ _ _, fun h => ⟨by rw [hL]; exact zero_mem h, by rw [hL]; exact end_mem h⟩, fun x hx => by rw [hL] at hx; exact allB_le hx, fun h => by rw [hL]; unfold allB; rw [if_pos h]⟩
 have HLE : Hid (∀ a b c d, LeastOf m (xsL rl) a b → LeastOf m (xsR rl) c d → allB (brkN rl) rl.length n (ouR a b row) (ouR c d row.reverse) = L) := fun a b c d h1 h2 => by
  obtain ⟨rfl, rfl⟩ := least_one h1 hlA
  obtain ⟨rfl, rfl⟩ := least_one h2 hlB
  exact hL.symm
 have HCL : Hid (Cls m row) := hcl
 have HG : Hid (∀ V : World, Below w5.heap.size w5 V → V.heap[g]? = some (.cells (bFun n (fun q => decide (q ∈ L))) 4)) := fun V hV => (hV.block g (Array.getElem?_eq_some_iff.1 hg).1).trans hg
 clear hcl hg hlA hlB hL
 obtain ⟨z, hz⟩ : ∃ z, z = decide (0 < n) := ⟨_, rfl⟩
 have hz1 : decide (0 < n) = z := hz.symm
 have hz2 : decide ((0 : Int) < (n : Int)) = z := by rw [hz]; exact decide_eq_decide.2 (by omega)
 have d0 : w5.cell? ⟨g, 0, none⟩ = some (.bool z) := by
  rw [cell_of_row _ g 0 _ _ _ (HG.out w5 (Below.refl _ _)), bFun_get n _ (by omega), hz]
  rcases Nat.eq_zero_or_pos n with h | h
  ·rw [HLB.out.2.2.2 h, h]; rfl
  ·rw [decide_eq_true (HLB.out.2.1 h).1, decide_eq_true h]
 have d1 : w5.cell? ⟨g, n, none⟩ = some (.bool z) := by
  rw [cell_of_row _ g n _ _ _ (HG.out w5 (Below.refl _ _)), bFun_get n _ (by omega), hz]
  rcases Nat.eq_zero_or_pos n with h | h
  ·rw [HLB.out.2.2.2 h, h]; rfl
  ·rw [decide_eq_true (HLB.out.2.1 h).2, decide_eq_true h]
 have t0 : (z != z) = false := by simp
 have hn0 : (0 : Int) ≤ (n : Int) := by omega
 have hn1 : (n : Int) < (n : Int) + 1 := by omega
 have hn2 : (0 : Int) < (n : Int) + 1 := by omega
 clear hz
 obtain ⟨CB, hCB, hCs, hmk0⟩ := make_b (n + 1) (by omega)
 obtain rfl : CB = bFun n (fun _ => false) := by apply Array.ext'; rw [hCB, bFun_none]
 have hmk : ∀ W : World, (Instr.makeSlice 33 (.int .i64 ((n : Int) + 1)) (.int .i64 ((n : Int) + 1))).run Tryd.prog W = .ok (.slice (some ⟨W.heap.size, 0, none⟩) (n + 1) (n + 1)) (W.alloc (.cells (bFun n (fun _ => false)) 4)) := fun W => by
  have h := hmk0 W
  rw [show ((n + 1 : Nat) : Int) = (n : Int) + 1 by omega] at h
  exact h
 obtain ⟨CA, hCA⟩ : ∃ CA, CA = bFun n (fun _ => false) := ⟨_, rfl⟩
 rw [← hCA] at hmk
 have HQ : Hid (Below w5.heap.size w5 w5) := Below.refl _ w5
 obtain ⟨g1, hg1⟩ : ∃ g, g = w5.heap.size := ⟨_, rfl⟩
 obtain ⟨g2, hg2⟩ : ∃ g, g = g1 + 1 := ⟨_, rfl⟩
 obtain ⟨W6, hW6⟩ : ∃ W6, W6 = (w5.alloc (.cells CA 4)).alloc (.cells CA 4) := ⟨_, rfl⟩
 have HB6 : Hid (Below w5.heap.size w5 W6) := HQ.out.trans (by rw [hW6]; exact (((Below.refl _ w5).alloc (Nat.le_refl _) _).alloc (by simp) _).mono HQ.out.size)
 have HG6 : Hid (W6.heap[g1]? = some (.cells (bFun n (fun _ => false)) 4) ∧ W6.heap[g2]? = some (.cells (bFun n (fun _ => false)) 4)) := by
  rw [hW6, hg2, hg1, hCA]
  exact ⟨(((Below.refl _ _).alloc (Nat.le_refl _) _).block w5.heap.size (by simp)).trans (heap_alloc_new w5 _), new_at2 w5 _ _⟩
 have HGG : Hid (w5.heap.size ≤ g1 ∧ g2 = g1 + 1) := ⟨by rw [hg1]; exact HQ.out.size, hg2⟩
 clear hCB hCs hmk0 hCA HQ
 go_upto_region 14 with fail
 simp only [World.size_alloc, ← hg1, ← hg2]
 rw [← hW6]
 clear hg1 hg2 hW6 hmk d0 d1 t0 hz1 hz2
 have HNX : Hid (∀ (a : Nat) (V : World), a ≤ n → Below w5.heap.size w5 V → Calls Tryd.prog 14 #[.pointer (some ⟨tb, 0, none⟩), .slice xa n xc, .int .i64 (a : Int)] V fun e w' => e = .returned (.tuple #[.int .i64 ((nextL L n a : Nat) : Int), .int .i64 0]) ∧ Below V.heap.size V w') := fun a V ha hV => by
  have hB := HB5.out.trans (hV.mono HB5.out.size)
  refine (segNext_any m tb n xc rl row xa (a : Int) V (HTA.out V hB) (by have := HR4.out; omega) (HRV.out V hB) HNC.out.2 (by omega)).mono ?_
  rintro e w' ⟨hb, hor⟩
  refine ⟨?_, hb⟩
  rcases hor with ⟨h, _⟩ | ⟨_, h, _⟩ | ⟨_, _, _, q1, q2, q3, q4, he, hA, hB⟩
  ·exact absurd HCL.out h
  ·omega
  ·rw [he, HLE.out q1 q2 q3 q4 hA hB]; rfl
 have HPV : Hid (∀ (a : Nat) (V : World), a ≤ n → Below w5.heap.size w5 V → Calls Tryd.prog 15 #[.pointer (some ⟨tb, 0, none⟩), .slice xa n xc, .int .i64 (a : Int)] V fun e w' => e = .returned (.tuple #[.int .i64 ((prevL L n a : Nat) : Int), .int .i64 0]) ∧ Below V.heap.size V w') := fun a V ha hV => by
  have hB := HB5.out.trans (hV.mono HB5.out.size)
  refine (segPrev_any m tb n xc rl row xa (a : Int) V (HTA.out V hB) (by have := HR4.out; omega) (HRV.out V hB) HNC.out.2 (by omega)).mono ?_
  rintro e w' ⟨hb, hor⟩
  refine ⟨?_, hb⟩
  rcases hor with ⟨h, _⟩ | ⟨_, h, _⟩ | ⟨_, _, _, q1, q2, q3, q4, he, hA, hB⟩
  ·exact absurd HCL.out h
  ·omega
  ·rw [he, HLE.out q1 q2 q3 q4 hA hB]; rfl
 go_wp2_with fail
 go_loopw [12] (fun x12 wr => ∃ (a : Nat) (f : Nat → Bool), a ≤ n ∧ x12 = .int .i64 (a : Int) ∧ WkU L a f ∧ wr.heap[g1]? = some (.cells (bFun n f) 4) ∧ wr.heap[g2]? = some (.cells (bFun n (fun _ => false)) 4) ∧ Below w5.heap.size w5 wr) (fun x12 _ => n - (intOf x12).toNat)
 case atStart => exact ⟨0, fun _ => false, by omega, rfl, .inl ⟨rfl, rfl⟩, HG6.out.1, HG6.out.2, HB6.out⟩
 case round =>
  obtain ⟨a, f, han, hx12, hwk, hh1, hh2, hwr⟩ := hrel
  subst hx12
  have HWK : Hid (WkU L a f) := hwk
  have HH1 : Hid (wr.heap[g1]? = some (.cells (bFun n f) 4)) := hh1
  have HH2 : Hid (wr.heap[g2]? = some (.cells (bFun n (fun _ => false)) 4)) := hh2
  have HBW : Hid (Below w5.heap.size w5 wr) := hwr
  clear hwk hh1 hh2 hwr
  by_cases hlt : a < n
  ·obtain ⟨bx, hbx⟩ : ∃ bx, bx = nextL L n a := ⟨_, rfl⟩
   obtain ⟨⟨hab, hbn⟩, hwk2⟩ := wkU_step HLB.out.1 (HLB.out.2.1 (by omega)).1 (HLB.out.2.1 (by omega)).2 hlt HLB.out.2.2.1 HWK.out
   rw [← hbx] at hab hbn hwk2
   have HWK2 : Hid (WkU L bx (fun q => decide (q = bx) || (decide (q = a) || f q))) := hwk2
   have c1 : wr.cell? ⟨g1, a, none⟩ = some (.bool (f a)) := by rw [cell_of_row _ g1 a _ _ _ HH1.out, bFun_get n f (by omega)]
   have c2 : wr.frozen? ⟨g1, a, none⟩ = false := Lib.frozen_of_heap HH1.out a
   obtain ⟨W7, hW7⟩ : ∃ W7, W7 = wr.setCell ⟨g1, a, none⟩ (.bool true) := ⟨_, rfl⟩
   have HB7 : Hid (Below w5.heap.size w5 W7) := by rw [hW7]; exact HBW.out.setCell (p := ⟨g1, a, none⟩) HGG.out.1 _
   have HH7 : Hid (W7.heap[g1]? = some (.cells (bFun n (fun q => decide (q = a) || f q)) 4) ∧ W7.heap[g2]? = some (.cells (bFun n (fun _ => false)) 4)) := by
    rw [hW7]
    refine ⟨by rw [heap_setCell_same wr g1 a _ _ _ HH1.out, bFun_set], (heap_setCell_other wr ⟨g1, a, none⟩ g2 _ (by show g2 ≠ g1; have := HGG.out.2; omega)).trans HH2.out⟩
   have hai : (a : Int) < (n : Int) := by omega
   have ha0 : (0 : Int) ≤ (a : Int) := by omega
   have hai1 : (a : Int) < (n : Int) + 1 := by omega
   have HNB : Hid (Calls Tryd.prog 14 #[.pointer (some ⟨tb, 0, none⟩), .slice xa n xc, .int .i64 (a : Int)] W7 fun e w' => e = .returned (.tuple #[.int .i64 ((bx : Nat) : Int), .int .i64 0]) ∧ Below W7.heap.size W7 w') := by rw [hbx]; exact HNX.out a W7 (by omega) HB7.out
   clear hwk2 hbx
   go_upto_region 17 with fail
   rw [← hW7]
   clear hW7 c1 c2
   go_wp2_with fail
   refine HNB.out.mono ?_
   rintro e w8 ⟨rfl, hb8⟩
   have HB8 : Hid (Below w5.heap.size w5 w8) := HB7.out.trans (hb8.mono HB7.out.size)
   have HH8 : Hid (w8.heap[g1]? = some (.cells (bFun n (fun q => decide (q = a) || f q)) 4) ∧ w8.heap[g2]? = some (.cells (bFun n (fun _ => false)) 4)) := ⟨(hb8.block g1 (Array.getElem?_eq_some_iff.1 HH7.out.1).1).trans HH7.out.1, (hb8.block g2 (Array.getElem?_eq_some_iff.1 HH7.out.2).1).trans HH7.out.2⟩
   clear hb8 HNB HH7 HB7 HH1 HH2
   have g0 : decide ((bx : Int) ≤ (a : Int)) = false := decide_eq_false (by omega)
   have g1' : decide ((n : Int) < (bx : Int)) = false := decide_eq_false (by omega)
   have hbx0 : (0 : Int) ≤ (bx : Int) := by omega
   have hbx1 : (bx : Int) < (n : Int) + 1 := by omega
   have c1 : w8.cell? ⟨g1, bx, none⟩ = some (.bool (decide (bx = a) || f bx)) := by rw [cell_of_row _ g1 bx _ _ _ HH8.out.1, bFun_get n _ (by omega)]
   have c2 : w8.frozen? ⟨g1, bx, none⟩ = false := Lib.frozen_of_heap HH8.out.1 bx
   have HFI : Hid ((w8.setCell ⟨g1, bx, none⟩ (.bool true)).heap[g1]? = some (.cells (bFun n (fun q => decide (q = bx) || (decide (q = a) || f q))) 4) ∧ (w8.setCell ⟨g1, bx, none⟩ (.bool true)).heap[g2]? = some (.cells (bFun n (fun _ => false)) 4) ∧ Below w5.heap.size w5 (w8.setCell ⟨g1, bx, none⟩ (.bool true))) :=
    ⟨by rw [heap_setCell_same w8 g1 bx _ _ _ HH8.out.1, bFun_set], (heap_setCell_other w8 ⟨g1, bx, none⟩ g2 _ (by show g2 ≠ g1; have := HGG.out.2; omega)).trans HH8.out.2, HB8.out.setCell (p := ⟨g1, bx, none⟩) HGG.out.1 _⟩
   go_wp2_with fail
   go_roundw
   case rel => exact ⟨bx, _, by omega, rfl, HWK2.out, HFI.out.1, HFI.out.2.1, HFI.out.2.2⟩
   case measure => simp [intOf]; omega
  ·obtain rfl : a = n := by omega
   have hf := wkU_end HLB.out.2.2.1 HLB.out.2.2.2 HWK.out
   subst hf
   have hai : ¬ (a : Int) < (a : Int) := by omega
   clear HWK HNX
   go_wp2_with fail
   go_loopw [12] (fun x12 wz => ∃ (b : Nat) (f : Nat → Bool), b ≤ a ∧ x12 = .int .i64 (b : Int) ∧ WkD L a b f ∧ wz.heap[g2]? = some (.cells (bFun a f) 4) ∧ wz.heap[g1]? = some (.cells (bFun a (fun q => decide (q ∈ L))) 4) ∧ Below w5.heap.size w5 wz) (fun x12 _ => (intOf x12).toNat)
   case atStart => exact ⟨a, fun _ => false, by omega, rfl, .inl ⟨rfl, rfl⟩, HH2.out, HH1.out, HBW.out⟩
   case round =>
    rename_i wy _
    obtain ⟨b, f, hba, hx12, hwk, hh2, hh1, hwr⟩ := hrel
    subst hx12
    have HWK : Hid (WkD L a b f) := hwk
    have HH1 : Hid (wr.heap[g1]? = some (.cells (bFun a (fun q => decide (q ∈ L))) 4)) := hh1
    have HH2 : Hid (wr.heap[g2]? = some (.cells (bFun a f) 4)) := hh2
    have HBW : Hid (Below w5.heap.size w5 wr) := hwr
    clear hwk hh1 hh2 hwr
    by_cases hlt : 0 < b
    ·obtain ⟨bx, hbx⟩ : ∃ bx, bx = prevL L a b := ⟨_, rfl⟩
     obtain ⟨hab, hbm, hwk2⟩ := wkD_step2 HLB.out.1 (HLB.out.2.1 (by omega)).1 (HLB.out.2.1 (by omega)).2 hlt HLB.out.2.2.1 HWK.out
     rw [← hbx] at hab hbm hwk2
     have HWK2 : Hid (WkD L a bx (metD L bx) ∧ bFun a (fun q => decide (q = bx) || (decide (q = b) || f q)) = bFun a (metD L bx)) := ⟨.inr ⟨hbm, rfl⟩, bFun_ext hwk2⟩
     have c1 : wr.cell? ⟨g2, b, none⟩ = some (.bool (f b)) := by rw [cell_of_row _ g2 b _ _ _ HH2.out, bFun_get a f (by omega)]
     have c2 : wr.frozen? ⟨g2, b, none⟩ = false := Lib.frozen_of_heap HH2.out b
     obtain ⟨W7, hW7⟩ : ∃ W7, W7 = wr.setCell ⟨g2, b, none⟩ (.bool true) := ⟨_, rfl⟩
     have hg25 : w5.heap.size ≤ g2 := by have := HGG.out; omega
     have HG25 : Hid (w5.heap.size ≤ g2) := hg25
     have HB7 : Hid (Below w5.heap.size w5 W7) := by rw [hW7]; exact HBW.out.setCell (p := ⟨g2, b, none⟩) hg25 _
     have HH7 : Hid (W7.heap[g2]? = some (.cells (bFun a (fun q => decide (q = b) || f q)) 4) ∧ W7.heap[g1]? = some (.cells (bFun a (fun q => decide (q ∈ L))) 4)) := by
      rw [hW7]
      refine ⟨by rw [heap_setCell_same wr g2 b _ _ _ HH2.out, bFun_set], (heap_setCell_other wr ⟨g2, b, none⟩ g1 _ (by show g1 ≠ g2; have := HGG.out.2; omega)).trans HH1.out⟩
     have hbi : (0 : Int) < (b : Int) := by omega
     have hb0 : (0 : Int) ≤ (b : Int) := by omega
     have hbi1 : (b : Int) < (a : Int) + 1 := by omega
     have HNB : Hid (Calls Tryd.prog 15 #[.pointer (some ⟨tb, 0, none⟩), .slice xa a xc, .int .i64 (b : Int)] W7 fun e w' => e = .returned (.tuple #[.int .i64 ((bx : Nat) : Int), .int .i64 0]) ∧ Below W7.heap.size W7 w') := by rw [hbx]; exact HPV.out b W7 (by omega) HB7.out
     clear hwk2 hbx hg25 hbm
     go_upto_region 24 with fail
     rw [← hW7]
     clear hW7 c1 c2
     go_wp2_with fail
     refine HNB.out.mono ?_
     rintro e w8 ⟨rfl, hb8⟩
     have HB8 : Hid (Below w5.heap.size w5 w8) := HB7.out.trans (hb8.mono HB7.out.size)
     have HH8 : Hid (w8.heap[g2]? = some (.cells (bFun a (fun q => decide (q = b) || f q)) 4) ∧ w8.heap[g1]? = some (.cells (bFun a (fun q => decide (q ∈ L))) 4)) := ⟨(hb8.block g2 (Array.getElem?_eq_some_iff.1 HH7.out.1).1).trans HH7.out.1, (hb8.block g1 (Array.getElem?_eq_some_iff.1 HH7.out.2).1).trans HH7.out.2⟩
     clear hb8 HNB HH7 HB7 HH1 HH2
     have g0 : decide ((b : Int) ≤ (bx : Int)) = false := decide_eq_false (by omega)
     have g1' : decide ((bx : Int) < 0) = false := decide_eq_false (by omega)
     have hbx0 : (0 : Int) ≤ (bx : Int) := by omega
     have hbx1 : (bx : Int) < (a : Int) + 1 := by omega
     have c1 : w8.cell? ⟨g2, bx, none⟩ = some (.bool (decide (bx = b) || f bx)) := by rw [cell_of_row _ g2 bx _ _ _ HH8.out.1, bFun_get a _ (by omega)]
     have c2 : w8.frozen? ⟨g2, bx, none⟩ = false := Lib.frozen_of_heap HH8.out.1 bx
     have HFI : Hid ((w8.setCell ⟨g2, bx, none⟩ (.bool true)).heap[g2]? = some (.cells (bFun a (metD L bx)) 4) ∧ (w8.setCell ⟨g2, bx, none⟩ (.bool true)).heap[g1]? = some (.cells (bFun a (fun q => decide (q ∈ L))) 4) ∧ Below w5.heap.size w5 (w8.setCell ⟨g2, bx, none⟩ (.bool true))) :=
      ⟨by rw [heap_setCell_same w8 g2 bx _ _ _ HH8.out.1, bFun_set, HWK2.out.2], (heap_setCell_other w8 ⟨g2, bx, none⟩ g1 _ (by show g1 ≠ g2; have := HGG.out.2; omega)).trans HH8.out.2, HB8.out.setCell (p := ⟨g2, bx, none⟩) HG25.out _⟩
     go_wp2_with fail
     go_roundw
     case rel => exact ⟨bx, _, by omega, rfl, HWK2.out.1, HFI.out.1, HFI.out.2.1, HFI.out.2.2⟩
     case measure => simp [intOf]; omega
    ·obtain rfl : b = 0 := by omega
     have hf := wkD_end HLB.out.2.2.2 HWK.out
     subst hf
     have HSA : Hid (∀ V : World, Below wr.heap.size wr V → Calls Tryd.prog 19 #[.slice (some ⟨g1, 0, none⟩) (a + 1) (a + 1), .slice (some ⟨g, 0, none⟩) (a + 1) (a + 1)] V fun e w' => e = .returned (.bool true) ∧ Below V.heap.size V w') := fun V hV => by
      have h := sameL_any ((List.range (a + 1)).map fun q => decide (q ∈ L)) ((List.range (a + 1)).map fun q => decide (q ∈ L)) (some ⟨g1, 0, none⟩) (some ⟨g, 0, none⟩) (a + 1) (a + 1) (a + 1) V (rdT_fun ((hV.block _ (Array.getElem?_eq_some_iff.1 HH1.out).1).trans HH1.out)) (rdT_fun (HG.out _ (HBW.out.trans (hV.mono HBW.out.size)))) (by omega)
      simpa using h
     have HSB : Hid (∀ V : World, Below wr.heap.size wr V → Calls Tryd.prog 19 #[.slice (some ⟨g2, 0, none⟩) (a + 1) (a + 1), .slice (some ⟨g, 0, none⟩) (a + 1) (a + 1)] V fun e w' => e = .returned (.bool true) ∧ Below V.heap.size V w') := fun V hV => by
      have h := sameL_any ((List.range (a + 1)).map fun q => decide (q ∈ L)) ((List.range (a + 1)).map fun q => decide (q ∈ L)) (some ⟨g2, 0, none⟩) (some ⟨g, 0, none⟩) (a + 1) (a + 1) (a + 1) V (rdT_fun ((hV.block _ (Array.getElem?_eq_some_iff.1 HH2.out).1).trans HH2.out)) (rdT_fun (HG.out _ (HBW.out.trans (hV.mono HBW.out.size)))) (by omega)
      simpa using h
     clear HWK HPV
     go_wp2_with fail
     refine (HSA.out wr (Below.refl _ _)).mono ?_
     rintro e wA ⟨rfl, hbA⟩
     have HBA : Hid (Below wr.heap.size wr wA) := hbA
     clear hbA
     go_wp2_with fail
     refine (HSB.out wA HBA.out).mono ?_
     rintro e wB ⟨rfl, hbB⟩
     have HBB : Hid (Below w5.heap.size w5 wB) := HBW.out.trans ((HBA.out.trans (hbB.mono HBA.out.size)).mono HBW.out.size)
     clear hbB
     go_wp2_with fail
     go_ret
     exact ⟨rfl, HB4.out.trans ((HB5.out.trans (HBB.out.mono HB5.out.size)).mono HB4.out.size)⟩
end Go.Proofs.YtcafffohnokjgaaDoor
