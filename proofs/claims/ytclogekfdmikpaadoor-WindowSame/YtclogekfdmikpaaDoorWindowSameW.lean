/- The walk of WindowSame. -/
import Derived.Test.YtclogekfdmikpaaDoorJ40
import Derived.Test.YtclogekfdmikpaaDoorJ38
import Derived.Test.YtclogekfdmikpaaDoorJ39
import Derived.BigQuiet
namespace Go.Proofs.YtclogekfdmikpaaDoor
open Go.RowKit Go.Shelf Go.Maps
set_option linter.unusedVariables false
set_option linter.unusedSimpArgs false

set_option maxRecDepth 100000 in
set_option maxHeartbeats 8000000 in
theorem windowSame_walk (D K : Nat) (l : List Rl) (ca ra : Option Addr) (cc rc : Nat) (xs0 : List Int) (xa : Option Addr) (len0 xc : Nat) (at0 n0 : Int) (w : World) (hT : TabD w) (hr : RowR w D ra l.length l) (hl : l.length ≤ 140737488355328) (hK : K ≤ cc) (hK2 : K ≤ 140737488355328) (hrd : Rd .i64 w xa len0 xs0) (hcap : len0 ≤ xc) (hnone : xa = none → xc = 0)(hxb : ∀ ad, xa = some ad → ad.block < w.heap.size) :
 Calls Tryd.prog 4 #[.agg #[.slice ca K cc, .slice ra l.length rc], .slice xa len0 xc, .int .i64 at0, .int .i64 n0] w fun e w' => e = .returned (.bool true) ∧ Below w.heap.size w w' := by
 obtain ⟨m, hm⟩ : ∃ m, m = min K 30 := ⟨_, rfl⟩
 obtain ⟨RN, hRN⟩ : ∃ RN, RN = l.length := ⟨_, rfl⟩
 have HTD : Hid (TabD w) := hT
 obtain ⟨n, hn⟩ : ∃ n : Nat, (n : Int) = min (len0 : Int) 100 := ⟨min len0 100, by omega⟩
 have hmin := min_run len0 n 100 hn
 have hcut0 := cutI xa len0 xc n (by omega)
 obtain ⟨row, hrow⟩ : ∃ row, row = xs0.take n := ⟨_, rfl⟩
 have HRD : Hid (Rd .i64 w xa n row) := by rw [hrow]; exact hrd.take n (by omega)
 have HL : Hid (row.length = n) := HRD.out.1
 have hn30 : (n : Int) ≤ 100 := by omega
 have HNC : Hid (n ≤ xc ∧ (xa = none → xc = 0)) := ⟨by omega, hnone⟩
 clear hrd hcap hrow hn hnone
 have HXB : Hid (∀ ad, xa = some ad → ad.block < w.heap.size) := hxb
 clear hxb
 have HSH : Hid (∀ V : World, Below w.heap.size w V → Calls Tryd.prog 9 #[] V fun e w' => e = .returned (.bool true) ∧ Below V.heap.size V w') := fun V hV => shown11_any V (hT.later hV)
 have HFE : Hid (∀ V : World, Below w.heap.size w V → Calls Tryd.prog 10 #[.agg #[.slice ca K cc, .slice ra RN rc]] V (Few9 D l ca m cc w V)) := fun V hV => by
  rw [hRN]; exact few9_any D K m l ca ra cc rc w V hV hr hl hK hK2 hm
 obtain ⟨H, hH⟩ : ∃ H, H = w.heap.size := ⟨_, rfl⟩
 have HH : Hid (H = w.heap.size) := hH
 obtain ⟨W0, hW0⟩ : ∃ W0, W0 = w.alloc (.cells #[.slice ca K cc, .slice ra RN rc] 25) := ⟨_, rfl⟩
 have HB0 : Hid (Below w.heap.size w W0) := by rw [hW0]; exact (Below.refl _ w).alloc (Nat.le_refl _) _
 have HX0 : Hid (W0.heap[H]? = some (.cells #[.slice ca K cc, .slice ra RN rc] 25)) := by show _ = _; rw [hW0, hH]; exact heap_alloc_new w _
 have hm30 : (m : Int) ≤ 30 := by omega
 rw [← hRN]
 clear hT hr hl hK hK2 hm hRN
 go_enter Tryd.func4, Tryd.ntmps4
 go_upto_region 1 with fail
 rw [← hH, ← hW0]
 clear hH hW0
 go_wp2_with fail
 refine (HSH.out W0 HB0.out).mono ?_
 rintro e w1 ⟨rfl, hb1⟩
 have HB1 : Hid (Below w.heap.size w w1) := HB0.out.trans (hb1.mono HB0.out.size)
 have HX1 : Hid (w1.heap[H]? = some (.cells #[.slice ca K cc, .slice ra RN rc] 25)) := (hb1.block H (Array.getElem?_eq_some_iff.1 HX0.out).1).trans HX0.out
 clear hb1 HX0 HB0
 obtain ⟨⟨e0, e1⟩, _⟩ := box2 HX1.out
 go_wp2_with fail
 refine (HFE.out w1 HB1.out).mono ?_
 rintro e w2 ⟨hb2, ps, a', c', rfl, h8, hkr, hown⟩
 have HB2 : Hid (Below w.heap.size w w2) := HB1.out.trans (hb2.mono HB1.out.size)
 have hx2 : w2.heap[H]? = some (.cells #[.slice ca K cc, .slice ra RN rc] 25) := (hb2.block H (Array.getElem?_eq_some_iff.1 HX1.out).1).trans HX1.out
 obtain ⟨rl, hrl⟩ : ∃ rl, rl = ps.map fun x => x.1 := ⟨_, rfl⟩
 obtain ⟨N, hN⟩ : ∃ N, N = ps.length := ⟨_, rfl⟩
 have hNr : N = rl.length := by rw [hN, hrl]; simp
 rw [← hN] at h8 ⊢
 obtain ⟨W3, hW3⟩ : ∃ W3, W3 = (w2.setCell ⟨H, 0, none⟩ (.slice ca m cc)).setCell ⟨H, 1, none⟩ (.slice a' N c') := ⟨_, rfl⟩
 have hg3 : w2.grownBy W3 (some H) := by rw [hW3]; exact grown_all (grown_cell w2 H 0 _) (grown_cell _ H 1 _)
 have HB3 : Hid (Below w.heap.size w W3) := HB2.out.grown hg3 HB2.out.size (fun k hk => by cases hk; exact Nat.le_of_eq HH.out.symm)
 have HX3 : Hid (W3.heap[H]? = some (.cells #[.slice ca m cc, .slice a' N c'] 25)) := by
  show _ = _
  rw [hW3]
  exact heap_setCell_same _ H 1 _ _ _ (heap_setCell_same _ H 0 _ _ _ hx2)
 have HKR : Hid (KeptR w D l ps) := hkr
 have HPS : Hid (rl = ps.map (fun x => x.1) ∧ N = ps.length) := ⟨hrl, hN⟩
 have HOWN : Hid (W3.ownsRow w1.heap.size 58 8 (.slice a' N c') N (flR ps)) := by
  rw [← hN] at hown; exact hown.kept hg3 (.inr (own_ne hown hx2 (by decide)))
 have hro : RowR W3 D a' rl.length rl := by
  rw [hrl]
  exact kept_row hkr HB3.out (hown.kept hg3 (.inr (own_ne hown hx2 (by decide))))
 have HRO : Hid (RowR W3 D a' rl.length rl ∧ N = rl.length) := ⟨hro, hNr⟩
 obtain ⟨⟨y0, y1⟩, y2, y3⟩ := box2 hx2
 have hN8 : (N : Int) ≤ 8 := by omega
 clear hb2 hkr hown hrl hg3 hro hNr hx2 e0 e1 hN
 go_upto_region 3 with fail
 rw [← hW3]
 clear hW3 y0 y1 y2 y3 HX1 HB1 HB2 h8 HSH HFE
 have HCP : Hid (Calls Tryd.prog 11 #[.agg #[.slice ca m cc, .slice a' N c']] W3 (CmpP m rl W3)) := by
  rw [HRO.out.2]; exact compile_any D m rl ca a' cc c' W3 (HTD.out.later HB3.out) HRO.out.1 (by have := HRO.out.2; omega)
 obtain ⟨⟨e0, e1⟩, _⟩ := box2 HX3.out
 go_wp2_with fail
 refine HCP.out.mono ?_
 rintro e w4 ⟨hb4, hor⟩
 have HB4 : Hid (Below w.heap.size w w4) := HB3.out.trans (hb4.mono HB3.out.size)
 rcases hor with ⟨_, rfl⟩ | ⟨hcm, ⟨rfl, _⟩ | ⟨tb, rfl, htw, hta, hnb1, hnb2⟩⟩
 ·clear hb4 e0 e1
  go_wp2_with fail
  go_ret
  exact ⟨rfl, HB4.out⟩
 ·clear hb4 e0 e1 hcm
  go_wp2_with fail
  go_ret
  exact ⟨rfl, HB4.out⟩
 rw [Int.toNat_natCast] at hta
 have HTA : Hid (∀ V : World, Below w4.heap.size w4 V → TabAt V m rl tb) := fun V hV => hta.later hV
 have HR4 : Hid (N = rl.length) := HRO.out.2
 have HRV : Hid (∀ V : World, Below w4.heap.size w4 V → Rd .i64 V xa n row) := fun V hV => HRD.out.later (HB4.out.trans (hV.mono HB4.out.size))
 clear hb4 htw e0 e1 HCP HRO HX3 HB3 hcm hnb1 hnb2 hmin hcut0 HKR HPS HOWN
 obtain ⟨la, lb, nxA, ouA, nxB, ouB, htq⟩ := hta
 have HTQ : Hid (TabQ w4 m rl tb la lb nxA ouA nxB ouB) := htq
 clear htq
 have HNW : Hid (Calls Tryd.prog 12 #[.pointer (some ⟨tb, 0, none⟩), .slice xa n xc] w4 (NewQ m rl tb nxA nxB row w4)) := new_any m rl tb la lb nxA ouA nxB ouB row n xc xa w4 HTQ.out (HRV.out w4 (Below.refl _ _)) HNC.out.2 (by omega)
 go_wp2_with fail
 refine HNW.out.mono ?_
 rintro e w5 ⟨hb5, hor⟩
 have HB5 : Hid (Below w4.heap.size w4 w5) := hb5
 clear hb5 HNW
 rcases hor with ⟨_, rfl⟩ | ⟨hfr, P, tv, av, bv, rfl, hPl, hx5⟩
 ·go_wp2_with fail
  go_ret
  exact ⟨rfl, HB4.out.trans (HB5.out.mono HB4.out.size)⟩
 have hln : row.length = n := HL.out
 rw [hln] at hx5
 have HX5 : Hid (WinX w5 P tb w4.heap.size row tv av bv (n + 1) (stI nxA row) (n + 1) (stI nxB row.reverse) (2 * (n : Int))) := hx5
 have HCL : Hid (Cls m row) := fr_cls hfr
 have HT5 : Hid (TabQ w5 m rl tb la lb nxA ouA nxB ouB) := HTQ.out.later HB5.out
 clear hx5 hfr hPl hln
 have HBD : Hid (Calls Tryd.prog 17 #[.pointer (some ⟨P, 0, none⟩)] w5 fun e w' => Below w5.heap.size w5 w' ∧ ∃ g, w5.heap.size ≤ g ∧ e = .returned (.slice (some ⟨g, 0, none⟩) (n + 1) (n + 1)) ∧ w'.heap[g]? = some (.cells (bFun n (bdW rl nxA ouA nxB ouB row)) 4)) := winBnd_any m rl P tb la lb w4.heap.size n nxA ouA nxB ouB row tv av bv _ w5 HX5.out HT5.out HL.out (by omega) (by have := HR4.out; omega) HCL.out
 go_wp2_with fail
 refine HBD.out.mono ?_
 rintro e w6 ⟨hb6, g, hgl, rfl, hg⟩
 have HX6 : Hid (WinX w6 P tb w4.heap.size row tv av bv (n + 1) (stI nxA row) (n + 1) (stI nxB row.reverse) (2 * (n : Int)) ∧ Below w4.heap.size w4 w6 ∧ w6.heap[g]? = some (.cells (bFun n (bdW rl nxA ouA nxB ouB row)) 4) ∧ ∀ k, OwnW P tv av bv k → k < g) := ⟨HX5.out.keep (chg_below hb6 (fun _ => False)) (fun _ _ h => h), HB5.out.trans (hb6.mono HB5.out.size), hg, fun k hk => by have := (HX5.out.low k hk).2; omega⟩
 clear hb6 hgl hg HBD HX5 HT5
 have HTC : Hid (Calls Tryd.prog 18 #[.pointer (some ⟨P, 0, none⟩)] w6 fun e w' => e = .returned (.int .i64 (2 * (n : Int))) ∧ w' = w6) := touched_any w6 P tb _ _ _ _ HX6.out.1.1
 go_wp2_with fail
 refine HTC.out.mono ?_
 rintro e w' ⟨rfl, hw'⟩
 obtain rfl := hw'.symm
 clear hw' HTC
 obtain ⟨A, hA⟩ : ∃ A : Nat, bits .and .i64 at0 65535 = (A : Int) := ⟨(at0 % 65536).toNat, by rw [and_low at0 65535 16 (by omega) (by decide)]; omega⟩
 obtain ⟨C, hC⟩ : ∃ C : Nat, bits .and .i64 n0 65535 = (C : Int) := ⟨(n0 % 65536).toNat, by rw [and_low n0 65535 16 (by omega) (by decide)]; omega⟩
 obtain ⟨p, hp⟩ : ∃ p : Nat, p = A % (n + 1) := ⟨_, rfl⟩
 have hpn : p ≤ n := by have := Nat.mod_lt A (show 0 < n + 1 by omega); omega
 have hpE : (A : Int) % ((n : Int) + 1) = (p : Int) := by rw [hp]; simp
 go_upto_region 13 with fail
 rw [hpE]
 obtain ⟨np, hnp⟩ : ∃ np : Nat, np = n - p := ⟨_, rfl⟩
 have hs1 : (n : Int) - (p : Int) = (np : Int) := by omega
 have hws : IntKind.i64.wrap (np : Int) = (np : Int) := by rw [IntKind.wrap_i64]; omega
 have hwt : IntKind.i64.wrap ((np : Int) + 1) = (np : Int) + 1 := by rw [IntKind.wrap_i64]; omega
 have hnp1 : (0 : Int) < (np : Int) + 1 := by omega
 obtain ⟨k, hk⟩ : ∃ k : Nat, k = C % (np + 1) := ⟨_, rfl⟩
 have hkn : p + k ≤ n := by have := Nat.mod_lt C (show 0 < np + 1 by omega); omega
 have hkE : (C : Int) % ((np : Int) + 1) = (k : Int) := by rw [hk]; simp
 have hnpl : np ≤ 100 := by omega
 have HPK : Hid (p + k ≤ n ∧ n ≤ 100) := ⟨hkn, by omega⟩
 clear hA hpE hp hnp hk
 go_upto_region 14 with fail
 rw [hkE]
 clear hkE hC hs1 hws hwt hnp1
 obtain ⟨pk, hpk⟩ : ∃ pk : Nat, pk = p + k := ⟨_, rfl⟩
 have hs3 : (p : Int) + (k : Int) = (pk : Int) := by omega
 have hw3 : IntKind.i64.wrap (pk : Int) = (pk : Int) := by rw [IntKind.wrap_i64]; omega
 obtain ⟨xb, hcut, hrdb, hblk, hnb⟩ := cutI_mid xa n xc p pk (by omega) (by omega) HNC.out.1
 rw [show pk - p = k by omega] at hcut hrdb
 obtain ⟨cls, hcls⟩ : ∃ cls, cls = (row.drop p).take k := ⟨_, rfl⟩
 have HSM : Hid (spl row p k cls = row ∧ cls.length = k) := ⟨by rw [hcls]; exact spl_same row p k, by rw [hcls]; have := HL.out; simp; omega⟩
 have HSP : Hid (Calls Tryd.prog 13 #[.pointer (some ⟨P, 0, none⟩), .int .i64 (p : Int), .int .i64 (k : Int), .slice xb k (xc - p)] w6 fun e w' => e = .returned (.int .i64 0) ∧ ∃ tv' av' bv', WinX w' P tb w4.heap.size row tv' av' bv' (n + 1) (stI nxA row) (n + 1) (stI nxB row.reverse) (2 * (k : Int)) ∧ Below w4.heap.size w4 w' ∧ w'.heap[g]? = some (.cells (bFun n (bdW rl nxA ouA nxB ouB row)) 4)) := by
  obtain ⟨x1, x2, x3, x4⟩ := HX6.out
  have hA := HTQ.out.2.2.1
  have hB := HTQ.out.2.2.2.2.2.1
  have hbc : ∀ W, ChgW w6 W (OwnW P tv av bv) → Below w4.heap.size w4 W := fun W hc => below_chg x2 hc (Nat.le_refl _) (Nat.le_refl _) (fun k hk => (x1.low k hk).1)
  have hcl2 : Cls m cls := fun c hc => HCL.out c (by rw [hcls] at hc; exact List.mem_of_mem_drop (List.mem_of_mem_take hc))
  have h := splice_ok m rl P tb la lb w4.heap.size nxA ouA nxB ouB row cls p k k n tv av bv _ xb (xc - p) w6 x1 (fun W hc => HTQ.out.later (hbc W hc)) HL.out (by omega) HSM.out.2 HCL.out hcl2 (by rw [hcls]; exact hrdb w6 row (HRV.out w6 x2)) (fun e => by have := HNC.out.2 (hnb e); omega) (fun b off e e2 => by
   obtain ⟨ad, e3, e4⟩ := hblk _ e
   have h1 := HXB.out ad e3
   have h2 := (x1.low b (.inr (.inl e2))).1
   have h3 := HB4.out.size
   have e5 : b = ad.block := e4
   omega) (by omega) (fun row i => stR_lt hA row i) (wide_at hA) (fun row i => stR_lt hB row i) (wide_at hB)
  refine Calls.mono h ?_
  rintro e w' ⟨he, tv', av', bv', r1, r2, h1, h2, h3, h4, _⟩
  refine ⟨he, tv', av', bv', ?_, hbc w' h4, chg_heap h4 x3 (fun q => by have := x4 g q; omega)⟩
  have hl := HL.out
  have e1 := rdN_same _ _ _ _ _ _ HSM.out.1 HSM.out.2 h2
  have e2 := rdN_same nxB row.reverse cls.reverse (row.length - p - k) k r2 (by rw [← spl_rev row cls p k (by omega), HSM.out.1]) (by rw [List.length_reverse]; exact HSM.out.2) h3
  rw [e1, e2, HSM.out.1, HSM.out.2, hl] at h1
  simpa using h1
 clear hpk
 go_wp2_with fail
 refine HSP.out.mono ?_
 rintro e w7 ⟨rfl, tv7, av7, bv7, hx7, hb7, hg7⟩
 have HX7 : Hid (WinX w7 P tb w4.heap.size row tv7 av7 bv7 (n + 1) (stI nxA row) (n + 1) (stI nxB row.reverse) (2 * (k : Int)) ∧ Below w4.heap.size w4 w7 ∧ w7.heap[g]? = some (.cells (bFun n (bdW rl nxA ouA nxB ouB row)) 4)) := ⟨hx7, hb7, hg7⟩
 clear hx7 hb7 hg7 HSP HX6 hcut hrdb hblk hnb hcls hs3 hw3
 have HT7 : Hid (TabQ w7 m rl tb la lb nxA ouA nxB ouB) := HTQ.out.later HX7.out.2.1
 have HTC : Hid (Calls Tryd.prog 18 #[.pointer (some ⟨P, 0, none⟩)] w7 fun e w' => e = .returned (.int .i64 (2 * (k : Int))) ∧ w' = w7) := touched_any w7 P tb _ _ _ _ HX7.out.1.1
 have HBD : Hid (Calls Tryd.prog 17 #[.pointer (some ⟨P, 0, none⟩)] w7 fun e w' => Below w7.heap.size w7 w' ∧ ∃ g, w7.heap.size ≤ g ∧ e = .returned (.slice (some ⟨g, 0, none⟩) (n + 1) (n + 1)) ∧ w'.heap[g]? = some (.cells (bFun n (bdW rl nxA ouA nxB ouB row)) 4)) := winBnd_any m rl P tb la lb w4.heap.size n nxA ouA nxB ouB row tv7 av7 bv7 _ w7 HX7.out.1 HT7.out HL.out (by omega) (by have := HR4.out; omega) HCL.out
 have hm1 : IntKind.i64.wrap (2 * (n : Int)) = 2 * (n : Int) := by rw [IntKind.wrap_i64]; omega
 have hkl : k ≤ 100 := by have := HPK.out; omega
 have hm2 : IntKind.i64.wrap (2 * (k : Int)) = 2 * (k : Int) := by rw [IntKind.wrap_i64]; omega
 go_wp2_with (first | (go_at_call 18; refine HTC.out.mono ?_; rintro e w' ⟨rfl, hw'⟩; obtain rfl := hw'.symm; clear hw'))
 refine HBD.out.mono ?_
 rintro e w8 ⟨hb8, g8, hgl8, rfl, hg8⟩
 have HSA : Hid (Calls Tryd.prog 16 #[.slice (some ⟨g8, 0, none⟩) (n + 1) (n + 1), .slice (some ⟨g, 0, none⟩) (n + 1) (n + 1)] w8 fun e w' => e = .returned (.bool true) ∧ Below w8.heap.size w8 w') := by
  have h := sameL_any _ _ _ _ (n + 1) (n + 1) (n + 1) w8 (rdT_fun hg8) (rdT_fun ((hb8.block g (Array.getElem?_eq_some_iff.1 HX7.out.2.2).1).trans HX7.out.2.2)) (by omega)
  rw [decide_eq_true rfl] at h
  exact h
 have HX8 : Hid (WinX w8 P tb w4.heap.size row tv7 av7 bv7 (n + 1) (stI nxA row) (n + 1) (stI nxB row.reverse) (2 * (k : Int)) ∧ Below w4.heap.size w4 w8) := ⟨HX7.out.1.keep (chg_below hb8 (fun _ => False)) (fun _ _ h => h), HX7.out.2.1.trans (hb8.mono HX7.out.2.1.size)⟩
 clear hb8 hgl8 hg8 HBD HTC HX7 HT7
 go_wp2_with fail
 refine HSA.out.mono ?_
 rintro e w9 ⟨rfl, hb9⟩
 have HX9 : Hid (WinX w9 P tb w4.heap.size row tv7 av7 bv7 (n + 1) (stI nxA row) (n + 1) (stI nxB row.reverse) (2 * (k : Int)) ∧ Below w4.heap.size w4 w9) := ⟨HX8.out.1.keep (chg_below hb9 (fun _ => False)) (fun _ _ h => h), HX8.out.2.trans (hb9.mono HX8.out.2.size)⟩
 clear hb9 HSA HX8
 obtain ⟨ta, tcap, rfl, _, _, hrt, htn⟩ := own_rdI HX9.out.1.2.1
 have HCS : Hid (Calls Tryd.prog 15 #[.pointer (some ⟨P, 0, none⟩)] w9 fun e w' => ∃ v, e = .returned v ∧ w'.ownsRow w9.heap.size 3 1 v row.length (jv row) ∧ Below w9.heap.size w9 w') := classes_any P tb row.length tcap ta _ _ _ row w9 HX9.out.1.1 hrt htn (by have := HL.out; omega)
 clear hrt htn
 go_wp2_with fail
 refine HCS.out.mono ?_
 rintro e w10 ⟨v, rfl, ho, hb10⟩
 have HX10 : Hid (Below w4.heap.size w4 w10) := HX9.out.2.trans (hb10.mono HX9.out.2.size)
 obtain ⟨va, vcap, rfl, _, _, hrv, _⟩ := own_rdI ho
 have HNM : Hid (Calls Tryd.prog 19 #[.slice va row.length vcap, .slice xa n xc] w10 fun e w' => e = .returned (.bool true) ∧ ∃ q, w' = w10.drewN q) := by
  have h := numbers_any row row row.length n vcap xc va xa w10 hrv (HRV.out w10 HX10.out) (by have := HL.out; omega) (by omega)
  rw [decide_eq_true rfl] at h
  exact h
 clear hb10 ho hrv HCS HX9
 go_wp2_with fail
 refine HNM.out.mono ?_
 rintro e w11 ⟨rfl, q, hw11⟩
 obtain rfl := hw11
 go_wp2_with fail
 go_ret
 have h := HB4.out.trans (HX10.out.mono HB4.out.size)
 exact ⟨rfl, ⟨h.os, h.tape, h.output, h.size, h.block⟩⟩
end Go.Proofs.YtclogekfdmikpaaDoor
