/- In one text: SrB, SrC, SrD. -/
import Derived.Test.YtcafffohnokjgaaDoorJ28
import Derived.BigQuiet
import Derived.Deep.RegionHeld3
/- The walk of Moves of the reference of reading. -/
namespace Go.Proofs.YtcafffohnokjgaaDoor
open Go.RowKit
set_option linter.unusedVariables false
set_option linter.unusedSimpArgs false

def MvPost (back : Bool) (L : Lg) (xs : List Int) (F : List Bool) (m : Nat) (w : World) (e : Ending) (w' : World) : Prop :=
 ∃ a c G, e = .returned (.slice a m c) ∧ RdT w' a m G ∧ MvR back L xs F G ∧ Below w.heap.size w w'
def MvC (D : Nat) : Prop := ∀ (n : Nd) (ca pa : Option Addr) (cc pc : Nat) (B : Nat) (w : World) (xs : List Int) (F : List Bool) (back : Bool) (a fa : Option Addr) (len m cap fc : Nat), InV B w D n [.int .i64 n.op, .slice ca n.cl.length cc, .slice pa (toL n.kids).length pc] → Rd .i64 w a len xs → len ≤ 100 → m = len + 1 → RdT w fa m F →
 Calls Tryd.prog 61 #[.agg #[.int .i64 n.op, .slice ca n.cl.length cc, .slice pa (toL n.kids).length pc], .slice a len cap, .slice fa m fc, .bool back] w (MvPost back n.lg xs F m w)
theorem seqL_takeG {kl : List Nd} {k : Nat} (hk : k < kl.length) (w : List Int) : seqG (seqL ((kl.take k).map Nd.lg)) kl[k].lg w ↔ seqL ((kl.take (k + 1)).map Nd.lg) w := by
 rw [List.take_succ_eq_append_getElem hk, List.map_append]
 exact (seqL_snoc _ _ w).symm
theorem seqL_dropG {kl : List Nd} {k : Nat} (hk : k < kl.length) (w : List Int) : seqG kl[k].lg (seqL ((kl.drop (k + 1)).map Nd.lg)) w ↔ seqL ((kl.drop k).map Nd.lg) w := by
 rw [List.drop_eq_getElem_cons hk, List.map_cons]
 exact Iff.rfl
theorem altL_takeG {kl : List Nd} {k : Nat} (hk : k < kl.length) (w : List Int) : altL ((kl.take k).map Nd.lg) w ∨ kl[k].lg w ↔ altL ((kl.take (k + 1)).map Nd.lg) w := by
 rw [List.take_succ_eq_append_getElem hk, List.map_append]
 exact (altL_snoc _ _ w).symm
def gone (back : Bool) (kl : List Nd) (i : Nat) : List Nd := if back then kl.drop (kl.length - i) else kl.take i
theorem gone_0 (back : Bool) (kl : List Nd) : gone back kl 0 = [] := by unfold gone; cases back <;> simp
theorem gone_all (back : Bool) (kl : List Nd) (i : Nat) (h : i = kl.length) : gone back kl i = kl := by unfold gone; subst h; cases back <;> simp
theorem gone_step {back : Bool} {kl : List Nd} {i k : Nat} (hi : i < kl.length) (hk : k < kl.length) (e : k = if back then kl.length - 1 - i else i) {xs : List Int} {F G H : List Bool} (h1 : MvR back (seqL ((gone back kl i).map Nd.lg)) xs F G) (h2 : MvR back kl[k].lg xs G H) : MvR back (seqL ((gone back kl (i + 1)).map Nd.lg)) xs F H := by
 cases back with
 | false =>
   have hki : k = i := by simpa using e
   subst hki
   have h3 := mv_seq h1 h2
   exact h3.congr (fun w => seqL_takeG hk w)
 | true =>
   have hki : k = kl.length - 1 - i := by simpa using e
   have e1 : gone true kl i = kl.drop (k + 1) := by unfold gone; rw [if_pos rfl, show kl.length - i = k + 1 by omega]
   have e2 : gone true kl (i + 1) = kl.drop k := by unfold gone; rw [if_pos rfl, show kl.length - (i + 1) = k by omega]
   rw [e1] at h1
   rw [e2]
   exact (mv_seqB h1 h2).congr (fun w => seqL_dropG hk w)
theorem one_part {kl : List Nd} (h : 1 = kl.length) (h0 : 0 < kl.length) : kl = [kl[0]] := by
 match kl, h with
 | [x], _ => rfl
theorem getD_some {l : List Bool} {k : Nat} (h : k < l.length) : l[k]? = some (l.getD k false) := by
 rw [List.getD_eq_getElem?_getD, List.getElem?_eq_getElem h]; rfl
theorem fill_stay (S : List Bool) (m k : Nat) (h : k < m) (hS : S.length = m) : (fillB S m k).set k false = fillB S m k := by
 unfold fillB
 rw [List.set_append_right _ _ (by simp; omega)]
 have e : k - (S.take k).length = 0 := by simp; omega
 rw [e, show m - k = (m - k - 1) + 1 by omega, List.replicate_succ, List.set_cons_zero]
theorem fillB_zero (S : List Bool) (m : Nat) : fillB S m 0 = List.replicate m false := by simp [fillB]
set_option maxRecDepth 100000 in
set_option maxHeartbeats 32000000 in
theorem moves_up (D : Nat) (HP : MvC D) : MvC (D + 1) := by
 intro n ca pa cc pc B w xs F back a fa len m cap fc hin hrd hl hm hrf
 have HPC : Hid (MvC D) := HP
 have HIN : Hid (InV B w (D + 1) n [.int .i64 n.op, .slice ca n.cl.length cc, .slice pa (toL n.kids).length pc]) := hin
 have hb := hin.bounds
 have hcls := hin.classes
 obtain ⟨cn, hcn⟩ : ∃ cn, cn = n.cl.length := ⟨_, rfl⟩
 obtain ⟨kl, hkl⟩ : ∃ kl, kl = toL n.kids := ⟨_, rfl⟩
 obtain ⟨K, hK⟩ : ∃ K, K = kl.length := ⟨_, rfl⟩
 obtain ⟨op, hop⟩ : ∃ op, op = n.op := ⟨_, rfl⟩
 have HL : Hid (xs.length = len ∧ F.length = m ∧ kl = toL n.kids ∧ K = kl.length ∧ m = len + 1) := ⟨hrd.1, hrf.1, hkl, hK, hm⟩
 have HRD : Hid (Rd .i64 w a len xs) := hrd
 have HRF : Hid (RdT w fa m F) := hrf
 obtain ⟨w1, hw1⟩ : ∃ w1, w1 = w.alloc (.cells #[.int .i64 op, .slice ca cn cc, .slice pa K pc] 46) := ⟨_, rfl⟩
 obtain ⟨H, hH⟩ : ∃ H, H = w.heap.size := ⟨_, rfl⟩
 have HB1 : Hid (Below w.heap.size w w1) := by rw [hw1]; exact (Below.refl _ w).alloc (Nat.le_refl _) _
 have HBX : Hid (w1.heap[H]? = some (.cells #[.int .i64 op, .slice ca cn cc, .slice pa K pc] 46)) := by rw [hw1, hH]; exact heap_alloc_new w _
 have HS1 : Hid (w1.heap.size = H + 1) := by show _ = _; rw [hw1, hH]; simp
 have HALL : Hid (Calls Tryd.prog 38 #[.int .i64 (len : Int), .bool false] w1 (BoPost (List.replicate m false) m w1)) := by rw [hm]; exact all_any len false w1 (by omega)
 have HDC : Hid (∀ V : World, Below w.heap.size w V → Rd .i64 V ca cn n.cl ∧ cn ≤ 140737488355328) := fun V hV => ⟨by rw [hcn]; exact hcls.1.later hV, by rw [hcn]; exact hcls.2⟩
 have HKID : Hid (∀ (V : World) (k : Nat) (hk : k < kl.length), Below w.heap.size w V → ∃ b off xo xa xn xc ya xk yc, pa = some ⟨b, off, none⟩ ∧ V.cell? ⟨b, off + k * 3, none⟩ = some (.int .i64 xo) ∧ V.cell? ⟨b, off + k * 3 + 1, none⟩ = some (.slice xa xn xc) ∧ V.cell? ⟨b, off + k * 3 + 2, none⟩ = some (.slice ya xk yc) ∧ ∀ (G : List Bool) (av : Option Addr) (cv : Nat), RdT V av m G → Calls Tryd.prog 61 #[.agg #[.int .i64 xo, .slice xa xn xc, .slice ya xk yc], .slice a len cap, .slice av m cv, .bool back] V (MvPost back kl[k].lg xs G m V)) := by
  intro V k hk hV
  have hk2 : k < (toL n.kids).length := by rw [← hkl]; exact hk
  obtain ⟨b, off, xa, xc, ya, yc, D', hpa, hkid, hD', c0, c1, c2⟩ := (HIN.out.later hV (D + 1)).kid k hk2
  obtain rfl : D' = D := by omega
  have he : (toL n.kids)[k] = kl[k] := by simp only [hkl]
  rw [he] at hkid c0 c1 c2
  exact ⟨b, off, _, xa, _, xc, ya, _, yc, hpa, c0, c1, c2, fun G av cv hG => HPC.out kl[k] xa ya xc yc B V xs G back a av len m cap cv hkid (hrd.later hV) hl hm hG⟩
 have hli : (len : Int) ≤ 100 := by omega
 have hKi : (K : Int) ≤ 2600000000000 := by rw [hkl] at hK; omega
 have hmu : (m : Int) ≤ 101 := by omega
 have hm0 : 0 < m := by omega
 have HMLI : Hid ((m : Int) = (len : Int) + 1) := by show (m : Int) = (len : Int) + 1; omega
 have HOP : Hid (op = n.op) := hop
 have HFIN : Hid (∀ (V : World) (av : Option Addr) (cv : Nat) (G : List Bool), RdT V av m G → MvR back n.lg xs F G → Below w.heap.size w V → MvPost back n.lg xs F m w (.returned (.slice av m cv)) V) := fun V av cv G h1 h2 h3 => ⟨av, cv, G, rfl, h1, h2, h3⟩
 rw [← hop, ← hcn, ← hkl, ← hK]
 clear HP hin hb hop hcn hK hkl hcls hrd hrf hm
 go_enter Tryd.func61, Tryd.ntmps61
 go_upto_region 1 with fail
 rw [← hw1, ← hH]
 clear hw1 hH
 go_wp2_with fail
 refine HALL.out.mono ?_
 rintro e wA ⟨v0, rfl, ho0, hb0⟩
 obtain ⟨oa, oc, rfl, _, _, hro⟩ := rdT_own ho0
 have HB : Hid (Below w.heap.size w wA) := HB1.out.trans (hb0.mono HB1.out.size)
 have HBA : Hid (Below w1.heap.size w1 wA) := hb0
 have HOUT : Hid (wA.ownsRow (H + 1) 4 1 (.slice oa m oc) m ((List.replicate m false).map Value.bool)) := by rw [← HS1.out]; exact ho0
 have HRO : Hid (RdT wA oa m (List.replicate m false)) := hro
 have HX : Hid (∀ V : World, Below w1.heap.size w1 V → V.cell? ⟨H, 0, none⟩ = some (.int .i64 op) ∧ V.cell? ⟨H, 1, none⟩ = some (.slice ca cn cc) ∧ V.cell? ⟨H, 2, none⟩ = some (.slice pa K pc)) := fun V hV =>
  ⟨upC hV (cell_of_row w1 H 0 _ _ _ HBX.out), upC hV (cell_of_row w1 H 1 _ _ _ HBX.out), upC hV (cell_of_row w1 H 2 _ _ _ HBX.out)⟩
 obtain ⟨d0, _, _⟩ := HX.out wA HBA.out
 clear ho0 hb0 hro HALL
 by_cases h0 : op = 0
 ·subst h0
  go_wp2
  go_ret
  exact HFIN.out wA fa fc F (HRF.out.later HB.out) ((mv_none back xs F (by rw [HL.out.2.1, HL.out.1, HL.out.2.2.2.2])).congr (fun u => (lg_0 n HOP.out.symm u).symm)) HB.out
 have b0 : (op == 0) = false := by rw [beq_eq_false_iff_ne]; exact h0
 by_cases h1 : op = 1
 ·subst h1
  cases back with
  | false =>
    obtain ⟨S, hS⟩ : ∃ S, S = setBf false n.cl xs F := ⟨_, rfl⟩
    have HS : Hid (S = setBf false n.cl xs F ∧ S.length = m) := ⟨hS, by rw [hS, setBf_len, HL.out.1, HL.out.2.2.2.2]⟩
    have HO1 : Hid (wA.ownsRow (H + 1) 4 1 (.slice oa m oc) m ((fillB S m (0 + 1)).map Value.bool)) := by
     have h9 := HOUT.out
     rw [← setB_first n.cl xs F m (by rw [HL.out.1, HL.out.2.2.2.2])] at h9; rw [hS]
     exact h9
    obtain ⟨g, hga, hgb, hfzg, _⟩ : ∃ g, oa = some ⟨g, 0, none⟩ ∧ H + 1 ≤ g ∧ True ∧ True := by
     obtain ⟨g, h6, h7, _⟩ := own_cells1 HOUT.out hm0
     exact ⟨g, h6, h7, trivial, trivial⟩
    subst hga
    have HGB : Hid (w.heap.size ≤ g ∧ w1.heap.size ≤ g) := ⟨by have := HS1.out; have := HB1.out.size; omega, by have := HS1.out; omega⟩
    clear hS hfzg
    go_wp2
    go_loopw [11, 12] (fun x11 _ wr => ∃ k : Nat, k ≤ len ∧ x11 = .int .i64 k ∧ wr.ownsRow (H + 1) 4 1 (.slice (some ⟨g, 0, none⟩) m oc) m ((fillB S m (k + 1)).map Value.bool) ∧ Below w.heap.size w wr ∧ Below w1.heap.size w1 wr) (fun x11 _ _ => len - (intOf x11).toNat)
    case atStart => exact ⟨0, by omega, rfl, HO1.out, HB.out, HBA.out⟩
    case round =>
     obtain ⟨k, hk, hx11, ho, hbl, hbl2⟩ := hrel
     subst hx11
     have HO : Hid (wr.ownsRow (H + 1) 4 1 (.slice (some ⟨g, 0, none⟩) m oc) m ((fillB S m (k + 1)).map Value.bool)) := ho
     have HBL : Hid (Below w.heap.size w wr) := hbl
     have HBL2 : Hid (Below w1.heap.size w1 wr) := hbl2
     clear ho hbl hbl2
     by_cases hlt : k < len
     ·obtain ⟨bx, ox, rfl, ex⟩ := (HRD.out.later HBL.out).2 (by omega)
      obtain ⟨bf, of, rfl, ef⟩ := (HRF.out.later HBL.out).2 hm0
      have tx := ex k hlt
      have tf := ef (k) (by have := HMLI.out; omega)
      obtain ⟨x, hx⟩ : ∃ x, x = xs.getD k 0 := ⟨_, rfl⟩
      obtain ⟨f, hf⟩ : ∃ f, f = F.getD (k) false := ⟨_, rfl⟩
      obtain ⟨b, hb⟩ : ∃ b, b = decide (x ∈ n.cl) := ⟨_, rfl⟩
      have hSk : S.getD (k + 1) false = (b && f) := by
       rw [HS.out.1]
       show (setB n.cl xs F).getD (k + 1) false = _
       rw [setB_at _ _ _ _ (by rw [HL.out.1]; exact hlt), ← hx, ← hf, ← hb, Bool.and_comm]
      have HC : Hid (∀ q, Calls Tryd.prog 75 #[.slice ca cn cc, .int .i64 x] (wr.drewN q) fun e w' => e = .returned (.bool b) ∧ w' = wr.drewN q) := by
       intro q
       rw [hb]
       exact inI_any n.cl x ca cn cc (wr.drewN q) (HDC.out _ (below_drewN HBL.out q)).1 (by have := (HDC.out _ HBL.out).2; omega)
      obtain ⟨_, d1, _⟩ := HX.out wr HBL2.out
      rw [← hx] at tx
      rw [← hf] at tf
      have HNX : Hid (∀ q, ((wr.drewN q).setCell ⟨g, k + 1, none⟩ (.bool (b && f))).ownsRow (H + 1) 4 1 (.slice (some ⟨g, 0, none⟩) m oc) m ((fillB S m (k + 1 + 1)).map Value.bool)) := by
       intro q
       have h6 : (wr.drewN q).ownsRow (H + 1) 4 1 (.slice (some ⟨g, 0, none⟩) m oc) m ((fillB S m (k + 1)).map Value.bool) := own_later5 HO.out (below_drewN (Below.refl _ wr) q)
       have h7 := own_set1 h6 (k + 1) (.bool (b && f))
       rw [← fill_set S m (k + 1) HS.out.2 (by have := HMLI.out; omega), hSk, List.map_set]
       exact h7
      have HB2 : Hid (∀ q, Below w.heap.size w ((wr.drewN q).setCell ⟨g, k + 1, none⟩ (.bool (b && f)))) := fun q => (below_drewN HBL.out q).setCell (p := ⟨g, k + 1, none⟩) HGB.out.1 _
      have HB3 : Hid (∀ q, Below w1.heap.size w1 ((wr.drewN q).setCell ⟨g, k + 1, none⟩ (.bool (b && f)))) := fun q => (below_drewN HBL2.out q).setCell (p := ⟨g, k + 1, none⟩) HGB.out.2 _
      obtain ⟨g2, hg2, _, cur, hcur, hcell⟩ := own_cells1 HO.out hm0
      have hgg : g = g2 := by simpa using hg2
      have t3 := hcell (k + 1) (by have := HMLI.out; omega)
      obtain ⟨z, hz⟩ : ∃ z, ((fillB S m (k + 1)).map Value.bool)[k + 1]? = some (.bool z) := get_bool _ (k + 1) m (by have := HO.out.1; omega) (by have := HMLI.out; omega)
      rw [hz] at t3
      have hfz := Lib.frozen_of_heap hcur
      rw [← hgg] at t3 hfz
      have hmli := HMLI.out
      have hki : (k : Int) < (len : Int) := by omega
      have hkw : IntKind.i64.wrap ((k : Int) + 1) = ((k + 1 : Nat) : Int) := by rw [IntKind.wrap_i64]; omega
      have hk0 : (0 : Int) ≤ (k : Int) := by omega
      have hk1m : ((k + 1 : Nat) : Int) < (m : Int) := by omega
      have hkm : (k : Int) < (m : Int) := by omega
      clear ex ef hx hf hb hSk hcell hcur hz hg2 hgg hmli
      go_wp2_with fail
      go_quiet (first | (go_at_call 75; exact Calls.quiet_of_same (HC.out _)))
      cases b
      ·go_wp2
       go_roundw
       case rel => exact ⟨k + 1, by omega, by go_num, HNX.out _, HB2.out _, HB3.out _⟩
       case measure => simp [intOf]; omega
      ·go_wp2
       go_roundw
       case rel => exact ⟨k + 1, by omega, by go_num, HNX.out _, HB2.out _, HB3.out _⟩
       case measure => simp [intOf]; omega
     ·obtain rfl : k = len := by omega
      have HF : Hid (wr.ownsRow (H + 1) 4 1 (.slice (some ⟨g, 0, none⟩) m oc) m (S.map Value.bool)) := by
       have h6 := HO.out
       have h7 : fillB S m (k + 1) = S := by rw [show k + 1 = m by have := HMLI.out; omega, fill_all S m HS.out.2]
       rw [h7] at h6
       exact h6
      obtain ⟨a', c', he, _, _, hrS⟩ := rdT_own HF.out
      cases he
      have HRS : Hid (RdT wr (some ⟨g, 0, none⟩) m S) := hrS
      clear hrS
      go_wp2
      go_ret
      refine HFIN.out wr _ _ S HRS.out ?_ HBL.out
      rw [HS.out.1]
      exact (mv_set false n.cl xs F (by rw [HL.out.2.1, HL.out.1, HL.out.2.2.2.2])).congr (fun u => (lg_1 n HOP.out.symm u).symm)
  | true =>
    obtain ⟨S, hS⟩ : ∃ S, S = setBf true n.cl xs F := ⟨_, rfl⟩
    have HS : Hid (S = setBf true n.cl xs F ∧ S.length = m) := ⟨hS, by rw [hS, setBf_len, HL.out.1, HL.out.2.2.2.2]⟩
    have HO1 : Hid (wA.ownsRow (H + 1) 4 1 (.slice oa m oc) m ((fillB S m (0)).map Value.bool)) := by
     have h9 := HOUT.out
     rw [← fillB_zero S m] at h9
     exact h9
    obtain ⟨g, hga, hgb, hfzg, _⟩ : ∃ g, oa = some ⟨g, 0, none⟩ ∧ H + 1 ≤ g ∧ True ∧ True := by
     obtain ⟨g, h6, h7, _⟩ := own_cells1 HOUT.out hm0
     exact ⟨g, h6, h7, trivial, trivial⟩
    subst hga
    have HGB : Hid (w.heap.size ≤ g ∧ w1.heap.size ≤ g) := ⟨by have := HS1.out; have := HB1.out.size; omega, by have := HS1.out; omega⟩
    clear hS hfzg
    go_wp2
    go_loopw [11, 12] (fun x11 _ wr => ∃ k : Nat, k ≤ len ∧ x11 = .int .i64 k ∧ wr.ownsRow (H + 1) 4 1 (.slice (some ⟨g, 0, none⟩) m oc) m ((fillB S m (k)).map Value.bool) ∧ Below w.heap.size w wr ∧ Below w1.heap.size w1 wr) (fun x11 _ _ => len - (intOf x11).toNat)
    case atStart => exact ⟨0, by omega, rfl, HO1.out, HB.out, HBA.out⟩
    case round =>
     obtain ⟨k, hk, hx11, ho, hbl, hbl2⟩ := hrel
     subst hx11
     have HO : Hid (wr.ownsRow (H + 1) 4 1 (.slice (some ⟨g, 0, none⟩) m oc) m ((fillB S m (k)).map Value.bool)) := ho
     have HBL : Hid (Below w.heap.size w wr) := hbl
     have HBL2 : Hid (Below w1.heap.size w1 wr) := hbl2
     clear ho hbl hbl2
     by_cases hlt : k < len
     ·obtain ⟨bx, ox, rfl, ex⟩ := (HRD.out.later HBL.out).2 (by omega)
      obtain ⟨bf, of, rfl, ef⟩ := (HRF.out.later HBL.out).2 hm0
      have tx := ex k hlt
      have tf := ef (k + 1) (by have := HMLI.out; omega)
      obtain ⟨x, hx⟩ : ∃ x, x = xs.getD k 0 := ⟨_, rfl⟩
      obtain ⟨f, hf⟩ : ∃ f, f = F.getD (k + 1) false := ⟨_, rfl⟩
      obtain ⟨b, hb⟩ : ∃ b, b = decide (x ∈ n.cl) := ⟨_, rfl⟩
      have hSk : S.getD (k) false = (b && f) := by
       rw [HS.out.1]
       show (setBb n.cl xs F).getD k false = _
       rw [List.getD_eq_getElem?_getD, setBb_at _ _ _ _ (by rw [HL.out.1]; exact hlt), ← hx, ← hf, ← hb]; rfl
      have HC : Hid (∀ q, Calls Tryd.prog 75 #[.slice ca cn cc, .int .i64 x] (wr.drewN q) fun e w' => e = .returned (.bool b) ∧ w' = wr.drewN q) := by
       intro q
       rw [hb]
       exact inI_any n.cl x ca cn cc (wr.drewN q) (HDC.out _ (below_drewN HBL.out q)).1 (by have := (HDC.out _ HBL.out).2; omega)
      obtain ⟨_, d1, _⟩ := HX.out wr HBL2.out
      rw [← hx] at tx
      rw [← hf] at tf
      have HNX : Hid (∀ q, ((wr.drewN q).setCell ⟨g, k, none⟩ (.bool (b && f))).ownsRow (H + 1) 4 1 (.slice (some ⟨g, 0, none⟩) m oc) m ((fillB S m (k + 1)).map Value.bool)) := by
       intro q
       have h6 : (wr.drewN q).ownsRow (H + 1) 4 1 (.slice (some ⟨g, 0, none⟩) m oc) m ((fillB S m (k)).map Value.bool) := own_later5 HO.out (below_drewN (Below.refl _ wr) q)
       have h7 := own_set1 h6 (k) (.bool (b && f))
       rw [← fill_set S m (k) HS.out.2 (by have := HMLI.out; omega), hSk, List.map_set]
       exact h7
      have HB2 : Hid (∀ q, Below w.heap.size w ((wr.drewN q).setCell ⟨g, k, none⟩ (.bool (b && f)))) := fun q => (below_drewN HBL.out q).setCell (p := ⟨g, k, none⟩) HGB.out.1 _
      have HB3 : Hid (∀ q, Below w1.heap.size w1 ((wr.drewN q).setCell ⟨g, k, none⟩ (.bool (b && f)))) := fun q => (below_drewN HBL2.out q).setCell (p := ⟨g, k, none⟩) HGB.out.2 _
      obtain ⟨g2, hg2, _, cur, hcur, hcell⟩ := own_cells1 HO.out hm0
      have hgg : g = g2 := by simpa using hg2
      have t3 := hcell (k) (by have := HMLI.out; omega)
      obtain ⟨z, hz⟩ : ∃ z, ((fillB S m (k)).map Value.bool)[k]? = some (.bool z) := get_bool _ (k) m (by have := HO.out.1; omega) (by have := HMLI.out; omega)
      rw [hz] at t3
      have hfz := Lib.frozen_of_heap hcur
      rw [← hgg] at t3 hfz
      have hmli := HMLI.out
      have hki : (k : Int) < (len : Int) := by omega
      have hkw : IntKind.i64.wrap ((k : Int) + 1) = ((k + 1 : Nat) : Int) := by rw [IntKind.wrap_i64]; omega
      have hk0 : (0 : Int) ≤ (k : Int) := by omega
      have hk1m : ((k + 1 : Nat) : Int) < (m : Int) := by omega
      have hkm : (k : Int) < (m : Int) := by omega
      clear ex ef hx hf hb hSk hcell hcur hz hg2 hgg hmli
      go_wp2_with fail
      go_quiet (first | (go_at_call 75; exact Calls.quiet_of_same (HC.out _)))
      cases b
      ·go_wp2
       go_roundw
       case rel => exact ⟨k + 1, by omega, by go_num, HNX.out _, HB2.out _, HB3.out _⟩
       case measure => simp [intOf]; omega
      ·go_wp2
       go_roundw
       case rel => exact ⟨k + 1, by omega, by go_num, HNX.out _, HB2.out _, HB3.out _⟩
       case measure => simp [intOf]; omega
     ·obtain rfl : k = len := by omega
      have HF : Hid (wr.ownsRow (H + 1) 4 1 (.slice (some ⟨g, 0, none⟩) m oc) m (S.map Value.bool)) := by
       have h6 := HO.out
       have h7 : fillB S m k = S := by
        have hkm : m = k + 1 := by have := HMLI.out; omega
        have h8 := setBb_last n.cl xs F
        rw [HL.out.1] at h8
        have h9 : S.getD k false = false := by rw [HS.out.1]; show (setBb n.cl xs F).getD k false = false; rw [List.getD_eq_getElem?_getD, h8]; rfl
        have h10 := fill_set S m k HS.out.2 (by omega)
        rw [h9, fill_stay S m k (by omega) HS.out.2, ← hkm, fill_all S m HS.out.2] at h10
        exact h10
       rw [h7] at h6
       exact h6
      obtain ⟨a', c', he, _, _, hrS⟩ := rdT_own HF.out
      cases he
      have HRS : Hid (RdT wr (some ⟨g, 0, none⟩) m S) := hrS
      clear hrS
      go_wp2
      go_ret
      refine HFIN.out wr _ _ S HRS.out ?_ HBL.out
      rw [HS.out.1]
      exact (mv_set true n.cl xs F (by rw [HL.out.2.1, HL.out.1, HL.out.2.2.2.2])).congr (fun u => (lg_1 n HOP.out.symm u).symm)
 have b1 : (op == 1) = false := by rw [beq_eq_false_iff_ne]; exact h1
 by_cases h2 : op = 2
 ·subst h2
  cases back with
  | false =>
    go_wp2
    go_loopw [10, 13, 14] (fun x10 x13 _ wr => ∃ i : Nat, i ≤ K ∧ x13 = .int .i64 i ∧ ∃ av cv G, x10 = .slice av m cv ∧ RdT wr av m G ∧ MvR false (seqL ((gone false kl i).map Nd.lg)) xs F G ∧ Below w.heap.size w wr ∧ Below w1.heap.size w1 wr) (fun _ x13 _ _ => K - (intOf x13).toNat)
    case atStart => exact ⟨0, by omega, rfl, fa, fc, F, rfl, HRF.out.later HB.out, by rw [gone_0]; exact mv_none false xs F (by rw [HL.out.2.1, HL.out.1, HL.out.2.2.2.2]), HB.out, HBA.out⟩
    case round =>
     obtain ⟨i, hi, hx13, av, cv, G, hx10, hrg, hmv, hbl, hbl2⟩ := hrel
     subst hx13 hx10
     have HMV : Hid (MvR false (seqL ((gone false kl i).map Nd.lg)) xs F G) := hmv
     have HRG : Hid (RdT wr av m G) := hrg
     have HBL : Hid (Below w.heap.size w wr) := hbl
     have HBL2 : Hid (Below w1.heap.size w1 wr) := hbl2
     obtain ⟨_, _, d2⟩ := HX.out wr hbl2
     clear hmv hrg hbl hbl2
     by_cases hlt : i < K
     ·have hil : i < kl.length := by rw [← HL.out.2.2.2.1]; exact hlt
      have hii : (i : Int) < (K : Int) := by omega
      have hkk : i < kl.length := hil
      obtain ⟨b, off, xo, xa, xn, xc, ya, xk, yc, hpa, c0, c1, c2, hcall⟩ := HKID.out wr i hkk HBL.out
      subst hpa
      have HCC : Hid (Calls Tryd.prog 61 #[.agg #[.int .i64 xo, .slice xa xn xc, .slice ya xk yc], .slice a len cap, .slice av m cv, .bool false] wr (MvPost false kl[i].lg xs G m wr)) := hcall G av cv HRG.out
      clear hcall
      go_wp2_with fail
      refine HCC.out.mono ?_
      rintro e w2 ⟨a2, c22, G2, rfl, hr2, hmv2, hb2⟩
      have HN : Hid (RdT w2 a2 m G2 ∧ MvR false (seqL ((gone false kl (i + 1)).map Nd.lg)) xs F G2 ∧ Below w.heap.size w w2 ∧ Below w1.heap.size w1 w2) := ⟨hr2, gone_step hil hkk (by rfl) HMV.out hmv2, HBL.out.trans (hb2.mono HBL.out.size), HBL2.out.trans (hb2.mono HBL2.out.size)⟩
      clear hr2 hmv2 hb2 HCC c0 c1 c2 d2
      go_wp2
      go_roundw
      case rel => exact ⟨i + 1, by omega, by go_num, a2, c22, G2, rfl, HN.out.1, HN.out.2.1, HN.out.2.2.1, HN.out.2.2.2⟩
      case measure => simp [intOf]; omega
     ·obtain rfl : i = K := by omega
      have HE : Hid (MvR false n.lg xs F G) := by
       have h6 := HMV.out
       rw [gone_all false kl i HL.out.2.2.2.1] at h6
       exact h6.congr (fun u => by rw [lg_2 n HOP.out.symm u, ← HL.out.2.2.1])
      go_wp2
      go_ret
      exact HFIN.out wr av cv G HRG.out HE.out HBL.out
  | true =>
    go_wp2
    go_loopw [10, 13, 14] (fun x10 x13 _ wr => ∃ i : Nat, i ≤ K ∧ x13 = .int .i64 i ∧ ∃ av cv G, x10 = .slice av m cv ∧ RdT wr av m G ∧ MvR true (seqL ((gone true kl i).map Nd.lg)) xs F G ∧ Below w.heap.size w wr ∧ Below w1.heap.size w1 wr) (fun _ x13 _ _ => K - (intOf x13).toNat)
    case atStart => exact ⟨0, by omega, rfl, fa, fc, F, rfl, HRF.out.later HB.out, by rw [gone_0]; exact mv_none true xs F (by rw [HL.out.2.1, HL.out.1, HL.out.2.2.2.2]), HB.out, HBA.out⟩
    case round =>
     obtain ⟨i, hi, hx13, av, cv, G, hx10, hrg, hmv, hbl, hbl2⟩ := hrel
     subst hx13 hx10
     have HMV : Hid (MvR true (seqL ((gone true kl i).map Nd.lg)) xs F G) := hmv
     have HRG : Hid (RdT wr av m G) := hrg
     have HBL : Hid (Below w.heap.size w wr) := hbl
     have HBL2 : Hid (Below w1.heap.size w1 wr) := hbl2
     obtain ⟨_, _, d2⟩ := HX.out wr hbl2
     clear hmv hrg hbl hbl2
     by_cases hlt : i < K
     ·have hil : i < kl.length := by rw [← HL.out.2.2.2.1]; exact hlt
      have hii : (i : Int) < (K : Int) := by omega
      obtain ⟨k, hk⟩ : ∃ k : Nat, k = K - 1 - i := ⟨_, rfl⟩
      have hkk : k < kl.length := by rw [← HL.out.2.2.2.1]; omega
      have hkw : (K : Int) - 1 - (i : Int) = (k : Int) := by omega
      have hk0 : (0 : Int) ≤ (k : Int) := by omega
      have hkK : (k : Int) < (K : Int) := by omega
      have HKE : Hid (k = kl.length - 1 - i) := by show _ = _; rw [← HL.out.2.2.2.1]; exact hk
      clear hk
      obtain ⟨b, off, xo, xa, xn, xc, ya, xk, yc, hpa, c0, c1, c2, hcall⟩ := HKID.out wr k hkk HBL.out
      subst hpa
      have HCC : Hid (Calls Tryd.prog 61 #[.agg #[.int .i64 xo, .slice xa xn xc, .slice ya xk yc], .slice a len cap, .slice av m cv, .bool true] wr (MvPost true kl[k].lg xs G m wr)) := hcall G av cv HRG.out
      clear hcall
      go_wp2_with fail
      refine HCC.out.mono ?_
      rintro e w2 ⟨a2, c22, G2, rfl, hr2, hmv2, hb2⟩
      have HN : Hid (RdT w2 a2 m G2 ∧ MvR true (seqL ((gone true kl (i + 1)).map Nd.lg)) xs F G2 ∧ Below w.heap.size w w2 ∧ Below w1.heap.size w1 w2) := ⟨hr2, gone_step hil hkk (by rw [if_pos rfl]; exact HKE.out) HMV.out hmv2, HBL.out.trans (hb2.mono HBL.out.size), HBL2.out.trans (hb2.mono HBL2.out.size)⟩
      clear hr2 hmv2 hb2 HCC c0 c1 c2 d2
      go_wp2
      go_roundw
      case rel => exact ⟨i + 1, by omega, by go_num, a2, c22, G2, rfl, HN.out.1, HN.out.2.1, HN.out.2.2.1, HN.out.2.2.2⟩
      case measure => simp [intOf]; omega
     ·obtain rfl : i = K := by omega
      have HE : Hid (MvR true n.lg xs F G) := by
       have h6 := HMV.out
       rw [gone_all true kl i HL.out.2.2.2.1] at h6
       exact h6.congr (fun u => by rw [lg_2 n HOP.out.symm u, ← HL.out.2.2.1])
      go_wp2
      go_ret
      exact HFIN.out wr av cv G HRG.out HE.out HBL.out
 have b2 : (op == 2) = false := by rw [beq_eq_false_iff_ne]; exact h2
 by_cases h3 : op = 3
 ·subst h3
  go_wp2
  go_loopw [10, 15] (fun x10 x15 wr => ∃ i : Nat, i ≤ K ∧ x15 = .int .i64 i ∧ ∃ av cv G, x10 = .slice av m cv ∧ RdT wr av m G ∧ MvR back (altL ((kl.take i).map Nd.lg)) xs F G ∧ Below w.heap.size w wr ∧ Below w1.heap.size w1 wr) (fun _ x15 _ => K - (intOf x15).toNat)
  case atStart =>
   refine ⟨0, by omega, rfl, oa, oc, List.replicate m false, rfl, HRO.out, ?_, HB.out, HBA.out⟩
   have h6 := mv_false back xs F
   rw [HL.out.1, ← HL.out.2.2.2.2] at h6
   exact h6.congr (fun u => by simp [altL])
  case round =>
   obtain ⟨i, hi, hx15, av, cv, G, hx10, hrg, hmv, hbl, hbl2⟩ := hrel
   subst hx15 hx10
   have HMV : Hid (MvR back (altL ((kl.take i).map Nd.lg)) xs F G) := hmv
   have HRG : Hid (RdT wr av m G) := hrg
   have HBL : Hid (Below w.heap.size w wr) := hbl
   have HBL2 : Hid (Below w1.heap.size w1 wr) := hbl2
   obtain ⟨_, _, d2⟩ := HX.out wr hbl2
   clear hmv hrg hbl hbl2
   by_cases hlt : i < K
   ·have hil : i < kl.length := by rw [← HL.out.2.2.2.1]; exact hlt
    have hii : (i : Int) < (K : Int) := by omega
    obtain ⟨b, off, xo, xa, xn, xc, ya, xk, yc, hpa, c0, c1, c2, hcall⟩ := HKID.out wr i hil HBL.out
    subst hpa
    have HCC : Hid (Calls Tryd.prog 61 #[.agg #[.int .i64 xo, .slice xa xn xc, .slice ya xk yc], .slice a len cap, .slice fa m fc, .bool back] wr (MvPost back kl[i].lg xs F m wr)) := hcall F fa fc (HRF.out.later HBL.out)
    clear hcall
    go_wp2_with fail
    refine HCC.out.mono ?_
    rintro e w2 ⟨a2, c22, G2, rfl, hr2, hmv2, hb2⟩
    have HMV2 : Hid (MvR back kl[i].lg xs F G2) := hmv2
    have HB2 : Hid (Below wr.heap.size wr w2) := hb2
    have HCO : Hid (Calls Tryd.prog 76 #[.slice av m cv, .slice a2 m c22] w2 (BoPost (orB G G2) m w2)) := either_any G G2 av a2 m cv c22 w2 (HRG.out.later hb2) hr2 (by omega)
    clear hr2 hmv2 hb2 HCC c0 c1 c2 d2
    go_wp2_with fail
    refine HCO.out.mono ?_
    rintro e w3 ⟨v3, rfl, ho3, hb3⟩
    obtain ⟨a3, c3, rfl, _, _, hr3⟩ := rdT_own ho3
    have HB3 : Hid (Below wr.heap.size wr w3) := HB2.out.trans (hb3.mono HB2.out.size)
    have HN : Hid (RdT w3 a3 m (orB G G2) ∧ MvR back (altL ((kl.take (i + 1)).map Nd.lg)) xs F (orB G G2) ∧ Below w.heap.size w w3 ∧ Below w1.heap.size w1 w3) := ⟨hr3, (mv_or HMV.out HMV2.out).congr (fun u => altL_takeG hil u), HBL.out.trans (HB3.out.mono HBL.out.size), HBL2.out.trans (HB3.out.mono HBL2.out.size)⟩
    clear ho3 hb3 hr3 HCO
    go_wp2
    go_roundw
    case rel => exact ⟨i + 1, by omega, by go_num, a3, c3, orB G G2, rfl, HN.out.1, HN.out.2.1, HN.out.2.2.1, HN.out.2.2.2⟩
    case measure => simp [intOf]; omega
   ·obtain rfl : i = K := by omega
    have HE : Hid (MvR back n.lg xs F G) := by
     have h6 := HMV.out
     rw [List.take_of_length_le (by rw [← HL.out.2.2.2.1]; exact Nat.le_refl _)] at h6
     exact h6.congr (fun u => by rw [lg_3 n HOP.out.symm u, ← HL.out.2.2.1])
    go_wp2
    go_ret
    exact HFIN.out wr av cv G HRG.out HE.out HBL.out
 have b3 : (op == 3) = false := by rw [beq_eq_false_iff_ne]; exact h3
 obtain ⟨_, _, d2⟩ := HX.out wA HBA.out
 have HNO : Hid ((op = 4 ∨ op = 5 → K ≠ 1) → MvPost back n.lg xs F m w (.returned (.slice oa m oc)) wA) := by
  intro hno
  refine HFIN.out wA oa oc _ HRO.out ?_ HB.out
  have h6 := mv_false back xs F
  rw [HL.out.1, ← HL.out.2.2.2.2] at h6
  exact h6.congr (fun u => (lg_no n (by rw [← HOP.out]; exact h0) (by rw [← HOP.out]; exact h1) (by rw [← HOP.out]; exact h2) (by rw [← HOP.out]; exact h3) (by rw [← HOP.out, ← HL.out.2.2.1, ← HL.out.2.2.2.1]; exact hno) u).symm)
 by_cases h5 : op = 5
 ·subst h5
  by_cases hK1 : K = 1
  ·subst hK1
   have hkl1 : 0 < kl.length := by rw [← HL.out.2.2.2.1]; omega
   obtain ⟨L, hLL⟩ : ∃ L, L = kl[0].lg := ⟨_, rfl⟩
   have HLL : Hid (∀ u, n.lg u ↔ u = [] ∨ L u) := by
    intro u
    rw [hLL]
    exact lg_5 n HOP.out.symm kl[0] (by rw [← HL.out.2.2.1]; exact one_part HL.out.2.2.2.1 hkl1) u
   obtain ⟨b, off, xo, xa, xn, xc, ya, xk, yc, hpa, c0, c1, c2, hcall⟩ := HKID.out wA 0 hkl1 HB.out
   subst hpa
   simp only [Nat.zero_mul, Nat.add_zero] at c0 c1 c2
   have HCC : Hid (Calls Tryd.prog 61 #[.agg #[.int .i64 xo, .slice xa xn xc, .slice ya xk yc], .slice a len cap, .slice fa m fc, .bool back] wA (MvPost back L xs F m wA)) := by rw [hLL]; exact hcall F fa fc (HRF.out.later HB.out)
   clear hcall hLL HNO
   go_wp2_with fail
   refine HCC.out.mono ?_
   rintro e w2 ⟨a2, c22, G2, rfl, hr2, hmv2, hb2⟩
   have HMV2 : Hid (MvR back L xs F G2) := hmv2
   have HW2 : Hid (Below w.heap.size w w2) := HB.out.trans (hb2.mono HB.out.size)
   have HCO : Hid (Calls Tryd.prog 76 #[.slice fa m fc, .slice a2 m c22] w2 (BoPost (orB F G2) m w2)) := either_any F G2 fa a2 m fc c22 w2 (HRF.out.later HW2.out) hr2 (by omega)
   clear hr2 hmv2 hb2 HCC c0 c1 c2 d2 d0
   go_wp2_with fail
   refine HCO.out.mono ?_
   rintro e w3 ⟨v3, rfl, ho3, hb3⟩
   obtain ⟨a3, c3, rfl, _, _, hr3⟩ := rdT_own ho3
   have HF : Hid (MvPost back n.lg xs F m w (.returned (.slice a3 m c3)) w3) := HFIN.out w3 a3 c3 _ hr3 ((mv_or (mv_none back xs F (by rw [HL.out.2.1, HL.out.1, HL.out.2.2.2.2])) HMV2.out).congr (fun u => (HLL.out u).symm)) (HW2.out.trans (hb3.mono HW2.out.size))
   clear ho3 hb3 hr3 HCO
   go_wp2
   go_ret
   exact HF.out
  ·have HE := HNO.out (fun _ => hK1)
   have HEE : Hid (MvPost back n.lg xs F m w (.returned (.slice oa m oc)) wA) := HE
   have hKb : ((K : Int) == 1) = false := by rw [beq_eq_false_iff_ne]; omega
   clear HE
   go_wp2
   go_ret
   exact HEE.out
 have b5 : (op == 5) = false := by rw [beq_eq_false_iff_ne]; exact h5
 by_cases h4 : op = 4
 ·subst h4
  by_cases hK1 : K = 1
  ·subst hK1
   have hkl1 : 0 < kl.length := by rw [← HL.out.2.2.2.1]; omega
   obtain ⟨L, hLL⟩ : ∃ L, L = kl[0].lg := ⟨_, rfl⟩
   have HLL : Hid (∀ u, n.lg u ↔ starG L u) := by
    intro u
    rw [hLL]
    exact lg_4 n HOP.out.symm kl[0] (by rw [← HL.out.2.2.1]; exact one_part HL.out.2.2.2.1 hkl1) u
   have HLH : Hid (L = kl[0].lg) := hLL
   clear hLL HNO
   go_wp2
   go_loopw [10, 16, 17] (fun x10 x16 _ wr => ∃ k : Nat, k ≤ len ∧ x16 = .int .i64 k ∧ ∃ av cv O, x10 = .slice av m cv ∧ RdT wr av m O ∧ RoS back L xs F O k ∧ Below w.heap.size w wr ∧ Below w1.heap.size w1 wr) (fun _ x16 _ _ => len - (intOf x16).toNat)
   case atStart => exact ⟨0, by omega, rfl, fa, fc, F, rfl, HRF.out.later HB.out, ro_begin back L xs F (by rw [HL.out.2.1, HL.out.1, HL.out.2.2.2.2]), HB.out, HBA.out⟩
   case round =>
    obtain ⟨k, hk, hx16, av, cv, O, hx10, hrg, hro, hbl, hbl2⟩ := hrel
    subst hx16 hx10
    have HRO2 : Hid (RoS back L xs F O k) := hro
    have HRG : Hid (RdT wr av m O) := hrg
    have HBL : Hid (Below w.heap.size w wr) := hbl
    have HBL2 : Hid (Below w1.heap.size w1 wr) := hbl2
    obtain ⟨_, _, e2⟩ := HX.out wr hbl2
    clear hro hrg hbl hbl2
    by_cases hlt : k < len
    ·have hki : (k : Int) < (len : Int) := by omega
     obtain ⟨b, off, xo, xa, xn, xc, ya, xk, yc, hpa, c0, c1, c2, hcall⟩ := HKID.out wr 0 hkl1 HBL.out
     subst hpa
     simp only [Nat.zero_mul, Nat.add_zero] at c0 c1 c2
     have HCC : Hid (Calls Tryd.prog 61 #[.agg #[.int .i64 xo, .slice xa xn xc, .slice ya xk yc], .slice a len cap, .slice av m cv, .bool back] wr (MvPost back L xs O m wr)) := by rw [HLH.out]; exact hcall O av cv HRG.out
     clear hcall
     go_wp2_with fail
     refine HCC.out.mono ?_
     rintro e w2 ⟨a2, c22, G2, rfl, hr2, hmv2, hb2⟩
     have HMV2 : Hid (MvR back L xs O G2) := hmv2
     have HB2 : Hid (Below wr.heap.size wr w2) := hb2
     have HCO : Hid (Calls Tryd.prog 76 #[.slice av m cv, .slice a2 m c22] w2 (BoPost (orB O G2) m w2)) := either_any O G2 av a2 m cv c22 w2 (HRG.out.later hb2) hr2 (by omega)
     clear hr2 hmv2 hb2 HCC c0 c1 c2 e2
     go_wp2_with fail
     refine HCO.out.mono ?_
     rintro e w3 ⟨v3, rfl, ho3, hb3⟩
     obtain ⟨a3, c3, rfl, _, _, hr3⟩ := rdT_own ho3
     have HB3 : Hid (Below wr.heap.size wr w3) := HB2.out.trans (hb3.mono HB2.out.size)
     have HR3 : Hid (RdT w3 a3 m (orB O G2)) := hr3
     obtain ⟨q, hq⟩ : ∃ q, q = decide (orB O G2 = O) := ⟨_, rfl⟩
     have HQ : Hid (q = decide (orB O G2 = O)) := hq
     have HCS : Hid (Calls Tryd.prog 19 #[.slice a3 m c3, .slice av m cv] w3 fun e w' => e = .returned (.bool q) ∧ Below w3.heap.size w3 w') := by rw [hq]; exact sameL_any (orB O G2) O a3 av m c3 cv w3 hr3 (HRG.out.later HB3.out) (by omega)
     clear ho3 hb3 hr3 HCO hq
     go_wp2_with fail
     refine HCS.out.mono ?_
     rintro e w4 ⟨rfl, hb4⟩
     have HB4 : Hid (Below wr.heap.size wr w4) := HB3.out.trans (hb4.mono HB3.out.size)
     have HR4 : Hid (RdT w4 a3 m (orB O G2)) := HR3.out.later hb4
     have HW4 : Hid (Below w.heap.size w w4) := HBL.out.trans (HB4.out.mono HBL.out.size)
     clear hb4 HCS
     cases q with
     | true =>
       have HE : Hid (MvR back n.lg xs F O) := by
        have h6 : orB O G2 = O := by have := HQ.out.symm; simpa using this
        exact (ro_all (ro_closed HRO2.out HMV2.out h6)).congr (fun u => (HLL.out u).symm)
       have HRG4 : Hid (RdT w4 av m O) := HRG.out.later HB4.out
       go_wp2
       go_ret
       exact HFIN.out w4 av cv O HRG4.out HE.out HW4.out
     | false =>
       have HN : Hid (RoS back L xs F (orB O G2) (k + 1) ∧ Below w1.heap.size w1 w4) := ⟨ro_round HRO2.out HMV2.out, HBL2.out.trans (HB4.out.mono HBL2.out.size)⟩
       go_wp2
       go_roundw
       case rel => exact ⟨k + 1, by omega, by go_num, a3, c3, orB O G2, rfl, HR4.out, HN.out.1, HW4.out, HN.out.2⟩
       case measure => simp [intOf]; omega
    ·obtain rfl : k = len := by omega
     have HE : Hid (MvR back n.lg xs F O) := by
      have h6 := HRO2.out
      rw [← HL.out.1] at h6
      exact (ro_all h6).congr (fun u => (HLL.out u).symm)
     go_wp2
     go_ret
     exact HFIN.out wr av cv O HRG.out HE.out HBL.out
  ·have HE := HNO.out (fun _ => hK1)
   have HEE : Hid (MvPost back n.lg xs F m w (.returned (.slice oa m oc)) wA) := HE
   have hKb : ((K : Int) == 1) = false := by rw [beq_eq_false_iff_ne]; omega
   clear HE
   go_wp2
   go_ret
   exact HEE.out
 have b4 : (op == 4) = false := by rw [beq_eq_false_iff_ne]; exact h4
 have HE := HNO.out (fun h => by omega)
 have HEE : Hid (MvPost back n.lg xs F m w (.returned (.slice oa m oc)) wA) := HE
 clear HE
 go_wp2
 go_ret
 exact HEE.out
theorem moves_any : (D : Nat) → MvC D
 | 0 => fun _ _ _ _ _ _ _ _ _ _ _ _ _ _ _ _ h => h.elim
 | D + 1 => moves_up D (moves_any D)
end Go.Proofs.YtcafffohnokjgaaDoor

/- The walks of Where, Fits, Which and Boundaries of the reference of reading. -/
namespace Go.Proofs.YtcafffohnokjgaaDoor
open Go.RowKit
set_option linter.unusedVariables false
set_option linter.unusedSimpArgs false

def ruleL (r : Rl) (xs : List Int) : List Bool := (List.range (xs.length + 1)).map fun p => r.fit xs p
theorem ruleL_len (r : Rl) (xs : List Int) : (ruleL r xs).length = xs.length + 1 := by simp [ruleL]
theorem ruleL_get (r : Rl) (xs : List Int) (p : Nat) (hp : p ≤ xs.length) : (ruleL r xs).getD p false = r.fit xs p := by
 unfold ruleL
 rw [List.getD_eq_getElem?_getD, List.getElem?_map, List.getElem?_range (by omega)]
 rfl
theorem ruleL_take (r : Rl) (xs : List Int) (k : Nat) (hk : k ≤ xs.length) : (ruleL r xs).take (k + 1) = (ruleL r xs).take k ++ [r.fit xs k] := by
 have hl : k < (ruleL r xs).length := by rw [ruleL_len]; omega
 rw [List.take_succ_eq_append_getElem hl]
 congr 2
 have := ruleL_get r xs k hk
 rw [List.getD_eq_getElem?_getD, List.getElem?_eq_getElem hl] at this
 exact this
set_option maxRecDepth 100000 in
set_option maxHeartbeats 16000000 in
theorem where_any (D : Nat) (r : Rl) (q : RlP) (xs : List Int) (a : Option Addr) (len cap : Nat) (w : World) (hr : RlAt w D r q) (hrd : Rd .i64 w a len xs) (hl : len ≤ 100) :
 Calls Tryd.prog 39 #[.agg (r.vals q), .slice a len cap] w (BoPost (ruleL r xs) (len + 1) w) := by
 obtain ⟨m, hm⟩ : ∃ m, m = len + 1 := ⟨_, rfl⟩
 obtain ⟨j0, ji, jz0, jz1, jz2⟩ := info_parts info_bo
 have HJ : Hid (Tryd.prog.info? 4 = some j0 ∧ j0.zero = some (.bool false) ∧ j0.size = 1 ∧ j0.bytes = 1) := ⟨ji, jz0, jz1, jz2⟩
 have HL : Hid (xs.length = len ∧ m = len + 1) := ⟨hrd.1, hm⟩
 obtain ⟨la, lc, lp, lpc, ra, rc, rp, rpc⟩ := q
 obtain ⟨lo, hlo⟩ : ∃ lo, lo = r.left.op := ⟨_, rfl⟩
 obtain ⟨ln, hln⟩ : ∃ ln, ln = r.left.cl.length := ⟨_, rfl⟩
 obtain ⟨lk, hlk⟩ : ∃ lk, lk = (toL r.left.kids).length := ⟨_, rfl⟩
 obtain ⟨ro, hro⟩ : ∃ ro, ro = r.right.op := ⟨_, rfl⟩
 obtain ⟨rn, hrn⟩ : ∃ rn, rn = r.right.cl.length := ⟨_, rfl⟩
 obtain ⟨rk, hrk⟩ : ∃ rk, rk = (toL r.right.kids).length := ⟨_, rfl⟩
 obtain ⟨st, hst⟩ : ∃ st, st = r.start := ⟨_, rfl⟩
 obtain ⟨br, hbr⟩ : ∃ br, br = r.brk := ⟨_, rfl⟩
 have HML : Hid (∀ (V : World) (G : List Bool) (av : Option Addr) (cv : Nat), Below w.heap.size w V → RdT V av m G → Calls Tryd.prog 61 #[.agg #[.int .i64 lo, .slice la ln lc, .slice lp lk lpc], .slice a len cap, .slice av m cv, .bool false] V (MvPost false r.left.lg xs G m V)) := by
  intro V G av cv hV hG
  rw [hlo, hln, hlk]
  exact moves_any D r.left la lp lc lpc _ V xs G false a av len m cap cv (hr.1.later hV D) (hrd.later hV) hl hm hG
 have HMR : Hid (∀ (V : World) (G : List Bool) (av : Option Addr) (cv : Nat), Below w.heap.size w V → RdT V av m G → Calls Tryd.prog 61 #[.agg #[.int .i64 ro, .slice ra rn rc, .slice rp rk rpc], .slice a len cap, .slice av m cv, .bool true] V (MvPost true r.right.lg xs G m V)) := by
  intro V G av cv hV hG
  rw [hro, hrn, hrk]
  exact moves_any D r.right ra rp rc rpc _ V xs G true a av len m cap cv (hr.2.later hV D) (hrd.later hV) hl hm hG
 have HALL : Hid (∀ (V : World) (b : Bool), Calls Tryd.prog 38 #[.int .i64 (len : Int), .bool b] V (BoPost (List.replicate m b) m V)) := fun V b => by rw [hm]; exact all_any len b V (by omega)
 have HST : Hid (st = r.start) := hst
 have hvals : r.vals ⟨la, lc, lp, lpc, ra, rc, rp, rpc⟩ = #[.int .i64 lo, .slice la ln lc, .slice lp lk lpc, .int .i64 ro, .slice ra rn rc, .slice rp rk rpc, .bool br, .bool st] := by simp only [Rl.vals, ← hlo, ← hln, ← hlk, ← hro, ← hrn, ← hrk, ← hst, ← hbr]
 rw [hvals, ← hm]
 obtain ⟨w1, hw1⟩ : ∃ w1, w1 = w.alloc (.cells #[.int .i64 lo, .slice la ln lc, .slice lp lk lpc, .int .i64 ro, .slice ra rn rc, .slice rp rk rpc, .bool br, .bool st] 48) := ⟨_, rfl⟩
 obtain ⟨H, hH⟩ : ∃ H, H = w.heap.size := ⟨_, rfl⟩
 have HB1 : Hid (Below w.heap.size w w1) := by rw [hw1]; exact (Below.refl _ w).alloc (Nat.le_refl _) _
 have hbx : w1.heap[H]? = some (.cells #[.int .i64 lo, .slice la ln lc, .slice lp lk lpc, .int .i64 ro, .slice ra rn rc, .slice rp rk rpc, .bool br, .bool st] 48) := by rw [hw1, hH]; exact heap_alloc_new w _
 have HX : Hid (∀ V : World, Below w1.heap.size w1 V → V.heap[H]? = some (.cells #[.int .i64 lo, .slice la ln lc, .slice lp lk lpc, .int .i64 ro, .slice ra rn rc, .slice rp rk rpc, .bool br, .bool st] 48)) := fun V hV => (hV.block H (Array.getElem?_eq_some_iff.1 hbx).1).trans hbx
 have hli : (len : Int) ≤ 100 := by omega
 have hm0 : 0 < m := by omega
 have hmu : (m : Int) ≤ 101 := by omega
 have HMLI : Hid ((m : Int) = (len : Int) + 1) := by show (m : Int) = (len : Int) + 1; omega
 clear hr hrd hl hm hlo hln hlk hro hrn hrk hst hbr hvals ji jz0 jz1 jz2 hbx
 go_enter Tryd.func39, Tryd.ntmps39
 go_upto_region 1 with fail
 rw [← hw1, ← hH]
 clear hw1 hH
 obtain ⟨s0, s1, s2, s3, s4, s5, s6, s7⟩ := box8 (HX.out w1 (Below.refl _ _))
 go_wp2_with fail
 refine (HALL.out w1 (!st)).mono ?_
 rintro e w2 ⟨v2, rfl, ho2, hb2⟩
 obtain ⟨av2, cv2, rfl⟩ := own_sl1 ho2
 obtain ⟨g, rfl, hgb, cur, hcur, hcell⟩ := own_cells1 ho2 hm0
 have hfz := Lib.frozen_of_heap hcur
 have t0 := hcell 0 hm0
 obtain ⟨z, hz⟩ : ∃ z, ((List.replicate m (!st)).map Value.bool)[0]? = some (.bool z) := get_bool _ 0 m (by have := ho2.1; omega) hm0
 rw [hz] at t0
 obtain ⟨w3, hw3⟩ : ∃ w3, w3 = w2.setCell ⟨g, 0, none⟩ (.bool true) := ⟨_, rfl⟩
 have HB3 : Hid (Below w1.heap.size w1 w3) := by rw [hw3]; exact hb2.setCell (p := ⟨g, 0, none⟩) hgb _
 have HW3 : Hid (Below w.heap.size w w3) := HB1.out.trans (HB3.out.mono HB1.out.size)
 have HR3 : Hid (RdT w3 (some ⟨g, 0, none⟩) m (fromS st len)) := by
  have h1 := own_set1 ho2 0 (.bool true)
  have e1 : ((List.replicate m (!st)).map Value.bool).set 0 (.bool true) = (fromS st len).map Value.bool := by
   rw [HL.out.2, List.replicate_succ]
   rfl
  rw [e1, ← hw3] at h1
  obtain ⟨a', c', he, _, _, h2⟩ := rdT_own h1
  cases he
  exact h2
 have hmpos : (0 : Int) < (m : Int) := by omega
 clear ho2 hb2 hgb hcur hcell hz s0 s1 s2 s3 s4 s5 s6 s7
 go_upto_region 4 with fail
 rw [← hw3]
 clear hw3 t0 hfz
 obtain ⟨s0, s1, s2, s3, s4, s5, s6, s7⟩ := box8 (HX.out w3 HB3.out)
 go_wp2_with fail
 refine (HML.out w3 _ _ cv2 HW3.out HR3.out).mono ?_
 rintro e w4 ⟨a4, c4, A, rfl, hrA, hmA, hb4⟩
 have HB4 : Hid (Below w1.heap.size w1 w4) := HB3.out.trans (hb4.mono HB3.out.size)
 have HW4 : Hid (Below w.heap.size w w4) := HW3.out.trans (hb4.mono HW3.out.size)
 have HRA : Hid (∀ V : World, Below w4.heap.size w4 V → RdT V a4 m A) := fun V hV => hrA.later hV
 have HMA : Hid (MvR false r.left.lg xs (fromS st len) A) := hmA
 have HD4 : Hid (Below w4.heap.size w4 w4.drew) := (Below.refl _ _).drew
 have HSS : Hid (∀ V : World, Below w4.heap.size w4 V → V.cell? ⟨H, 3, none⟩ = some (.int .i64 ro) ∧ V.cell? ⟨H, 4, none⟩ = some (.slice ra rn rc) ∧ V.cell? ⟨H, 5, none⟩ = some (.slice rp rk rpc)) := fun V hV => by
  obtain ⟨_, _, _, u3, u4, u5, _, _⟩ := box8 (HX.out V (HB4.out.trans (hV.mono HB4.out.size)))
  exact ⟨u3, u4, u5⟩
 clear hrA hmA hb4 s0 s1 s2 s3 s4 s5 s6 s7
 go_upto_region 5 with fail
 go_cut [8] (fun x8 wx => ∃ a6 c6 G, x8 = .slice a6 m c6 ∧ RdT wx a6 m G ∧ MvR true r.right.lg xs (List.replicate m true) G ∧ Below w4.heap.size w4 wx)
 case first =>
  go_region_held3 (fun w' => w'.cell? ⟨H, 3, none⟩ = some (.int .i64 ro) ∧ w'.cell? ⟨H, 4, none⟩ = some (.slice ra rn rc) ∧ w'.cell? ⟨H, 5, none⟩ = some (.slice rp rk rpc))
   (first | exact HSS.out _ HD4.out | exact HSS.out _ (Below.refl _ _) | exact HSS.out _ HB5.out | exact HSS.out _ HB6.out.2)
   (first
    | (go_at_call 38; refine (HALL.out _ true).mono ?_; rintro e w5 ⟨v5, rfl, ho5, hb5⟩; obtain ⟨a5, c5, rfl, _, _, hr5⟩ := rdT_own ho5; have HB5 : Hid (Below w4.heap.size w4 w5) := HD4.out.trans (hb5.mono HD4.out.size); have HR5 : Hid (RdT w5 a5 m (List.replicate m true)) := hr5; clear hr5 ho5 hb5)
    | (go_at_call 61; refine (HMR.out _ _ _ _ (HW4.out.trans (HB5.out.mono HW4.out.size)) HR5.out).mono ?_; rintro e w6 ⟨a6, c6, G, rfl, hr6, hm6, hb6⟩; have HB6 : Hid ((RdT w6 a6 m G ∧ MvR true r.right.lg xs (List.replicate m true) G) ∧ Below w4.heap.size w4 w6) := ⟨⟨hr6, hm6⟩, HB5.out.trans (hb6.mono HB5.out.size)⟩; clear hr6 hm6 hb6))
  all_goals
   go_wp2
   go_meet
   exact ⟨a6, c6, G, rfl, HB6.out.1.1, HB6.out.1.2, HB6.out.2⟩
 case rest =>
  obtain ⟨a6, c6, G, hx8, hr6, hm6, hb6⟩ := hcut
  subst hx8
  obtain ⟨w6, hw6⟩ : ∃ W, W = wc := ⟨_, rfl⟩
  rw [← hw6] at hr6 hb6 ⊢
  clear hw6
  have HB6 : Hid (Below w4.heap.size w4 w6) := hb6
  have HW6 : Hid (Below w.heap.size w w6) := HW4.out.trans (hb6.mono HW4.out.size)
  have HR6 : Hid (∀ V : World, Below w6.heap.size w6 V → RdT V a4 m A ∧ RdT V a6 m G) := fun V hV => ⟨HRA.out V (hb6.trans (hV.mono hb6.size)), hr6.later hV⟩
  have HFT : Hid (∀ p, p ≤ len → (A.getD p false && G.getD p false) = r.fit xs p) := by
   intro p hp
   have h1 := HMA.out
   have h2 := hm6
   rw [HST.out] at h1
   rw [HL.out.2] at h2
   rw [← HL.out.1] at h1 h2 hp
   exact where_fit r xs A G h1 h2 p hp
  clear hr6 hm6 hb6 HRA HMA HSS HML HMR HALL
  go_wp2
  go_loopw [9, 10] (fun x9 x10 wr => ∃ k : Nat, k ≤ m ∧ x10 = .int .i64 k ∧ wr.ownsRow w6.heap.size 4 1 x9 k (((ruleL r xs).take k).map Value.bool) ∧ Below w6.heap.size w6 wr) (fun _ x10 _ => m - (intOf x10).toNat)
  case atStart => exact ⟨0, by omega, rfl, World.ownsRow_nil _ _ _ _, Below.refl _ _⟩
  case round =>
   obtain ⟨k, hk, hx10, ho, hbl⟩ := hrel
   subst hx10
   obtain ⟨av, cv, rfl⟩ := own_sl1 ho
   obtain ⟨P, hP⟩ : ∃ P, P = (ruleL r xs).take k := ⟨_, rfl⟩
   rw [← hP] at ho
   have HO : Hid (wr.ownsRow w6.heap.size 4 1 (.slice av k cv) k (P.map Value.bool)) := ho
   have HBL : Hid (Below w6.heap.size w6 wr) := hbl
   have HP : Hid (P = (ruleL r xs).take k) := hP
   clear ho hbl hP
   by_cases hlt : k < m
   ·have hmli := HMLI.out
    have hki : (k : Int) ≤ (len : Int) := by omega
    have hkm : (k : Int) < (m : Int) := by omega
    have HSZ : Hid (w6.heap.size ≤ wr.heap.size) := HBL.out.size
    obtain ⟨z1, z2⟩ := HR6.out wr HBL.out
    obtain ⟨b1, o1, rfl, e1⟩ := z1.2 hm0
    obtain ⟨b2, o2, rfl, e2⟩ := z2.2 hm0
    have t1 := e1 k hlt
    have t2 := e2 k hlt
    obtain ⟨x, hx⟩ : ∃ x, x = A.getD k false := ⟨_, rfl⟩
    obtain ⟨y, hy⟩ : ∃ y, y = G.getD k false := ⟨_, rfl⟩
    have HTK : Hid (P ++ [x && y] = (ruleL r xs).take (k + 1)) := by
     show _ = _
     rw [ruleL_take r xs k (by rw [HL.out.1]; omega), HP.out, hx, hy, HFT.out k (by omega)]
    rw [← hx] at t1
    rw [← hy] at t2
    clear e1 e2 hx hy hmli z1 z2
    cases x
    ·rw [Bool.false_and] at HTK
     go_wp2_with (at_builtin; refine wpList_append_lies _ rfl _ _ 33 rfl w6.heap.size 4 j0 _ 1 1 Tryd.underlying33 HJ.out.1 HJ.out.2.1 HJ.out.2.2.1 HJ.out.2.2.2 rfl (by decide) (.slice av k cv) k (P.map Value.bool) rfl (own_alloc HO.out _) ⟨wr.heap.size, 0, none⟩ 1 1 [.bool false] rfl rfl (World.news_of_block (cs := #[.bool false]) (t := 4) (fr := (0, 0)) (heap_alloc_new wr _)) (by simp [Value.oneCell']) (by omega) (by unfold maxLen; omega) (by omega) (by have := HSZ.out; simp; omega) _ rfl (fun g cp w8 q1 q2 q3 q4 => ?_); have HN := snoc_own HO.out HBL.out g cp q1 q2 rfl; have HNN : Hid (w8.ownsRow w6.heap.size 4 1 (.slice (some ⟨g, 0, none⟩) (k + 1) cp) (k + 1) ((P ++ [false]).map Value.bool) ∧ Below w6.heap.size w6 w8) := HN; clear HN q1 q2 q3 q4)
     go_roundw
     case rel => exact ⟨k + 1, by omega, by go_num, by rw [← HTK.out]; exact HNN.out.1, HNN.out.2⟩
     case measure => simp [intOf]; omega
    ·rw [Bool.true_and] at HTK
     go_wp2_with (at_builtin; refine wpList_append_lies _ rfl _ _ 33 rfl w6.heap.size 4 j0 _ 1 1 Tryd.underlying33 HJ.out.1 HJ.out.2.1 HJ.out.2.2.1 HJ.out.2.2.2 rfl (by decide) (.slice av k cv) k (P.map Value.bool) rfl (own_alloc HO.out _) ⟨wr.heap.size, 0, none⟩ 1 1 [.bool y] rfl rfl (World.news_of_block (cs := #[.bool y]) (t := 4) (fr := (0, 0)) (heap_alloc_new wr _)) (by simp [Value.oneCell']) (by omega) (by unfold maxLen; omega) (by omega) (by have := HSZ.out; simp; omega) _ rfl (fun g cp w8 q1 q2 q3 q4 => ?_); have HN := snoc_own HO.out HBL.out g cp q1 q2 rfl; have HNN : Hid (w8.ownsRow w6.heap.size 4 1 (.slice (some ⟨g, 0, none⟩) (k + 1) cp) (k + 1) ((P ++ [y]).map Value.bool) ∧ Below w6.heap.size w6 w8) := HN; clear HN q1 q2 q3 q4)
     go_roundw
     case rel => exact ⟨k + 1, by omega, by go_num, by rw [← HTK.out]; exact HNN.out.1, HNN.out.2⟩
     case measure => simp [intOf]; omega
   ·obtain rfl : k = m := by omega
    have hmli := HMLI.out
    have hki : ¬ (k : Int) ≤ (len : Int) := by omega
    have HF : Hid (BoPost (ruleL r xs) k w (.returned (.slice av k cv)) wr) := by
     have h1 := HO.out
     rw [HP.out, List.take_of_length_le (by rw [ruleL_len, HL.out.1, ← HL.out.2]; exact Nat.le_refl _)] at h1
     exact ⟨_, rfl, own_base h1 HW6.out.size, HW6.out.trans (HBL.out.mono HW6.out.size)⟩
    clear hmli
    go_wp2
    go_ret
    exact HF.out

end Go.Proofs.YtcafffohnokjgaaDoor

/- The walk of Boundaries of the reference of reading. -/
namespace Go.Proofs.YtcafffohnokjgaaDoor
open Go.RowKit
set_option linter.unusedVariables false
set_option linter.unusedSimpArgs false

def mixB (l : List Rl) (xs : List Int) (i p : Nat) : List Bool := (List.range (xs.length + 1)).map fun j => if j < p then boundAt (l.drop i) xs j else boundAt (l.drop (i + 1)) xs j
theorem mixB_len (l : List Rl) (xs : List Int) (i p : Nat) : (mixB l xs i p).length = xs.length + 1 := by simp [mixB]
theorem bound_end (l l' : List Rl) (xs : List Int) (j : Nat) (h : j = 0 ∨ j = xs.length) : boundAt l xs j = boundAt l' xs j := by
 unfold boundAt; rw [if_pos h, if_pos h]
theorem mixB_begin (l : List Rl) (xs : List Int) (i : Nat) : mixB l xs i 1 = boundL (l.drop (i + 1)) xs := by
 unfold mixB boundL
 apply List.map_congr_left
 intro j _
 split
 ·exact bound_end _ _ _ _ (by omega)
 ·rfl
theorem mixB_all (l : List Rl) (xs : List Int) (i p : Nat) (h : xs.length ≤ p) : mixB l xs i p = boundL (l.drop i) xs := by
 unfold mixB boundL
 apply List.map_congr_left
 intro j hj
 rw [List.mem_range] at hj
 split
 ·rfl
 ·exact bound_end _ _ _ _ (by omega)
theorem bound_step (l : List Rl) (xs : List Int) (i p : Nat) (hi : i < l.length) (h0 : 0 < p) (h1 : p < xs.length) : boundAt (l.drop i) xs p = if l[i].fit xs p then l[i].brk else boundAt (l.drop (i + 1)) xs p := by
 unfold boundAt
 have hn : ¬ (p = 0 ∨ p = xs.length) := by omega
 rw [if_neg hn, if_neg hn, List.drop_eq_getElem_cons hi]
 rfl
theorem mixB_set (l : List Rl) (xs : List Int) (i p : Nat) (hp : p ≤ xs.length) (b : Bool) (hb : b = boundAt (l.drop i) xs p) : (mixB l xs i p).set p b = mixB l xs i (p + 1) := by
 apply List.ext_getElem?
 intro j
 rw [List.getElem?_set]
 have hl := mixB_len l xs i p
 split
 ·rename_i h
  subst h
  rw [if_pos (by omega), hb]
  unfold mixB
  rw [List.getElem?_map, List.getElem?_range (by omega)]
  simp
 ·rename_i h
  unfold mixB
  rw [List.getElem?_map, List.getElem?_map]
  rcases Nat.lt_or_ge j (xs.length + 1) with hj | hj
  ·rw [List.getElem?_range hj]
   simp only [Option.map_some]
   congr 1
   by_cases h2 : j < p
   ·rw [if_pos h2, if_pos (by omega)]
   ·rw [if_neg h2, if_neg (by omega)]
  ·rw [List.getElem?_eq_none (by simpa using hj)]
   rfl
theorem mixB_same (l : List Rl) (xs : List Int) (i p : Nat) (h : boundAt (l.drop i) xs p = boundAt (l.drop (i + 1)) xs p) : mixB l xs i p = mixB l xs i (p + 1) := by
 unfold mixB
 apply List.map_congr_left
 intro j _
 by_cases h2 : j < p
 ·rw [if_pos h2, if_pos (by omega)]
 ·by_cases h3 : j = p
  ·subst h3
   rw [if_neg h2, if_pos (by omega), h]
  ·rw [if_neg h2, if_neg (by omega)]
theorem own_blk {w : World} {B : Nat} {e : TypeId} {n : Nat} {a : Option Addr} {cap : Nat} {vs : List Value} (h : w.ownsRow B e 1 (.slice a n cap) n vs) (hn : 0 < n) : ∃ g, a = some ⟨g, 0, none⟩ ∧ B ≤ g := by
 obtain ⟨g, h1, h2, _⟩ := own_cells1 h hn
 exact ⟨g, h1, h2⟩
theorem bound_none (xs : List Int) (p : Nat) (hp : p ≤ xs.length) : boundAt [] xs p = decide (0 < xs.length) := by
 unfold boundAt
 split
 ·rfl
 ·rename_i h
  simp only [saysB]
  symm
  rw [decide_eq_true_eq]
  omega
theorem own_same {w w' : World} {B : Nat} {e : TypeId} {s n : Nat} {v : Value} {xs : List Value} (h : w.ownsRow B e s v n xs) (hs : ∀ g, v.ownBlock = some g → w'.heap[g]? = w.heap[g]?) : w'.ownsRow B e s v n xs := by
 refine ⟨h.1, ?_⟩
 rcases h.2 with h2 | ⟨g, cap, cur, hv, hb, hg, r⟩
 ·exact .inl h2
 ·exact .inr ⟨g, cap, cur, hv, hb, (hs g (by rw [hv]; rfl)).trans hg, r⟩
theorem bound_all (xs : List Int) (m : Nat) (hm : m = xs.length + 1) : List.replicate m (decide (0 < xs.length)) = boundL [] xs := by
 subst hm
 apply List.ext_getElem
 ·simp [boundL]
 ·intro i h1 h2
  simp only [List.getElem_replicate, boundL, List.getElem_map, List.getElem_range]
  rw [bound_none xs i (by simp at h1; omega)]
set_option maxRecDepth 100000 in
set_option maxHeartbeats 16000000 in
theorem boundR_any (D : Nat) (l : List Rl) (xs : List Int) (al a : Option Addr) (n c len cap : Nat) (w : World) (hrow : RowR w D al n l) (hn : n ≤ 1000) (hrd : Rd .i64 w a len xs) (hl : len ≤ 100) :
 Calls Tryd.prog 26 #[.slice al n c, .slice a len cap] w (BoPost (boundL l xs) (len + 1) w) := by
 obtain ⟨m, hm⟩ : ∃ m, m = len + 1 := ⟨_, rfl⟩
 have HL : Hid (xs.length = len ∧ m = len + 1 ∧ l.length = n) := ⟨hrd.1, hm, hrow.1⟩
 have HD : Hid (RowR w D al n l) := hrow
 have HWH : Hid (∀ (V : World) (r : Rl) (q : RlP), Below w.heap.size w V → RlAt V D r q → Calls Tryd.prog 39 #[.agg (r.vals q), .slice a len cap] V (BoPost (ruleL r xs) m V)) := fun V r q hV hr => by rw [hm]; exact where_any D r q xs a len cap V hr (hrd.later hV) hl
 obtain ⟨pos, hpos⟩ : ∃ pos, pos = decide (0 < len) := ⟨_, rfl⟩
 have HALL : Hid (Calls Tryd.prog 38 #[.int .i64 (len : Int), .bool pos] w (BoPost (List.replicate m pos) m w)) := by rw [hm]; exact all_any len pos w (by omega)
 have HBA : Hid (List.replicate m pos = boundL (l.drop n) xs) := by
  show _ = _
  rw [List.drop_eq_nil_of_le (by rw [hrow.1]; exact Nat.le_refl _), hpos, ← hrd.1]
  exact bound_all xs m (by rw [hrd.1]; exact hm)
 rw [← hm]
 have hli : (len : Int) ≤ 100 := by omega
 have hni : (n : Int) ≤ 1000 := by omega
 have hm0 : 0 < m := by omega
 have hmu : (m : Int) ≤ 101 := by omega
 have HMLI : Hid ((m : Int) = (len : Int) + 1) := by show (m : Int) = (len : Int) + 1; omega
 have hp2 : decide (0 < len) = pos := hpos.symm
 clear hrow hrd hl hm hpos
 go_enter Tryd.func26, Tryd.ntmps26
 go_wp2_with fail
 refine HALL.out.mono ?_
 rintro e w1 ⟨v1, rfl, ho1, hb1⟩
 obtain ⟨av, cv, rfl⟩ := own_sl1 ho1
 obtain ⟨g, rfl, hgb⟩ := own_blk ho1 hm0
 rw [HBA.out] at ho1
 have HO1 : Hid (w1.ownsRow w.heap.size 4 1 (.slice (some ⟨g, 0, none⟩) m cv) m ((boundL (l.drop n) xs).map Value.bool) ∧ Below w.heap.size w w1) := ⟨ho1, hb1⟩
 have HGB : Hid (w.heap.size ≤ g) := hgb
 clear ho1 hb1 hgb HALL hp2
 go_wp2
 go_loopw [7, 8, 9] (fun x7 _ _ wr => ∃ i : Nat, i ≤ n ∧ x7 = .int .i64 ((i : Int) - 1) ∧ wr.ownsRow w.heap.size 4 1 (.slice (some ⟨g, 0, none⟩) m cv) m ((boundL (l.drop i) xs).map Value.bool) ∧ Below w.heap.size w wr) (fun x7 _ _ _ => (intOf x7 + 1).toNat)
 case atStart => exact ⟨n, by omega, by go_num, HO1.out.1, HO1.out.2⟩
 case round =>
  obtain ⟨wo, hwo⟩ : ∃ W : World, W = wr := ⟨_, rfl⟩
  subst hwo
  obtain ⟨i, hi, hx7, ho, hbl⟩ := hrel
  subst hx7
  have HO : Hid (wo.ownsRow w.heap.size 4 1 (.slice (some ⟨g, 0, none⟩) m cv) m ((boundL (l.drop i) xs).map Value.bool)) := ho
  have HBL : Hid (Below w.heap.size w wo) := hbl
  clear ho hbl HO1
  rcases Nat.eq_zero_or_pos i with h0 | h0
  ·subst h0
   have hm1 : decide (((0 : Nat) : Int) - 1 ≥ 0) = false := by simp
   have HF : Hid (BoPost (boundL l xs) m w (.returned (.slice (some ⟨g, 0, none⟩) m cv)) wo) := ⟨_, rfl, by have := HO.out; rw [List.drop_zero] at this; exact this, HBL.out⟩
   go_wp2
   go_ret
   exact HF.out
  ·obtain ⟨j, hj⟩ : ∃ j : Nat, j + 1 = i := ⟨i - 1, by omega⟩
   have hji : (i : Int) - 1 = (j : Int) := by omega
   rw [hji]
   have hjl : j < l.length := by rw [HL.out.2.2]; omega
   have hjn : (j : Int) < (n : Int) := by omega
   have hj0 : (0 : Int) ≤ (j : Int) := by omega
   rw [← hj] at HO
   have HJI : Hid (j + 1 = i) := hj
   clear hji hj
   obtain ⟨b, off, q, rfl, hr, t0, t1, t2, t3, t4, t5, t6, t7⟩ := (HD.out.later HBL.out).cells j hjl
   have HCC : Hid (Calls Tryd.prog 39 #[.agg (l[j].vals q), .slice a len cap] wo (BoPost (ruleL l[j] xs) m wo)) := HWH.out wo l[j] q HBL.out hr
   obtain ⟨r, hrr⟩ : ∃ r, r = l[j] := ⟨_, rfl⟩
   rw [← hrr] at t0 t1 t2 t3 t4 t5 t6 t7 HCC
   have HRR : Hid (r = l[j]) := hrr
   obtain ⟨la, lc, lp, lpc, ra, rc, rp, rpc⟩ := q
   obtain ⟨lo, hlo⟩ : ∃ lo, lo = r.left.op := ⟨_, rfl⟩
   obtain ⟨ln, hln⟩ : ∃ ln, ln = r.left.cl.length := ⟨_, rfl⟩
   obtain ⟨lk, hlk⟩ : ∃ lk, lk = (toL r.left.kids).length := ⟨_, rfl⟩
   obtain ⟨ro, hro⟩ : ∃ ro, ro = r.right.op := ⟨_, rfl⟩
   obtain ⟨rn, hrn⟩ : ∃ rn, rn = r.right.cl.length := ⟨_, rfl⟩
   obtain ⟨rk, hrk⟩ : ∃ rk, rk = (toL r.right.kids).length := ⟨_, rfl⟩
   obtain ⟨st, hst⟩ : ∃ st, st = r.start := ⟨_, rfl⟩
   obtain ⟨br, hbr⟩ : ∃ br, br = r.brk := ⟨_, rfl⟩
   have HBR : Hid (br = r.brk) := hbr
   simp only [Rl.vals, ← hlo, ← hln, ← hlk, ← hro, ← hrn, ← hrk, ← hst, ← hbr] at HCC t0 t1 t2 t3 t4 t5 t6 t7
   have HT6 : Hid (∀ V : World, Below w.heap.size w V → V.cell? ⟨b, off + j * 8 + 6, none⟩ = some (.bool br)) := by
    intro V hV
    obtain ⟨b', off', q', he, _, _, _, _, _, _, _, u6, _⟩ := (HD.out.later hV).cells j hjl
    cases he
    rw [HBR.out, HRR.out]
    exact u6
   clear hr hrr hlo hln hlk hro hrn hrk hst hbr
   go_wp2_with fail
   refine HCC.out.mono ?_
   rintro e w2 ⟨v2, rfl, ho2, hb2⟩
   obtain ⟨a2, c2, rfl⟩ := own_sl1 ho2
   obtain ⟨y, rfl, hyb⟩ := own_blk ho2 hm0
   have HW2 : Hid (w2.ownsRow wo.heap.size 4 1 (.slice (some ⟨y, 0, none⟩) m c2) m ((ruleL r xs).map Value.bool)) := ho2
   have hgo : g < wo.heap.size := by
    have := HO.out.lt g rfl
    exact this.2
   have hyg : y ≠ g := by omega
   have HO2 : Hid (w2.ownsRow w.heap.size 4 1 (.slice (some ⟨g, 0, none⟩) m cv) m ((mixB l xs j 1).map Value.bool)) := by
    show World.ownsRow _ _ _ _ _ _ _
    rw [mixB_begin]
    exact own_later5 HO.out hb2
   have HB2 : Hid (Below w.heap.size w w2) := HBL.out.trans (hb2.mono HBL.out.size)
   clear ho2 hb2 hyb HCC t0 t1 t2 t3 t4 t5 t6 t7
   go_wp2
   go_loopw [9] (fun x9 wr => ∃ p : Nat, 1 ≤ p ∧ (p ≤ len ∨ p = 1) ∧ x9 = .int .i64 p ∧ wr.ownsRow w.heap.size 4 1 (.slice (some ⟨g, 0, none⟩) m cv) m ((mixB l xs j p).map Value.bool) ∧ wr.ownsRow wo.heap.size 4 1 (.slice (some ⟨y, 0, none⟩) m c2) m ((ruleL r xs).map Value.bool) ∧ Below w.heap.size w wr) (fun x9 _ => len - (intOf x9).toNat)
   case atStart => exact ⟨1, by omega, .inr rfl, rfl, HO2.out, HW2.out, HB2.out⟩
   case round =>
    obtain ⟨p, hp1, hp2, hx9, hop, hwp, hbp⟩ := hrel
    subst hx9
    have HOP : Hid (wr.ownsRow w.heap.size 4 1 (.slice (some ⟨g, 0, none⟩) m cv) m ((mixB l xs j p).map Value.bool)) := hop
    have HWP : Hid (wr.ownsRow wo.heap.size 4 1 (.slice (some ⟨y, 0, none⟩) m c2) m ((ruleL r xs).map Value.bool)) := hwp
    have HBP : Hid (Below w.heap.size w wr) := hbp
    clear hop hwp hbp HO2 HW2
    by_cases hlt : p < len
    ·have hpi : (p : Int) < (len : Int) := by omega
     have hmli := HMLI.out
     have hpm : (p : Int) < (m : Int) := by omega
     have hp0 : (0 : Int) ≤ (p : Int) := by omega
     obtain ⟨a', c', he, _, _, hrw⟩ := rdT_own HWP.out
     cases he
     obtain ⟨by', oy, hey, hcy⟩ := hrw.2 hm0
     cases hey
     have z1 := hcy p (by omega)
     rw [Nat.zero_add, ruleL_get r xs p (by rw [HL.out.1]; omega)] at z1
     obtain ⟨f, hf⟩ : ∃ f, f = r.fit xs p := ⟨_, rfl⟩
     rw [← hf] at z1
     have hst := bound_step l xs j p hjl (by omega) (by rw [HL.out.1]; exact hlt)
     rw [← HRR.out, ← hf, ← HBR.out] at hst
     clear hrw hcy hf hmli
     cases f with
     | false =>
       have HN : Hid (wr.ownsRow w.heap.size 4 1 (.slice (some ⟨g, 0, none⟩) m cv) m ((mixB l xs j (p + 1)).map Value.bool)) := by
        show World.ownsRow _ _ _ _ _ _ _
        rw [← mixB_same l xs j p (by rw [hst]; rfl)]
        exact HOP.out
       clear hst
       go_wp2
       go_roundw
       case rel => exact ⟨p + 1, by omega, by omega, by go_num, HN.out, HWP.out, HBP.out⟩
       case measure => simp [intOf]; omega
     | true =>
       obtain ⟨g2, hg2, _, cur, hcur, hcell⟩ := own_cells1 HOP.out hm0
       have hgg : g = g2 := by simpa using hg2
       have hml2 := HMLI.out
       have t3 := hcell p (by omega)
       obtain ⟨z, hz⟩ : ∃ z, ((mixB l xs j p).map Value.bool)[p]? = some (.bool z) := get_bool _ p m (by have := HOP.out.1; omega) (by omega)
       rw [hz] at t3
       have hfz := Lib.frozen_of_heap hcur
       rw [← hgg] at t3 hfz
       have t6 := HT6.out wr HBP.out
       have HN : Hid ((wr.setCell ⟨g, p, none⟩ (.bool br)).ownsRow w.heap.size 4 1 (.slice (some ⟨g, 0, none⟩) m cv) m ((mixB l xs j (p + 1)).map Value.bool) ∧ (wr.setCell ⟨g, p, none⟩ (.bool br)).ownsRow wo.heap.size 4 1 (.slice (some ⟨y, 0, none⟩) m c2) m ((ruleL r xs).map Value.bool) ∧ Below w.heap.size w (wr.setCell ⟨g, p, none⟩ (.bool br))) := by
        refine ⟨?_, own_same HWP.out (fun y' hy' => Below.heap_setCell _ _ _ _ (fun e => ?_)), HBP.out.setCell (p := ⟨g, p, none⟩) HGB.out _⟩
        ·have h1 := own_set1 HOP.out p (.bool br)
         rw [← mixB_set l xs j p (by rw [HL.out.1]; omega) br (by rw [hst]; rfl), List.map_set]
         exact h1
        ·injection hy' with hy'
         apply hyg
         exact (show y = y' from hy').trans e
       clear hst hcell hcur hz hg2 hgg hml2
       go_wp2
       go_roundw
       case rel => exact ⟨p + 1, by omega, by omega, by go_num, HN.out.1, HN.out.2.1, HN.out.2.2⟩
       case measure => simp [intOf]; omega
    ·have hpi : ¬ (p : Int) < (len : Int) := by omega
     have HN : Hid (wr.ownsRow w.heap.size 4 1 (.slice (some ⟨g, 0, none⟩) m cv) m ((boundL (l.drop j) xs).map Value.bool)) := by
      show World.ownsRow _ _ _ _ _ _ _
      rw [← mixB_all l xs j p (by rw [HL.out.1]; omega)]
      exact HOP.out
     go_wp2
     go_roundw
     case rel => exact ⟨j, by omega, by go_num, HN.out, HBP.out⟩
     case measure => have := HJI.out; first | (simp [intOf]; done) | (simp [intOf]; omega)
end Go.Proofs.YtcafffohnokjgaaDoor
