/- In one text: DfaA, DfaB, DfaC, DfaD, DfaE, NfaEa, DfaM, DfaN, DfaO, DfaQ, DfaR. -/
import Derived.Test.YtclogekfdmikpaaDoorJ04
import Derived.Laws.BitsAllLaws
import Derived.Test.YtclogekfdmikpaaDoorJ01
/- The walk of below: are all classes of an expression below a number? -/
namespace Go.Proofs.YtclogekfdmikpaaDoor
open Go.RowKit
set_option linter.unusedVariables false
set_option linter.unusedSimpArgs false

def belF (K : Int) : Fo → Bool
 | .nil => true
 | .node _ _ a k r => (a.2.all (fun c => decide (c < K)) && belF K k) && belF K r
def Nd.bel (K : Int) (n : Nd) : Bool := n.cl.all (fun c => decide (c < K)) && belF K n.kids
theorem belF_all (K : Int) : (f : Fo) → belF K f = (toL f).all (Nd.bel K)
 | .nil => rfl
 | .node _ _ a k r => by simp only [belF, toL, List.all_cons, belF_all K r]; rfl
theorem bel_eq (K : Int) (n : Nd) : n.bel K = (n.cl.all (fun c => decide (c < K)) && (toL n.kids).all (Nd.bel K)) := by
 show (n.cl.all (fun c => decide (c < K)) && belF K n.kids) = _
 rw [belF_all]
def BlC (d : Nat) : Prop := ∀ (n : Nd) (ca pa : Option Addr) (cc pc : Nat) (C : Int) (w0 w : World), InV w0.heap.size w0 d n [.int .i64 n.op, .slice ca n.cl.length cc, .slice pa (toL n.kids).length pc] → Below w0.heap.size w0 w →
 Calls Tryd.prog 61 #[.agg #[.int .i64 n.op, .slice ca n.cl.length cc, .slice pa (toL n.kids).length pc], .int .i64 C] w fun e w' => e = .returned (.bool (n.bel C)) ∧ Below w.heap.size w w'
set_option maxHeartbeats 8000000 in
theorem bl_up (d : Nat) (HP : ∀ d', d' < d → BlC d') : BlC d := by
 intro n ca pa cc pc C w0 w hin hb0
 have HPC : Hid (∀ d', d' < d → BlC d') := HP
 have HIN : Hid (InV w0.heap.size w0 d n [.int .i64 n.op, .slice ca n.cl.length cc, .slice pa (toL n.kids).length pc]) := hin
 have hbd := hin.bounds
 obtain ⟨hrd, hcl⟩ := hin.classes
 obtain ⟨op, hop⟩ : ∃ op, op = n.op := ⟨_, rfl⟩
 obtain ⟨cn, hcn⟩ : ∃ cn, cn = n.cl.length := ⟨_, rfl⟩
 obtain ⟨K, hK⟩ : ∃ K, K = (toL n.kids).length := ⟨_, rfl⟩
 have hKi : (K : Int) ≤ 2600000000000 := by omega
 have hci : (cn : Int) ≤ 140737488355328 := by omega
 obtain ⟨wA, hwA⟩ : ∃ wA, wA = w.alloc (.cells #[.int .i64 op, .slice ca cn cc, .slice pa K pc] 56) := ⟨_, rfl⟩
 obtain ⟨H, hH⟩ : ∃ H, H = w.heap.size := ⟨_, rfl⟩
 have HB : Hid (Below w.heap.size w wA) := by rw [hwA]; exact (Below.refl _ w).alloc (Nat.le_refl _) _
 have HA0 : Hid (Below w0.heap.size w0 wA) := hb0.trans (HB.out.mono hb0.size)
 have hbx : wA.heap[H]? = some (.cells #[.int .i64 op, .slice ca cn cc, .slice pa K pc] 56) := by rw [hwA, hH]; exact heap_alloc_new w _
 have HBX : Hid (wA.heap[H]? = some (.cells #[.int .i64 op, .slice ca cn cc, .slice pa K pc] 56)) := hbx
 have e1 : wA.cell? ⟨H, 1, none⟩ = some (.slice ca cn cc) := cell_of_row wA H 1 _ _ _ hbx
 have e2 : wA.cell? ⟨H, 2, none⟩ = some (.slice pa K pc) := cell_of_row wA H 2 _ _ _ hbx
 have HRD : Hid (Rd .i64 wA ca cn n.cl) := by rw [hcn]; exact hrd.later HA0.out
 obtain ⟨R, hR⟩ : ∃ R, R = n.bel C := ⟨_, rfl⟩
 have HR : Hid (R = (n.cl.all (fun c => decide (c < C)) && (toL n.kids).all (Nd.bel C))) := by show _ = _; rw [hR, bel_eq]
 have HK : Hid (K = (toL n.kids).length) := hK
 have HCN : Hid (cn = n.cl.length) := hcn
 rw [← hop, ← hcn, ← hK, ← hR]
 clear HP hin hbd hrd hcl hop hcn hK hR hbx
 go_enter Tryd.func61, Tryd.ntmps61
 go_upto_region 1 with fail
 rw [← hH, ← hwA]
 clear hH hwA
 go_wp2
 go_loop [12] (fun x12 => ∃ k : Nat, k ≤ cn ∧ x12 = .int .i64 k ∧ (n.cl.take k).all (fun c => decide (c < C)) = true) (fun x12 => cn - (intOf x12).toNat)
 case atStart => exact ⟨0, by omega, rfl, rfl⟩
 case round =>
  obtain ⟨k, hk, hx12, hall⟩ := hrel
  subst hx12
  have HALL : Hid ((n.cl.take k).all (fun c => decide (c < C)) = true) := hall
  clear hall
  by_cases hlt : k < cn
  ·have hkl : k < n.cl.length := by rw [← HCN.out]; exact hlt
   obtain ⟨b, off, rfl, hcl⟩ := HRD.out.2 (by omega)
   have hcc := hcl k hlt
   obtain ⟨x, hx⟩ : ∃ x, x = n.cl.getD k 0 := ⟨_, rfl⟩
   have hxk : x = n.cl[k] := by rw [hx]; simp [hkl]
   rw [← hx] at hcc
   have HX : Hid (x = n.cl[k]) := hxk
   clear hcl hx hxk
   by_cases h2 : C ≤ x
   ·have hR : R = false := by
     rw [HR.out]
     have : n.cl.all (fun c => decide (c < C)) = false := by
      rw [List.all_eq_false]
      exact ⟨n.cl[k], List.getElem_mem hkl, by rw [← HX.out]; simp; omega⟩
     rw [this]; rfl
    subst hR
    go_wp2
    go_ret
    exact ⟨rfl, HB.out⟩
   ·have h2' : x < C := by omega
    have HNX : Hid ((n.cl.take (k + 1)).all (fun c => decide (c < C)) = true) := by
     show _ = _
     rw [take_snoc n.cl k hkl, List.all_append, HALL.out, ← HX.out]
     simp [h2']
    clear h2
    go_wp2
    go_round
    case rel => exact ⟨k + 1, by omega, by go_num, HNX.out⟩
    case measure => simp [intOf]; omega
  ·have HCL : Hid (n.cl.all (fun c => decide (c < C)) = true) := by
    show _ = _
    rw [← HALL.out, List.take_of_length_le (by rw [← HCN.out]; omega)]
   clear HALL
   go_wp2
   go_loopw [23] (fun x23 wr => ∃ k : Nat, k ≤ K ∧ x23 = .int .i64 k ∧ Below w.heap.size w wr ∧ ((toL n.kids).take k).all (Nd.bel C) = true) (fun x23 _ => K - (intOf x23).toNat)
   case atStart => exact ⟨0, by omega, rfl, HB.out, rfl⟩
   case round =>
    obtain ⟨k, hk, hx23, hbw, hall⟩ := hrel
    subst hx23
    have HBW0 : Hid (Below w.heap.size w wr) := hbw
    have HALL : Hid (((toL n.kids).take k).all (Nd.bel C) = true) := hall
    have HW0 : Hid (Below w0.heap.size w0 wr) := hb0.trans (hbw.mono hb0.size)
    clear hbw hall
    by_cases hlt : k < K
    ·have hkn : k < (toL n.kids).length := by rw [← HK.out]; exact hlt
     obtain ⟨b, off, xa, xc, ya, yc, d', hpa, hkid, hd', c0', c1', c2'⟩ := HIN.out.kid k hkn
     subst hpa
     have c0 := upC HW0.out c0'
     have c1 := upC HW0.out c1'
     have c2 := upC HW0.out c2'
     have HV : Hid (∀ W1 : World, Below wr.heap.size wr W1 → Calls Tryd.prog 61 #[.agg #[.int .i64 (toL n.kids)[k].op, .slice xa (toL n.kids)[k].cl.length xc, .slice ya (toL (toL n.kids)[k].kids).length yc], .int .i64 C] W1 fun e w' => e = .returned (.bool ((toL n.kids)[k].bel C)) ∧ Below W1.heap.size W1 w') := by
      intro W1 hW1
      exact HPC.out d' (by omega) (toL n.kids)[k] xa ya xc yc C w0 W1 hkid (HW0.out.trans (hW1.mono HW0.out.size))
     obtain ⟨xo, hxo⟩ : ∃ xo, xo = (toL n.kids)[k].op := ⟨_, rfl⟩
     obtain ⟨xn, hxn⟩ : ∃ xn, xn = (toL n.kids)[k].cl.length := ⟨_, rfl⟩
     obtain ⟨xk, hxk⟩ : ∃ xk, xk = (toL (toL n.kids)[k].kids).length := ⟨_, rfl⟩
     obtain ⟨z, hz⟩ : ∃ z, z = (toL n.kids)[k].bel C := ⟨_, rfl⟩
     rw [← hxo] at c0 HV
     rw [← hxn] at c1 HV
     rw [← hxk] at c2 HV
     rw [← hz] at HV
     have HZ : Hid (z = (toL n.kids)[k].bel C) := hz
     obtain ⟨W1, hW1⟩ : ∃ W1, W1 = wr.alloc (.cells #[.int .i64 xo, .slice xa xn xc, .slice ya xk yc] 56) := ⟨_, rfl⟩
     have HBW : Hid (Below wr.heap.size wr W1) := by rw [hW1]; exact (Below.refl _ wr).alloc (Nat.le_refl _) _
     have HCC := HV.out W1 HBW.out
     have HC : Hid (Calls Tryd.prog 61 #[.agg #[.int .i64 xo, .slice xa xn xc, .slice ya xk yc], .int .i64 C] W1 fun e w' => e = .returned (.bool z) ∧ Below W1.heap.size W1 w') := HCC
     clear HCC HV hkid c0' c1' c2' hxo hxn hxk hz hd'
     go_wp2_with fail
     rw [← hW1]
     clear hW1 c0 c1 c2
     refine HC.out.mono ?_
     rintro e w3 ⟨rfl, hb3⟩
     have HB3 : Hid (Below w.heap.size w w3) := HBW0.out.trans ((HBW.out.trans (hb3.mono HBW.out.size)).mono HBW0.out.size)
     clear hb3 HC
     cases z with
     | false =>
       have hR : R = false := by
        rw [HR.out]
        have : (toL n.kids).all (Nd.bel C) = false := by
         rw [List.all_eq_false]
         exact ⟨(toL n.kids)[k], List.getElem_mem hkn, by rw [← HZ.out]; simp⟩
        rw [this, Bool.and_false]
       subst hR
       go_wp2
       go_ret
       exact ⟨rfl, HB3.out⟩
     | true =>
       have HNX : Hid (((toL n.kids).take (k + 1)).all (Nd.bel C) = true) := by
        show _ = _
        rw [take_snoc _ k hkn, List.all_append, HALL.out]
        simp [← HZ.out]
       go_wp2
       go_roundw
       case rel => exact ⟨k + 1, by omega, by go_num, HB3.out, HNX.out⟩
       case measure => simp [intOf]; omega
    ·have hR : R = true := by
      have h1 := HALL.out
      rw [List.take_of_length_le (by rw [← HK.out]; omega)] at h1
      rw [HR.out, HCL.out, h1]; rfl
     subst hR
     go_wp2
     go_ret
     exact ⟨rfl, HBW0.out⟩
theorem bl_any : (d : Nat) → BlC d := fun d => Nat.strongRecOn d fun d ih => bl_up d ih
theorem below_any (D : Nat) (n : Nd) (ca pa : Option Addr) (cc pc : Nat) (C : Int) (w : World) (hin : InV w.heap.size w D n [.int .i64 n.op, .slice ca n.cl.length cc, .slice pa (toL n.kids).length pc]) :
 Calls Tryd.prog 61 #[.agg #[.int .i64 n.op, .slice ca n.cl.length cc, .slice pa (toL n.kids).length pc], .int .i64 C] w fun e w' => e = .returned (.bool (n.bel C)) ∧ Below w.heap.size w w' :=
 bl_any D n ca pa cc pc C w w hin (Below.refl _ w)
end Go.Proofs.YtclogekfdmikpaaDoor

/- The walk of allowed: may there be a machine of these? -/
namespace Go.Proofs.YtclogekfdmikpaaDoor
open Go.RowKit
set_option linter.unusedVariables false
set_option linter.unusedSimpArgs false

def XRow (B : Nat) (w : World) (D : Nat) (a : Option Addr) (xs : List (Nd × Bool)) : Prop := 0 < xs.length → ∃ b off, a = some ⟨b, off, none⟩ ∧ ∀ i (hi : i < xs.length), ∃ us, InV B w D xs[i].1 us ∧ (∀ j v, us[j]? = some v → w.cell? ⟨b, off + i * 4 + j, none⟩ = some v) ∧ w.cell? ⟨b, off + i * 4 + 3, none⟩ = some (.bool xs[i].2)
theorem XRow.later {B : Nat} {w w' : World} {D : Nat} {a : Option Addr} {xs : List (Nd × Bool)} (h : XRow B w D a xs) (hb : Below w.heap.size w w') : XRow B w' D a xs := by
 intro hp
 obtain ⟨b, off, e, hk⟩ := h hp
 refine ⟨b, off, e, fun i hi => ?_⟩
 obtain ⟨us, h1, h2, h3⟩ := hk i hi
 exact ⟨us, h1.later hb D, fun j v hv => upC hb (h2 j v hv), upC hb h3⟩
def alwB (K : Int) (xs : List (Nd × Bool)) : Bool := decide (1 ≤ K) && decide (K ≤ 24) && decide (xs.length ≤ 64) && xs.all (fun x => x.1.ok && x.1.bel K)
set_option maxHeartbeats 8000000 in
theorem allowed_any (D : Nat) (K : Int) (xs : List (Nd × Bool)) (a : Option Addr) (cap : Nat) (w : World) (hx : XRow w.heap.size w D a xs) (hl : xs.length ≤ 2600000000000) :
 Calls Tryd.prog 42 #[.int .i64 K, .slice a xs.length cap] w fun e w' => e = .returned (.bool (alwB K xs)) ∧ Below w.heap.size w w' := by
 obtain ⟨n, hn⟩ : ∃ n, n = xs.length := ⟨_, rfl⟩
 have HN : Hid (n = xs.length) := hn
 have HX : Hid (XRow w.heap.size w D a xs) := hx
 have hni : (n : Int) ≤ 2600000000000 := by omega
 obtain ⟨R, hR⟩ : ∃ R, R = alwB K xs := ⟨_, rfl⟩
 have HR : Hid (R = (decide (1 ≤ K) && decide (K ≤ 24) && decide (n ≤ 64) && xs.all (fun x => x.1.ok && x.1.bel K))) := by show _ = _; rw [hR, hn]; rfl
 rw [← hn, ← hR]
 clear hn hx hl hR
 by_cases h1 : K < 1
 ·have hR : R = false := by rw [HR.out, decide_eq_false (by omega : ¬ 1 ≤ K)]; rfl
  subst hR
  go_enter Tryd.func42, Tryd.ntmps42
  go_wp2
  go_ret
  exact ⟨rfl, Below.refl _ w⟩
 by_cases h2 : 24 < K
 ·have hR : R = false := by rw [HR.out, decide_eq_false (by omega : ¬ K ≤ 24)]; simp
  subst hR
  have h1' : 1 ≤ K := by omega
  clear h1
  go_enter Tryd.func42, Tryd.ntmps42
  go_wp2
  go_ret
  exact ⟨rfl, Below.refl _ w⟩
 have h1' : 1 ≤ K := by omega
 have h2' : K ≤ 24 := by omega
 clear h1 h2
 by_cases h3 : 64 < n
 ·have hR : R = false := by rw [HR.out, decide_eq_false (by omega : ¬ n ≤ 64)]; simp
  subst hR
  go_enter Tryd.func42, Tryd.ntmps42
  go_wp2
  go_ret
  exact ⟨rfl, Below.refl _ w⟩
 have h3' : n ≤ 64 := by omega
 have HR' : Hid (R = xs.all (fun x => x.1.ok && x.1.bel K)) := by show _ = _; rw [HR.out]; simp [h1', h2', h3']
 clear h3 HR
 go_enter Tryd.func42, Tryd.ntmps42
 go_wp2
 go_loopw [20] (fun x20 wr => ∃ k : Nat, k ≤ n ∧ x20 = .int .i64 k ∧ Below w.heap.size w wr ∧ (xs.take k).all (fun x => x.1.ok && x.1.bel K) = true) (fun x20 _ => n - (intOf x20).toNat)
 case atStart => exact ⟨0, by omega, rfl, Below.refl _ w, rfl⟩
 case round =>
  obtain ⟨k, hk, hx20, hbw, hall⟩ := hrel
  subst hx20
  have HBW0 : Hid (Below w.heap.size w wr) := hbw
  have HALL : Hid ((xs.take k).all (fun x => x.1.ok && x.1.bel K) = true) := hall
  clear hbw hall
  by_cases hlt : k < n
  ·have hkn : k < xs.length := by rw [← HN.out]; exact hlt
   obtain ⟨b, off, hpa, hks⟩ := HX.out (by omega)
   obtain ⟨us, hin, hcs, hcb⟩ := hks k hkn
   subst hpa
   obtain ⟨xa, xc, ya, yc, rfl⟩ := hin.three
   have c0 := upC HBW0.out (hcs 0 _ rfl)
   have c1 := upC HBW0.out (hcs 1 _ rfl)
   have c2 := upC HBW0.out (hcs 2 _ rfl)
   have c3 := upC HBW0.out hcb
   rw [Nat.add_zero] at c0
   obtain ⟨X, hX⟩ : ∃ X, X = xs[k] := ⟨_, rfl⟩
   have HXK : Hid (X = xs[k]) := hX
   rw [← hX] at hin c0 c1 c2 c3
   obtain ⟨xo, hxo⟩ : ∃ xo, xo = X.1.op := ⟨_, rfl⟩
   obtain ⟨xn, hxn⟩ : ∃ xn, xn = X.1.cl.length := ⟨_, rfl⟩
   obtain ⟨xk, hxk⟩ : ∃ xk, xk = (toL X.1.kids).length := ⟨_, rfl⟩
   obtain ⟨xw, hxw⟩ : ∃ xw, xw = X.2 := ⟨_, rfl⟩
   obtain ⟨W1, hW1⟩ : ∃ W1, W1 = wr.alloc (.cells #[.int .i64 xo, .slice xa xn xc, .slice ya xk yc, .bool xw] 61) := ⟨_, rfl⟩
   obtain ⟨H, hH⟩ : ∃ H, H = wr.heap.size := ⟨_, rfl⟩
   have HBW : Hid (Below wr.heap.size wr W1) := by rw [hW1]; exact (Below.refl _ wr).alloc (Nat.le_refl _) _
   have hbx : W1.heap[H]? = some (.cells #[.int .i64 xo, .slice xa xn xc, .slice ya xk yc, .bool xw] 61) := by rw [hW1, hH]; exact heap_alloc_new wr _
   have HBX : Hid (W1.heap[H]? = some (.cells #[.int .i64 xo, .slice xa xn xc, .slice ya xk yc, .bool xw] 61)) := hbx
   have HB1 : Hid (Below w.heap.size w W1) := HBW0.out.trans (HBW.out.mono HBW0.out.size)
   have HRT : Hid (Calls Tryd.prog 23 #[.agg #[.int .i64 xo, .slice xa xn xc, .slice ya xk yc]] W1 fun e w' => e = .returned (.bool X.1.ok) ∧ Below W1.heap.size W1 w') := by
    rw [hxo, hxn, hxk]
    exact right_any D X.1 xa ya xc yc W1 ((hin.later HB1.out D).base HB1.out.size D)
   have HBL : Hid (∀ W2 : World, Below W1.heap.size W1 W2 → Calls Tryd.prog 61 #[.agg #[.int .i64 xo, .slice xa xn xc, .slice ya xk yc], .int .i64 K] W2 fun e w' => e = .returned (.bool (X.1.bel K)) ∧ Below W2.heap.size W2 w') := by
    intro W2 hW2
    have h := HB1.out.trans (hW2.mono HB1.out.size)
    rw [hxo, hxn, hxk]
    exact below_any D X.1 xa ya xc yc K W2 ((hin.later h D).base h.size D)
   rw [← hxo] at c0
   rw [← hxn] at c1
   rw [← hxk] at c2
   rw [← hxw] at c3
   have e0 : W1.cell? ⟨H, 0, none⟩ = some (.int .i64 xo) := cell_of_row W1 H 0 _ _ _ hbx
   have e1 : W1.cell? ⟨H, 1, none⟩ = some (.slice xa xn xc) := cell_of_row W1 H 1 _ _ _ hbx
   have e2 : W1.cell? ⟨H, 2, none⟩ = some (.slice ya xk yc) := cell_of_row W1 H 2 _ _ _ hbx
   clear hks hcs hcb hin hX hxo hxn hxk hxw hbx
   go_upto_region 6 with fail
   rw [← hH, ← hW1]
   clear hH hW1 c0 c1 c2 c3
   go_wp2_with fail
   refine HRT.out.mono ?_
   rintro e w2 ⟨rfl, hb2⟩
   have HB2 : Hid (Below W1.heap.size W1 w2) := hb2
   have HBW2 : Hid (Below w.heap.size w w2) := HB1.out.trans (hb2.mono HB1.out.size)
   have hbx2 : w2.heap[H]? = some (.cells #[.int .i64 xo, .slice xa xn xc, .slice ya xk yc, .bool xw] 61) := (hb2.block H (Array.getElem?_eq_some_iff.1 HBX.out).1).trans HBX.out
   have f0 : w2.cell? ⟨H, 0, none⟩ = some (.int .i64 xo) := cell_of_row w2 H 0 _ _ _ hbx2
   have f1 : w2.cell? ⟨H, 1, none⟩ = some (.slice xa xn xc) := cell_of_row w2 H 1 _ _ _ hbx2
   have f2 : w2.cell? ⟨H, 2, none⟩ = some (.slice ya xk yc) := cell_of_row w2 H 2 _ _ _ hbx2
   obtain ⟨z, hz⟩ : ∃ z, z = X.1.ok := ⟨_, rfl⟩
   have HZ : Hid (z = X.1.ok) := hz
   rw [← hz]
   clear HRT hb2 hbx2 e0 e1 e2 hz
   cases z with
   | false =>
     have hR : R = false := by
      rw [HR'.out, List.all_eq_false]
      exact ⟨xs[k], List.getElem_mem hkn, by rw [← HXK.out, ← HZ.out]; simp⟩
     subst hR
     go_wp2
     go_ret
     exact ⟨rfl, HBW2.out⟩
   | true =>
     have HC : Hid (Calls Tryd.prog 61 #[.agg #[.int .i64 xo, .slice xa xn xc, .slice ya xk yc], .int .i64 K] w2 fun e w' => e = .returned (.bool (X.1.bel K)) ∧ Below w2.heap.size w2 w') := HBL.out w2 HB2.out
     clear HBL
     go_wp2_with fail
     refine HC.out.mono ?_
     rintro e w3 ⟨rfl, hb3⟩
     have HB3 : Hid (Below w.heap.size w w3) := HBW2.out.trans (hb3.mono HBW2.out.size)
     obtain ⟨y, hy⟩ : ∃ y, y = X.1.bel K := ⟨_, rfl⟩
     have HY : Hid (y = X.1.bel K) := hy
     rw [← hy]
     clear HC hb3 f0 f1 f2 hy
     cases y with
     | false =>
       have hR : R = false := by
        rw [HR'.out, List.all_eq_false]
        exact ⟨xs[k], List.getElem_mem hkn, by rw [← HXK.out, ← HY.out]; simp⟩
       subst hR
       go_wp2
       go_ret
       exact ⟨rfl, HB3.out⟩
     | true =>
       have HNX : Hid ((xs.take (k + 1)).all (fun x => x.1.ok && x.1.bel K) = true) := by
        show _ = _
        rw [take_snoc _ k hkn, List.all_append, HALL.out, ← HXK.out]
        simp [← HZ.out, ← HY.out]
       go_wp2
       go_roundw
       case rel => exact ⟨k + 1, by omega, by go_num, HB3.out, HNX.out⟩
       case measure => simp [intOf]; omega
  ·have hR : R = true := by
    have h1 := HALL.out
    rw [List.take_of_length_le (by rw [← HN.out]; omega)] at h1
    rw [HR'.out, h1]
   subst hR
   go_wp2
   go_ret
   exact ⟨rfl, HBW0.out⟩
end Go.Proofs.YtclogekfdmikpaaDoor

/- Sets of nodes in memory: the walks of only, and, join. -/
namespace Go.Proofs.YtclogekfdmikpaaDoor
open Go.RowKit
set_option linter.unusedVariables false
set_option linter.unusedSimpArgs false

def nw (S i : Nat) : Nat := S / 2 ^ (64 * i) % 2 ^ 64
def nwV (S i : Nat) : Value := .int .u64 (nw S i : Int)
def nsA (S : Nat) : Array Value := #[nwV S 0, nwV S 1, nwV S 2, nwV S 3, nwV S 4, nwV S 5, nwV S 6]
def mixA (f : Nat → Value) : Array Value := #[f 0, f 1, f 2, f 3, f 4, f 5, f 6]
theorem mixA_get (f : Nat → Value) {i : Nat} (h : i < 7) : (mixA f)[i]? = some (f i) := by
 match i, h with
 | 0, _ => rfl
 | 1, _ => rfl
 | 2, _ => rfl
 | 3, _ => rfl
 | 4, _ => rfl
 | 5, _ => rfl
 | 6, _ => rfl
theorem mixA_set (f : Nat → Value) (v : Value) {i : Nat} (h : i < 7) : (mixA f).setIfInBounds i v = mixA fun j => if j = i then v else f j := by
 match i, h with
 | 0, _ => rfl
 | 1, _ => rfl
 | 2, _ => rfl
 | 3, _ => rfl
 | 4, _ => rfl
 | 5, _ => rfl
 | 6, _ => rfl
theorem nsA_mix (S : Nat) : nsA S = mixA (nwV S) := rfl
theorem nw_lt (S i : Nat) : nw S i < 18446744073709551616 := by
 unfold nw
 exact Nat.mod_lt _ (by decide)
theorem nw_bit (S i p : Nat) : (nw S i).testBit p = (decide (p < 64) && S.testBit (64 * i + p)) := by
 unfold nw
 rw [Nat.testBit_mod_two_pow, Nat.testBit_div_two_pow, Nat.add_comm]
theorem nw_and (S T i : Nat) : nw (S &&& T) i = nw S i &&& nw T i := by
 apply Nat.eq_of_testBit_eq
 intro p
 simp only [nw_bit, Nat.testBit_and]
 cases decide (p < 64) <;> simp
theorem nw_or (S T i : Nat) : nw (S ||| T) i = nw S i ||| nw T i := by
 apply Nat.eq_of_testBit_eq
 intro p
 simp only [nw_bit, Nat.testBit_or]
 cases decide (p < 64) <;> simp
theorem nw_one (k i : Nat) : nw (2 ^ k) i = if i = k / 64 then 2 ^ (k % 64) else 0 := by
 apply Nat.eq_of_testBit_eq
 intro p
 rw [nw_bit, Nat.testBit_two_pow]
 split
 ·rename_i h
  rw [Nat.testBit_two_pow, Bool.eq_iff_iff]
  simp
  omega
 ·rename_i h
  rw [Nat.zero_testBit, Bool.eq_false_iff]
  simp
  omega
theorem below_put {w wr : World} {H i : Nat} (v : Value) (h : Below w.heap.size w wr) (hH : w.heap.size ≤ H) : Below w.heap.size w (wr.setCell ⟨H, i, none⟩ v) := h.grown (grown_cell wr H i v) h.size (fun b hb => by cases hb; exact hH)
set_option maxHeartbeats 2000000 in
theorem and_any (S T : Nat) (w : World) : Calls Tryd.prog 81 #[.agg (nsA S), .agg (nsA T)] w fun e w' => e = .returned (.agg (nsA (S &&& T))) ∧ Below w.heap.size w w' := by
 obtain ⟨wA, hwA⟩ : ∃ wA, wA = ((w.alloc (.cells (nsA S) 120)).alloc (.cells (nsA T) 120)).alloc (.cells (mixA fun _ => .int .u64 0) 120) := ⟨_, rfl⟩
 obtain ⟨H, hH⟩ : ∃ H, H = w.heap.size := ⟨_, rfl⟩
 have HB : Hid (Below w.heap.size w wA) := by rw [hwA]; exact (((Below.refl _ w).alloc (Nat.le_refl _) _).alloc (by simp) _).alloc (by simp; omega) _
 have HH : Hid (H = w.heap.size) := hH
 have HA0 : Hid (wA.heap[H]? = some (.cells (nsA S) 120)) := by
  show _ = _
  rw [hwA, hH]
  exact ((((Below.refl _ (w.alloc _)).alloc (Nat.le_refl _) _).alloc (by simp) _).block w.heap.size (by simp)).trans (heap_alloc_new w _)
 have HA1 : Hid (wA.heap[H + 1]? = some (.cells (nsA T) 120)) := by
  show _ = _
  rw [hwA, hH]
  have := heap_alloc_new (w.alloc (.cells (nsA S) 120)) (.cells (nsA T) 120)
  rw [show (w.alloc (.cells (nsA S) 120)).heap.size = w.heap.size + 1 by simp] at this
  exact (((Below.refl _ ((w.alloc _).alloc _)).alloc (Nat.le_refl _) _).block (w.heap.size + 1) (by simp)).trans this
 have HA2 : Hid (wA.heap[H + 1 + 1]? = some (.cells (mixA fun _ => .int .u64 0) 120)) := by
  show _ = _
  rw [hwA, hH]
  have := heap_alloc_new ((w.alloc (.cells (nsA S) 120)).alloc (.cells (nsA T) 120)) (.cells (mixA fun _ => .int .u64 0) 120)
  rw [show ((w.alloc (.cells (nsA S) 120)).alloc (.cells (nsA T) 120)).heap.size = w.heap.size + 1 + 1 by simp] at this
  exact this
 obtain ⟨VS, hVS⟩ : ∃ VS, VS = Value.agg (nsA S) := ⟨_, rfl⟩
 obtain ⟨VT, hVT⟩ : ∃ VT, VT = Value.agg (nsA T) := ⟨_, rfl⟩
 go_enter Tryd.func81, Tryd.ntmps81
 go_upto_region 1 with fail
 rw [← hH, ← hVS, ← hVT]
 show Code.wp _ _ _ _ (((w.alloc (.cells (nsA S) 120)).alloc (.cells (nsA T) 120)).alloc (.cells (mixA fun _ => .int .u64 0) 120))
 rw [← hwA]
 clear hwA hH hVS hVT
 go_wp2
 go_loopw [6] (fun x6 wr => ∃ k : Nat, k ≤ 7 ∧ x6 = .int .i64 k ∧ Below w.heap.size w wr ∧ wr.heap[H]? = some (.cells (mixA fun j => if j < k then nwV (S &&& T) j else nwV S j) 120) ∧ wr.heap[H + 1]? = some (.cells (nsA T) 120) ∧ wr.heap[H + 1 + 1]? = some (.cells (mixA fun _ => .int .u64 0) 120)) (fun x6 _ => 7 - (intOf x6).toNat)
 case atStart => exact ⟨0, by omega, rfl, HB.out, HA0.out, HA1.out, HA2.out⟩
 case round =>
  obtain ⟨k, hk, hx6, hbw, h0, h1, h2⟩ := hrel
  subst hx6
  have HBW : Hid (Below w.heap.size w wr) := hbw
  have HW0 : Hid (wr.heap[H]? = some (.cells (mixA fun j => if j < k then nwV (S &&& T) j else nwV S j) 120)) := h0
  have HW1 : Hid (wr.heap[H + 1]? = some (.cells (nsA T) 120)) := h1
  have HW2 : Hid (wr.heap[H + 1 + 1]? = some (.cells (mixA fun _ => .int .u64 0) 120)) := h2
  clear hbw h0 h1 h2
  by_cases hlt : k < 7
  ·have c0 : wr.cell? ⟨H, k, none⟩ = some (.int .u64 (nw S k : Int)) := by
    rw [cell_of_row wr H k _ _ _ HW0.out, mixA_get _ hlt]; simp [nwV]
   have c1 : wr.cell? ⟨H + 1, k, none⟩ = some (.int .u64 (nw T k : Int)) := by
    rw [cell_of_row wr (H + 1) k _ _ _ HW1.out, nsA_mix, mixA_get _ hlt]; rfl
   have hf : wr.frozen? ⟨H, k, none⟩ = false := Lib.frozen_of_heap HW0.out k
   have hki : (k : Int) < 7 := by omega
   have hbt : bits .and .u64 (nw S k : Int) (nw T k : Int) = (nw (S &&& T) k : Int) := by rw [u64_and_nat _ _ (nw_lt S k) (nw_lt T k), nw_and]
   obtain ⟨w2, hw2⟩ : ∃ w2, w2 = (wr.setCell ⟨H, k, none⟩ (.int .u64 (nw (S &&& T) k : Int))).drew := ⟨_, rfl⟩
   have HB2 : Hid (Below w.heap.size w w2) := by
    rw [hw2]
    exact (HBW.out.grown (grown_cell wr H k _) HBW.out.size (fun b hb => by cases hb; rw [HH.out]; exact Nat.le_refl _)).drew
   have HX0 : Hid (w2.heap[H]? = some (.cells (mixA fun j => if j < k + 1 then nwV (S &&& T) j else nwV S j) 120)) := by
    show _ = _
    rw [hw2]
    refine (heap_setCell_same wr H k _ _ _ HW0.out).trans ?_
    congr 2
    rw [mixA_set _ _ hlt]
    congr 1
    funext j
    by_cases h1 : j = k
    ·rw [if_pos h1, if_pos (by omega), h1]; rfl
    ·rw [if_neg h1]
     by_cases h2 : j < k
     ·rw [if_pos h2, if_pos (by omega)]
     ·rw [if_neg h2, if_neg (by omega)]
   have HX1 : Hid (w2.heap[H + 1]? = some (.cells (nsA T) 120)) := by
    show _ = _
    rw [hw2]
    exact ((grown_cell wr H k (.int .u64 (nw (S &&& T) k : Int))).block (H + 1) (Array.getElem?_eq_some_iff.1 HW1.out).1 (fun e => by have := Option.some.inj e; omega)).trans HW1.out
   have HX2 : Hid (w2.heap[H + 1 + 1]? = some (.cells (mixA fun _ => .int .u64 0) 120)) := by
    show _ = _
    rw [hw2]
    exact ((grown_cell wr H k (.int .u64 (nw (S &&& T) k : Int))).block (H + 1 + 1) (Array.getElem?_eq_some_iff.1 HW2.out).1 (fun e => by have := Option.some.inj e; omega)).trans HW2.out
   go_wp2_with fail
   go_region
   rw [← hw2]
   clear hw2 hbt c0 c1 hf
   go_wp2
   go_roundw
   case rel => exact ⟨k + 1, by omega, by go_num, HB2.out, HX0.out, HX1.out, HX2.out⟩
   case measure => simp [intOf]; omega
  ·obtain rfl : k = 7 := by omega
   have g0 : wr.heap[H]? = some (.cells (nsA (S &&& T)) 120) := HW0.out
   have c0 : wr.cell? ⟨H, 0, none⟩ = some (.int .u64 (nw (S &&& T) 0 : Int)) := cell_of_row wr H 0 _ _ _ g0
   have c1 : wr.cell? ⟨H, 1, none⟩ = some (.int .u64 (nw (S &&& T) 1 : Int)) := cell_of_row wr H 1 _ _ _ g0
   have c2 : wr.cell? ⟨H, 2, none⟩ = some (.int .u64 (nw (S &&& T) 2 : Int)) := cell_of_row wr H 2 _ _ _ g0
   have c3 : wr.cell? ⟨H, 3, none⟩ = some (.int .u64 (nw (S &&& T) 3 : Int)) := cell_of_row wr H 3 _ _ _ g0
   have c4 : wr.cell? ⟨H, 4, none⟩ = some (.int .u64 (nw (S &&& T) 4 : Int)) := cell_of_row wr H 4 _ _ _ g0
   have c5 : wr.cell? ⟨H, 5, none⟩ = some (.int .u64 (nw (S &&& T) 5 : Int)) := cell_of_row wr H 5 _ _ _ g0
   have c6 : wr.cell? ⟨H, 6, none⟩ = some (.int .u64 (nw (S &&& T) 6 : Int)) := cell_of_row wr H 6 _ _ _ g0
   clear g0
   have d0 : wr.cell? ⟨H + 1 + 1, 0, none⟩ = some (.int .u64 0) := cell_of_row wr (H + 1 + 1) 0 _ _ _ HW2.out
   have f0 : wr.frozen? ⟨H + 1 + 1, 0, none⟩ = false := Lib.frozen_of_heap HW2.out 0
   have d1 : wr.cell? ⟨H + 1 + 1, 1, none⟩ = some (.int .u64 0) := cell_of_row wr (H + 1 + 1) 1 _ _ _ HW2.out
   have f1 : wr.frozen? ⟨H + 1 + 1, 1, none⟩ = false := Lib.frozen_of_heap HW2.out 1
   have d2 : wr.cell? ⟨H + 1 + 1, 2, none⟩ = some (.int .u64 0) := cell_of_row wr (H + 1 + 1) 2 _ _ _ HW2.out
   have f2 : wr.frozen? ⟨H + 1 + 1, 2, none⟩ = false := Lib.frozen_of_heap HW2.out 2
   have d3 : wr.cell? ⟨H + 1 + 1, 3, none⟩ = some (.int .u64 0) := cell_of_row wr (H + 1 + 1) 3 _ _ _ HW2.out
   have f3 : wr.frozen? ⟨H + 1 + 1, 3, none⟩ = false := Lib.frozen_of_heap HW2.out 3
   have d4 : wr.cell? ⟨H + 1 + 1, 4, none⟩ = some (.int .u64 0) := cell_of_row wr (H + 1 + 1) 4 _ _ _ HW2.out
   have f4 : wr.frozen? ⟨H + 1 + 1, 4, none⟩ = false := Lib.frozen_of_heap HW2.out 4
   have d5 : wr.cell? ⟨H + 1 + 1, 5, none⟩ = some (.int .u64 0) := cell_of_row wr (H + 1 + 1) 5 _ _ _ HW2.out
   have f5 : wr.frozen? ⟨H + 1 + 1, 5, none⟩ = false := Lib.frozen_of_heap HW2.out 5
   have d6 : wr.cell? ⟨H + 1 + 1, 6, none⟩ = some (.int .u64 0) := cell_of_row wr (H + 1 + 1) 6 _ _ _ HW2.out
   have f6 : wr.frozen? ⟨H + 1 + 1, 6, none⟩ = false := Lib.frozen_of_heap HW2.out 6
   have hHw : w.heap.size ≤ H + 1 + 1 := by rw [HH.out]; omega
   have HFIN := fun v0 v1 v2 v3 v4 v5 v6 => below_put (i := 6) v6 (below_put (i := 5) v5 (below_put (i := 4) v4 (below_put (i := 3) v3 (below_put (i := 2) v2 (below_put (i := 1) v1 (below_put (i := 0) v0 HBW.out hHw) hHw) hHw) hHw) hHw) hHw) hHw
   clear hHw
   go_wp2_with fail
   refine bodyPost_ret (v := .agg (nsA (S &&& T))) ?_ rfl ⟨rfl, HFIN _ _ _ _ _ _ _⟩
   rw [results_cell_one rfl]
   go_simp
   rfl
end Go.Proofs.YtclogekfdmikpaaDoor

/- The walk of join: what is in one set of nodes is put to another, in memory. -/
namespace Go.Proofs.YtclogekfdmikpaaDoor
open Go.RowKit
set_option linter.unusedVariables false
set_option linter.unusedSimpArgs false

def NsIn (cs : Array Value) (o : Nat) (S : Nat) : Prop := ∀ i, i < 7 → cs[o + i]? = some (nwV S i)
structure JnP (cs cs' : Array Value) (o k S T : Nat) : Prop where
 size : cs'.size = cs.size
 done : ∀ i, i < k → cs'[o + i]? = some (nwV (S ||| T) i)
 todo : ∀ i, k ≤ i → i < 7 → cs'[o + i]? = some (nwV S i)
 rest : ∀ j, j < o ∨ o + 7 ≤ j → cs'[j]? = cs[j]?
theorem JnP.step {cs cs' : Array Value} {o k S T : Nat} (h : JnP cs cs' o k S T) (hk : k < 7) : JnP cs (cs'.setIfInBounds (o + k) (nwV (S ||| T) k)) o (k + 1) S T := by
 have hl : o + k < cs'.size := (Array.getElem?_eq_some_iff.1 (h.todo k (Nat.le_refl _) hk)).1
 refine ⟨by simp [h.size], fun i hi => ?_, fun i h1 h2 => ?_, fun j hj => ?_⟩
 ·by_cases he : i = k
  ·subst he
   simp [Array.getElem?_setIfInBounds, hl]
  ·rw [Array.getElem?_setIfInBounds, if_neg (by omega)]
   exact h.done i (by omega)
 ·rw [Array.getElem?_setIfInBounds, if_neg (by omega)]
  exact h.todo i (by omega) h2
 ·rw [Array.getElem?_setIfInBounds, if_neg (by omega)]
  exact h.rest j hj
set_option maxHeartbeats 2000000 in
theorem join_any (S T : Nat) (w : World) (bp op bq oq : Nat) (cs ds : Array Value) (t u : TypeId) (fq : Nat × Nat) (hne : bp ≠ bq) (hp : w.heap[bp]? = some (.cells cs t)) (hq : w.heap[bq]? = some (.cells ds u fq)) (hS : NsIn cs op S) (hT : NsIn ds oq T) :
 Calls Tryd.prog 83 #[.pointer (some ⟨bp, op, none⟩), .pointer (some ⟨bq, oq, none⟩)] w fun e w' => e = .returned (.tuple #[]) ∧ w.grownBy w' (some bp) ∧ ∃ cs', w'.heap[bp]? = some (.cells cs' t) ∧ JnP cs cs' op 7 S T := by
 have HP : Hid (w.heap[bp]? = some (.cells cs t)) := hp
 have HQ : Hid (w.heap[bq]? = some (.cells ds u fq)) := hq
 have HS : Hid (NsIn cs op S) := hS
 have HT : Hid (NsIn ds oq T) := hT
 have HNE : Hid (bp ≠ bq) := hne
 clear hp hq hS hT hne
 go_enter Tryd.func83, Tryd.ntmps83
 go_wp2
 go_loopw [7] (fun x7 wr => ∃ k : Nat, ∃ cs' : Array Value, k ≤ 7 ∧ x7 = .int .i64 k ∧ w.grownBy wr (some bp) ∧ wr.heap[bp]? = some (.cells cs' t) ∧ wr.heap[bq]? = some (.cells ds u fq) ∧ JnP cs cs' op k S T) (fun x7 _ => 7 - (intOf x7).toNat)
 case atStart => exact ⟨0, cs, by omega, rfl, ⟨rfl, rfl, rfl, Nat.le_refl _, fun _ _ _ => rfl⟩, HP.out, HQ.out, ⟨rfl, fun i hi => by omega, fun i _ h => HS.out i h, fun _ _ => rfl⟩⟩
 case round =>
  obtain ⟨k, cs', hk, hx7, hg, h0, h1, hj⟩ := hrel
  subst hx7
  have HG : Hid (w.grownBy wr (some bp)) := hg
  have HW0 : Hid (wr.heap[bp]? = some (.cells cs' t)) := h0
  have HW1 : Hid (wr.heap[bq]? = some (.cells ds u fq)) := h1
  have HJ : Hid (JnP cs cs' op k S T) := hj
  clear hg h0 h1 hj
  by_cases hlt : k < 7
  ·obtain ⟨wD, hwD⟩ : ∃ wD, wD = wr.drew := ⟨_, rfl⟩
   have hD0 : wD.heap[bp]? = some (.cells cs' t) := by rw [hwD]; exact HW0.out
   have hD1 : wD.heap[bq]? = some (.cells ds u fq) := by rw [hwD]; exact HW1.out
   have c0 : wD.cell? ⟨bp, op + k, none⟩ = some (.int .u64 (nw S k : Int)) := (cell_of_row wD bp (op + k) _ _ _ hD0).trans (HJ.out.todo k (Nat.le_refl _) hlt)
   have c1 : wr.cell? ⟨bq, oq + k, none⟩ = some (.int .u64 (nw T k : Int)) := (cell_of_row wr bq (oq + k) _ _ _ HW1.out).trans (HT.out k hlt)
   have hf : wD.frozen? ⟨bp, op + k, none⟩ = false := Lib.frozen_of_heap hD0 (op + k)
   have hki : (k : Int) < 7 := by omega
   have hbt : bits .or .u64 (nw S k : Int) (nw T k : Int) = (nw (S ||| T) k : Int) := by rw [u64_or_nat _ _ (nw_lt S k) (nw_lt T k), nw_or]
   obtain ⟨w2, hw2⟩ : ∃ w2, w2 = (wD.setCell ⟨bp, op + k, none⟩ (.int .u64 (nw (S ||| T) k : Int))).drew := ⟨_, rfl⟩
   have HG2 : Hid (w.grownBy w2 (some bp)) := by
    have hb := (Below.refl wr.heap.size wr).drew
    have hb2 := (Below.refl (wD.setCell ⟨bp, op + k, none⟩ (.int .u64 (nw (S ||| T) k : Int))).heap.size (wD.setCell ⟨bp, op + k, none⟩ (.int .u64 (nw (S ||| T) k : Int)))).drew
    rw [hw2]
    refine grown_all (grown_all (grown_all HG.out ?_) (grown_cell wD bp (op + k) _)) ⟨hb2.os, hb2.tape, hb2.output, hb2.size, fun b hb _ => hb2.block b hb⟩
    rw [hwD]
    exact ⟨hb.os, hb.tape, hb.output, hb.size, fun b hb' _ => hb.block b hb'⟩
   have HX0 : Hid (w2.heap[bp]? = some (.cells (cs'.setIfInBounds (op + k) (nwV (S ||| T) k)) t)) := by
    show _ = _
    rw [hw2]
    exact heap_setCell_same wD bp (op + k) _ _ _ hD0
   have HX1 : Hid (w2.heap[bq]? = some (.cells ds u fq)) := by
    show _ = _
    rw [hw2]
    exact ((grown_cell wD bp (op + k) (.int .u64 (nw (S ||| T) k : Int))).block bq (Array.getElem?_eq_some_iff.1 hD1).1 (fun e => HNE.out (Option.some.inj e).symm)).trans hD1
   clear hD0 hD1
   go_wp2_with fail
   go_region
   rw [← hwD]
   clear hwD c1
   go_wp2_with fail
   go_region
   rw [← hw2]
   clear hw2 hbt c0 hf
   go_wp2
   go_roundw
   case rel => exact ⟨k + 1, _, by omega, by go_num, HG2.out, HX0.out, HX1.out, HJ.out.step hlt⟩
   case measure => simp [intOf]; omega
  ·obtain rfl : k = 7 := by omega
   go_wp2
   go_end0
   exact ⟨rfl, HG.out, cs', HW0.out, HJ.out⟩
end Go.Proofs.YtclogekfdmikpaaDoor

/- The walk of only: the set of one node. -/
namespace Go.Proofs.YtclogekfdmikpaaDoor
open Go.RowKit
set_option linter.unusedVariables false
set_option linter.unusedSimpArgs false

set_option maxRecDepth 8000 in
set_option maxHeartbeats 2000000 in
theorem only_any (k : Nat) (hk : k < 448) (w : World) : Calls Tryd.prog 94 #[.int .i64 (k : Int)] w fun e w' => e = .returned (.agg (nsA (2 ^ k))) ∧ Below w.heap.size w w' := by
 obtain ⟨q, hq⟩ : ∃ q, q = k / 64 := ⟨_, rfl⟩
 obtain ⟨r, hr⟩ : ∃ r, r = k % 64 := ⟨_, rfl⟩
 have hq7 : q < 7 := by omega
 have hr64 : r < 64 := by omega
 have hki : (k : Int) < 448 := by omega
 have hqi : (k : Int) / 64 = (q : Int) := by omega
 have hri : (k : Int) % 64 = (r : Int) := by omega
 obtain ⟨wA, hwA⟩ : ∃ wA, wA = (w.alloc (.cells (mixA fun _ => .int .u64 0) 120)).alloc (.cells (mixA fun _ => .int .u64 0) 120) := ⟨_, rfl⟩
 obtain ⟨H, hH⟩ : ∃ H, H = w.heap.size := ⟨_, rfl⟩
 have HH : Hid (H = w.heap.size) := hH
 have HB : Hid (Below w.heap.size w wA) := by rw [hwA]; exact ((Below.refl _ w).alloc (Nat.le_refl _) _).alloc (by simp) _
 have HA0 : Hid (wA.heap[H]? = some (.cells (mixA fun _ => .int .u64 0) 120)) := by
  show _ = _
  rw [hwA, hH]
  exact (((Below.refl _ (w.alloc _)).alloc (Nat.le_refl _) _).block w.heap.size (by simp)).trans (heap_alloc_new w _)
 have HA1 : Hid (wA.heap[H + 1]? = some (.cells (mixA fun _ => .int .u64 0) 120)) := by
  show _ = _
  rw [hwA, hH]
  have := heap_alloc_new (w.alloc (.cells (mixA fun _ => .int .u64 0) 120)) (.cells (mixA fun _ => .int .u64 0) 120)
  rw [show (w.alloc (.cells (mixA fun _ => .int .u64 0) 120)).heap.size = w.heap.size + 1 by simp] at this
  exact this
 have c0 : wA.cell? ⟨H + 1, q, none⟩ = some (.int .u64 0) := (cell_of_row wA (H + 1) q _ _ _ HA1.out).trans (mixA_get _ hq7)
 have f0 : wA.frozen? ⟨H + 1, q, none⟩ = false := Lib.frozen_of_heap HA1.out q
 have hqi7 : (q : Int) < 7 := by omega
 have hri64 : (r : Int) < 64 := by omega
 go_enter Tryd.func94, Tryd.ntmps94
 go_upto_region 2 with fail
 rw [← hH]
 show Code.wp _ _ _ _ ((w.alloc (.cells (mixA fun _ => .int .u64 0) 120)).alloc (.cells (mixA fun _ => .int .u64 0) 120))
 rw [← hwA]
 have hwr : IntKind.u64.wrap ((2 : Int) ^ r) = ((2 ^ r : Nat) : Int) := by
  have h1 : (2 : Nat) ^ r < 2 ^ 64 := Nat.pow_lt_pow_right (by decide) hr64
  have h2 : ((2 : Int) ^ r) = ((2 ^ r : Nat) : Int) := by simp
  rw [h2]
  generalize 2 ^ r = x at h1
  rw [IntKind.wrap_u64]
  omega
 obtain ⟨w2, hw2⟩ : ∃ w2, w2 = wA.setCell ⟨H + 1, q, none⟩ (.int .u64 ((2 ^ r : Nat) : Int)) := ⟨_, rfl⟩
 have HX1 : Hid (w2.heap[H + 1]? = some (.cells (nsA (2 ^ k)) 120)) := by
  show _ = _
  rw [hw2]
  refine (heap_setCell_same wA (H + 1) q _ _ _ HA1.out).trans ?_
  rw [mixA_set _ _ hq7, nsA_mix]
  congr 3
  funext j
  unfold nwV
  rw [nw_one, ← hq, ← hr]
  split <;> rfl
 have HX0 : Hid (w2.heap[H]? = some (.cells (mixA fun _ => .int .u64 0) 120)) := by
  show _ = _
  rw [hw2]
  exact ((grown_cell wA (H + 1) q _).block H (Array.getElem?_eq_some_iff.1 HA0.out).1 (fun e => by have := Option.some.inj e; omega)).trans HA0.out
 have HB2 : Hid (Below w.heap.size w w2) := by
  rw [hw2]; exact below_put _ HB.out (by rw [HH.out]; omega)
 clear hwA hH hq hr hk
 rw [show ((2 ^ r : Nat) : Int) = (2 : Int) ^ r by simp] at hw2
 go_upto_region 3 with fail
 rw [← hw2]
 clear hw2 c0 f0 hwr
 have g0 : w2.cell? ⟨H + 1, 0, none⟩ = some (.int .u64 (nw (2 ^ k) 0 : Int)) := cell_of_row w2 (H + 1) 0 _ _ _ HX1.out
 have d0 : w2.cell? ⟨H, 0, none⟩ = some (.int .u64 0) := cell_of_row w2 H 0 _ _ _ HX0.out
 have e0 : w2.frozen? ⟨H, 0, none⟩ = false := Lib.frozen_of_heap HX0.out 0
 have g1 : w2.cell? ⟨H + 1, 1, none⟩ = some (.int .u64 (nw (2 ^ k) 1 : Int)) := cell_of_row w2 (H + 1) 1 _ _ _ HX1.out
 have d1 : w2.cell? ⟨H, 1, none⟩ = some (.int .u64 0) := cell_of_row w2 H 1 _ _ _ HX0.out
 have e1 : w2.frozen? ⟨H, 1, none⟩ = false := Lib.frozen_of_heap HX0.out 1
 have g2 : w2.cell? ⟨H + 1, 2, none⟩ = some (.int .u64 (nw (2 ^ k) 2 : Int)) := cell_of_row w2 (H + 1) 2 _ _ _ HX1.out
 have d2 : w2.cell? ⟨H, 2, none⟩ = some (.int .u64 0) := cell_of_row w2 H 2 _ _ _ HX0.out
 have e2 : w2.frozen? ⟨H, 2, none⟩ = false := Lib.frozen_of_heap HX0.out 2
 have g3 : w2.cell? ⟨H + 1, 3, none⟩ = some (.int .u64 (nw (2 ^ k) 3 : Int)) := cell_of_row w2 (H + 1) 3 _ _ _ HX1.out
 have d3 : w2.cell? ⟨H, 3, none⟩ = some (.int .u64 0) := cell_of_row w2 H 3 _ _ _ HX0.out
 have e3 : w2.frozen? ⟨H, 3, none⟩ = false := Lib.frozen_of_heap HX0.out 3
 have g4 : w2.cell? ⟨H + 1, 4, none⟩ = some (.int .u64 (nw (2 ^ k) 4 : Int)) := cell_of_row w2 (H + 1) 4 _ _ _ HX1.out
 have d4 : w2.cell? ⟨H, 4, none⟩ = some (.int .u64 0) := cell_of_row w2 H 4 _ _ _ HX0.out
 have e4 : w2.frozen? ⟨H, 4, none⟩ = false := Lib.frozen_of_heap HX0.out 4
 have g5 : w2.cell? ⟨H + 1, 5, none⟩ = some (.int .u64 (nw (2 ^ k) 5 : Int)) := cell_of_row w2 (H + 1) 5 _ _ _ HX1.out
 have d5 : w2.cell? ⟨H, 5, none⟩ = some (.int .u64 0) := cell_of_row w2 H 5 _ _ _ HX0.out
 have e5 : w2.frozen? ⟨H, 5, none⟩ = false := Lib.frozen_of_heap HX0.out 5
 have g6 : w2.cell? ⟨H + 1, 6, none⟩ = some (.int .u64 (nw (2 ^ k) 6 : Int)) := cell_of_row w2 (H + 1) 6 _ _ _ HX1.out
 have d6 : w2.cell? ⟨H, 6, none⟩ = some (.int .u64 0) := cell_of_row w2 H 6 _ _ _ HX0.out
 have e6 : w2.frozen? ⟨H, 6, none⟩ = false := Lib.frozen_of_heap HX0.out 6
 have hHw : w.heap.size ≤ H := by rw [HH.out]; exact Nat.le_refl _
 have HFIN := fun v0 v1 v2 v3 v4 v5 v6 => below_put (i := 6) v6 (below_put (i := 5) v5 (below_put (i := 4) v4 (below_put (i := 3) v3 (below_put (i := 2) v2 (below_put (i := 1) v1 (below_put (i := 0) v0 HB2.out hHw) hHw) hHw) hHw) hHw) hHw) hHw
 clear hHw
 go_wp2_with fail
 refine bodyPost_ret (v := .agg (nsA (2 ^ k))) ?_ rfl ⟨rfl, HFIN _ _ _ _ _ _ _⟩
 rw [results_cell_one rfl]
 go_simp
 rfl
end Go.Proofs.YtclogekfdmikpaaDoor

/- Plain mathematics of where rows end that an expression fits: sets of places as rows of truths; nothing of the program is named here. -/
namespace Go.Proofs.YtclogekfdmikpaaDoor
set_option linter.unusedVariables false
set_option linter.unusedSimpArgs false

def sg (xs : List Int) (i j : Nat) : List Int := (xs.drop i).take (j - i)
def EndsAt (L : List Int → Prop) (xs : List Int) (F : List Bool) (j : Nat) : Prop := ∃ i, i ≤ j ∧ F[i]? = some true ∧ L (sg xs i j)
def EndsR (L : List Int → Prop) (xs : List Int) (F G : List Bool) : Prop := G.length = xs.length + 1 ∧ ∀ j, j ≤ xs.length → (G[j]? = some true ↔ EndsAt L xs F j)
theorem EndsR.congr {L L' : List Int → Prop} {xs : List Int} {F G : List Bool} (h : EndsR L xs F G) (hl : ∀ w, L w ↔ L' w) : EndsR L' xs F G := by
 refine ⟨h.1, fun j hj => (h.2 j hj).trans ?_⟩
 unfold EndsAt
 simp only [hl]
def starL (L : List Int → Prop) (w : List Int) : Prop := ∃ n, powL L n w
/-! What an expression fits, by what it is. -/
theorem fits_op0 (n : Nd) (h : n.op = 0) (hk : (toL n.kids).length = 0) (w : List Int) : n.fits w ↔ w = [] := by
 unfold Nd.fits
 rw [h, fitF_map, List.eq_nil_of_length_eq_zero hk]
 simp [nodeL, seqL]
end Go.Proofs.YtclogekfdmikpaaDoor

/- Plain mathematics of machines by nodes: which rows ways through a graph of characters read; one behind the other, one or the other, any number; nothing of the program is named here. -/
namespace Go.Proofs.YtclogekfdmikpaaDoor
set_option linter.unusedVariables false
set_option linter.unusedSimpArgs false

def Pth (B : Nat → Nat → Prop) (C : Nat → Int → Prop) (E : Nat → Prop) : List Int → Nat → Prop
 | [], _ => False
 | c :: w, p => C p c ∧ ((w = [] ∧ E p) ∨ ∃ q, B p q ∧ Pth B C E w q)
def GL (em : Prop) (F E : Nat → Prop) (B : Nat → Nat → Prop) (C : Nat → Int → Prop) (w : List Int) : Prop := (w = [] ∧ em) ∨ ∃ p, F p ∧ Pth B C E w p
theorem Pth.ne {B : Nat → Nat → Prop} {C : Nat → Int → Prop} {E : Nat → Prop} {w : List Int} {p : Nat} (h : Pth B C E w p) : w ≠ [] := by
 rintro rfl; exact h
theorem Pth.congr {B B' : Nat → Nat → Prop} {C : Nat → Int → Prop} {E E' : Nat → Prop} (X : Nat → Prop) (hB : ∀ p q, X p → (B p q ↔ B' p q)) (hX : ∀ p q, X p → B p q → X q) (hE : ∀ p, X p → (E p ↔ E' p)) : (w : List Int) → (p : Nat) → X p → (Pth B C E w p ↔ Pth B' C E' w p)
 | [], _, _ => Iff.rfl
 | c :: w, p, hp => by
   simp only [Pth]
   constructor
   ·rintro ⟨h1, ⟨h2, h3⟩ | ⟨q, h2, h3⟩⟩
    ·exact ⟨h1, .inl ⟨h2, (hE p hp).1 h3⟩⟩
    ·exact ⟨h1, .inr ⟨q, (hB p q hp).1 h2, (Pth.congr X hB hX hE w q (hX p q hp h2)).1 h3⟩⟩
   ·rintro ⟨h1, ⟨h2, h3⟩ | ⟨q, h2, h3⟩⟩
    ·exact ⟨h1, .inl ⟨h2, (hE p hp).2 h3⟩⟩
    ·have h4 := (hB p q hp).2 h2
     exact ⟨h1, .inr ⟨q, h4, (Pth.congr X hB hX hE w q (hX p q hp h4)).2 h3⟩⟩
theorem pth_two {B1 B2 : Nat → Nat → Prop} {C : Nat → Int → Prop} {E1 E2 F2 : Nat → Prop} {em2 : Prop} {X Y : Nat → Prop} (hd : ∀ p, X p → ¬ Y p) (h1 : ∀ p q, B1 p q → X p ∧ X q) (h2 : ∀ p q, B2 p q → Y p ∧ Y q) (hE1 : ∀ p, E1 p → X p) (hE2 : ∀ p, E2 p → Y p) (hF2 : ∀ p, F2 p → Y p) :
 (w : List Int) → (p : Nat) → X p → (Pth (fun p q => B1 p q ∨ B2 p q ∨ (E1 p ∧ F2 q)) C (fun p => (em2 ∧ E1 p) ∨ E2 p) w p ↔ (em2 ∧ Pth B1 C E1 w p) ∨ ∃ u v, w = u ++ v ∧ Pth B1 C E1 u p ∧ ∃ q, F2 q ∧ Pth B2 C E2 v q)
 | [], p, _ => by
   constructor
   ·intro h; exact h.elim
   ·rintro (⟨_, h⟩ | ⟨u, v, e, h, _⟩)
    ·exact h.elim
    ·have := (List.append_eq_nil_iff.1 e.symm).1
     subst this
     exact h.elim
 | c :: w, p, hp => by
   have ih := pth_two (em2 := em2) hd h1 h2 hE1 hE2 hF2 (C := C) w
   have hY : ∀ v q, Y q → (Pth (fun p q => B1 p q ∨ B2 p q ∨ (E1 p ∧ F2 q)) C (fun p => (em2 ∧ E1 p) ∨ E2 p) v q ↔ Pth B2 C E2 v q) := fun v q hq => Pth.congr Y (fun a b ha => ⟨fun h => by
    rcases h with h | h | h
    ·exact absurd ha (hd a (h1 a b h).1)
    ·exact h
    ·exact absurd ha (hd a (hE1 a h.1)), fun h => .inr (.inl h)⟩) (fun a b ha h => by
    rcases h with h | h | h
    ·exact absurd ha (hd a (h1 a b h).1)
    ·exact (h2 a b h).2
    ·exact absurd ha (hd a (hE1 a h.1))) (fun a ha => ⟨fun h => by
    rcases h with h | h
    ·exact absurd ha (hd a (hE1 a h.2))
    ·exact h, fun h => .inr h⟩) v q hq
   constructor
   ·rintro ⟨hc, ⟨hw, he⟩ | ⟨q, hb, hr⟩⟩
    ·rcases he with ⟨hm, he⟩ | he
     ·exact .inl ⟨hm, hc, .inl ⟨hw, he⟩⟩
     ·exact absurd (hE2 p he) (hd p hp)
    ·rcases hb with hb | hb | ⟨hb, hf⟩
     ·rcases (ih q (h1 p q hb).2).1 hr with ⟨hm, h⟩ | ⟨u, v, e, h, h'⟩
      ·exact .inl ⟨hm, hc, .inr ⟨q, hb, h⟩⟩
      ·exact .inr ⟨c :: u, v, by rw [e]; rfl, ⟨hc, .inr ⟨q, hb, h⟩⟩, h'⟩
     ·exact absurd (h2 p q hb).1 (hd p hp)
     ·exact .inr ⟨[c], w, rfl, ⟨hc, .inl ⟨rfl, hb⟩⟩, q, hf, (hY w q (hF2 q hf)).1 hr⟩
   ·rintro (⟨hm, hc, h⟩ | ⟨u, v, e, hu, q, hf, hv⟩)
    ·rcases h with ⟨hw, he⟩ | ⟨q, hb, h⟩
     ·exact ⟨hc, .inl ⟨hw, .inl ⟨hm, he⟩⟩⟩
     ·exact ⟨hc, .inr ⟨q, .inl hb, (ih q (h1 p q hb).2).2 (.inl ⟨hm, h⟩)⟩⟩
    ·cases u with
     | nil => exact hu.elim
     | cons c' u =>
       simp only [List.cons_append, List.cons.injEq] at e
       obtain ⟨rfl, e⟩ := e
       obtain ⟨hc, h⟩ := hu
       rcases h with ⟨hw, he⟩ | ⟨q', hb, h⟩
       ·subst hw
        rw [List.nil_append] at e
        subst e
        exact ⟨hc, .inr ⟨q, .inr (.inr ⟨he, hf⟩), (hY _ q (hF2 q hf)).2 hv⟩⟩
       ·exact ⟨hc, .inr ⟨q', .inl hb, (ih q' (h1 p q' hb).2).2 (.inr ⟨u, v, e, h, q, hf, hv⟩)⟩⟩
theorem gl_seq {em1 em2 : Prop} {F1 F2 E1 E2 : Nat → Prop} {B1 B2 : Nat → Nat → Prop} {C : Nat → Int → Prop} {X Y : Nat → Prop} (hd : ∀ p, X p → ¬ Y p) (h1 : ∀ p q, B1 p q → X p ∧ X q) (h2 : ∀ p q, B2 p q → Y p ∧ Y q) (hF1 : ∀ p, F1 p → X p) (hE1 : ∀ p, E1 p → X p) (hE2 : ∀ p, E2 p → Y p) (hF2 : ∀ p, F2 p → Y p) (w : List Int) :
 GL (em1 ∧ em2) (fun p => F1 p ∨ (em1 ∧ F2 p)) (fun p => (em2 ∧ E1 p) ∨ E2 p) (fun p q => B1 p q ∨ B2 p q ∨ (E1 p ∧ F2 q)) C w ↔ ∃ u v, w = u ++ v ∧ GL em1 F1 E1 B1 C u ∧ GL em2 F2 E2 B2 C v := by
 have hY : ∀ v q, Y q → (Pth (fun p q => B1 p q ∨ B2 p q ∨ (E1 p ∧ F2 q)) C (fun p => (em2 ∧ E1 p) ∨ E2 p) v q ↔ Pth B2 C E2 v q) := fun v q hq => Pth.congr Y (fun a b ha => ⟨fun h => by
  rcases h with h | h | h
  ·exact absurd ha (hd a (h1 a b h).1)
  ·exact h
  ·exact absurd ha (hd a (hE1 a h.1)), fun h => .inr (.inl h)⟩) (fun a b ha h => by
  rcases h with h | h | h
  ·exact absurd ha (hd a (h1 a b h).1)
  ·exact (h2 a b h).2
  ·exact absurd ha (hd a (hE1 a h.1))) (fun a ha => ⟨fun h => by
  rcases h with h | h
  ·exact absurd ha (hd a (hE1 a h.2))
  ·exact h, fun h => .inr h⟩) v q hq
 constructor
 ·rintro (⟨hw, ha, hb⟩ | ⟨p, hp, h⟩)
  ·exact ⟨[], [], hw, .inl ⟨rfl, ha⟩, .inl ⟨rfl, hb⟩⟩
  ·rcases hp with hp | ⟨ha, hp⟩
   ·rcases (pth_two hd h1 h2 hE1 hE2 hF2 w p (hF1 p hp)).1 h with ⟨hm, h⟩ | ⟨u, v, e, hu, q, hf, hv⟩
    ·exact ⟨w, [], by simp, .inr ⟨p, hp, h⟩, .inl ⟨rfl, hm⟩⟩
    ·exact ⟨u, v, e, .inr ⟨p, hp, hu⟩, .inr ⟨q, hf, hv⟩⟩
   ·exact ⟨[], w, rfl, .inl ⟨rfl, ha⟩, .inr ⟨p, hp, (hY w p (hF2 p hp)).1 h⟩⟩
 ·rintro ⟨u, v, e, hu, hv⟩
  rcases hu with ⟨hu, ha⟩ | ⟨p, hp, hu⟩
  ·subst hu
   rw [List.nil_append] at e
   subst e
   rcases hv with ⟨hv, hb⟩ | ⟨q, hq, hv⟩
   ·exact .inl ⟨hv, ha, hb⟩
   ·exact .inr ⟨q, .inr ⟨ha, hq⟩, (hY _ q (hF2 q hq)).2 hv⟩
  ·rcases hv with ⟨hv, hb⟩ | ⟨q, hq, hv⟩
   ·subst hv
    rw [List.append_nil] at e
    subst e
    exact .inr ⟨p, .inl hp, (pth_two hd h1 h2 hE1 hE2 hF2 _ p (hF1 p hp)).2 (.inl ⟨hb, hu⟩)⟩
   ·exact .inr ⟨p, .inl hp, (pth_two hd h1 h2 hE1 hE2 hF2 w p (hF1 p hp)).2 (.inr ⟨u, v, e, hu, q, hq, hv⟩)⟩
theorem gl_alt {em1 em2 : Prop} {F1 F2 E1 E2 : Nat → Prop} {B1 B2 : Nat → Nat → Prop} {C : Nat → Int → Prop} {X Y : Nat → Prop} (hd : ∀ p, X p → ¬ Y p) (h1 : ∀ p q, B1 p q → X p ∧ X q) (h2 : ∀ p q, B2 p q → Y p ∧ Y q) (hF1 : ∀ p, F1 p → X p) (hE1 : ∀ p, E1 p → X p) (hE2 : ∀ p, E2 p → Y p) (hF2 : ∀ p, F2 p → Y p) (w : List Int) :
 GL (em1 ∨ em2) (fun p => F1 p ∨ F2 p) (fun p => E1 p ∨ E2 p) (fun p q => B1 p q ∨ B2 p q) C w ↔ GL em1 F1 E1 B1 C w ∨ GL em2 F2 E2 B2 C w := by
 have hx : ∀ v q, X q → (Pth (fun p q => B1 p q ∨ B2 p q) C (fun p => E1 p ∨ E2 p) v q ↔ Pth B1 C E1 v q) := fun v q hq => Pth.congr X (fun a b ha => ⟨fun h => by
  rcases h with h | h
  ·exact h
  ·exact absurd (h2 a b h).1 (hd a ha), .inl⟩) (fun a b ha h => by
  rcases h with h | h
  ·exact (h1 a b h).2
  ·exact absurd (h2 a b h).1 (hd a ha)) (fun a ha => ⟨fun h => by
  rcases h with h | h
  ·exact h
  ·exact absurd (hE2 a h) (hd a ha), .inl⟩) v q hq
 have hy : ∀ v q, Y q → (Pth (fun p q => B1 p q ∨ B2 p q) C (fun p => E1 p ∨ E2 p) v q ↔ Pth B2 C E2 v q) := fun v q hq => Pth.congr Y (fun a b ha => ⟨fun h => by
  rcases h with h | h
  ·exact absurd ha (hd a (h1 a b h).1)
  ·exact h, .inr⟩) (fun a b ha h => by
  rcases h with h | h
  ·exact absurd ha (hd a (h1 a b h).1)
  ·exact (h2 a b h).2) (fun a ha => ⟨fun h => by
  rcases h with h | h
  ·exact absurd ha (hd a (hE1 a h))
  ·exact h, .inr⟩) v q hq
 constructor
 ·rintro (⟨hw, h | h⟩ | ⟨p, h | h, hp⟩)
  ·exact .inl (.inl ⟨hw, h⟩)
  ·exact .inr (.inl ⟨hw, h⟩)
  ·exact .inl (.inr ⟨p, h, (hx w p (hF1 p h)).1 hp⟩)
  ·exact .inr (.inr ⟨p, h, (hy w p (hF2 p h)).1 hp⟩)
 ·rintro ((⟨hw, h⟩ | ⟨p, h, hp⟩) | (⟨hw, h⟩ | ⟨p, h, hp⟩))
  ·exact .inl ⟨hw, .inl h⟩
  ·exact .inr ⟨p, .inl h, (hx w p (hF1 p h)).2 hp⟩
  ·exact .inl ⟨hw, .inr h⟩
  ·exact .inr ⟨p, .inr h, (hy w p (hF2 p h)).2 hp⟩
theorem pth_loop {F E : Nat → Prop} {B : Nat → Nat → Prop} {C : Nat → Int → Prop} : (w : List Int) → (p : Nat) → (Pth (fun p q => B p q ∨ (E p ∧ F q)) C E w p ↔ ∃ u v, w = u ++ v ∧ Pth B C E u p ∧ (v = [] ∨ ∃ q, F q ∧ Pth (fun p q => B p q ∨ (E p ∧ F q)) C E v q))
 | [], p => by
   constructor
   ·intro h; exact h.elim
   ·rintro ⟨u, v, e, h, _⟩
    have := (List.append_eq_nil_iff.1 e.symm).1
    subst this
    exact h.elim
 | c :: w, p => by
   have ih := pth_loop (F := F) (E := E) (B := B) (C := C) w
   constructor
   ·rintro ⟨hc, ⟨hw, he⟩ | ⟨q, hb | ⟨he, hf⟩, hr⟩⟩
    ·exact ⟨[c], w, rfl, ⟨hc, .inl ⟨rfl, he⟩⟩, .inl hw⟩
    ·obtain ⟨u, v, e, hu, hv⟩ := (ih q).1 hr
     exact ⟨c :: u, v, by rw [e]; rfl, ⟨hc, .inr ⟨q, hb, hu⟩⟩, hv⟩
    ·exact ⟨[c], w, rfl, ⟨hc, .inl ⟨rfl, he⟩⟩, .inr ⟨q, hf, hr⟩⟩
   ·rintro ⟨u, v, e, hu, hv⟩
    cases u with
    | nil => exact hu.elim
    | cons c' u =>
      simp only [List.cons_append, List.cons.injEq] at e
      obtain ⟨rfl, e⟩ := e
      obtain ⟨hc, h⟩ := hu
      rcases h with ⟨hw, he⟩ | ⟨q', hb, h⟩
      ·subst hw
       rw [List.nil_append] at e
       subst e
       rcases hv with hv | ⟨q, hf, hv⟩
       ·exact ⟨hc, .inl ⟨hv, he⟩⟩
       ·exact ⟨hc, .inr ⟨q, .inr ⟨he, hf⟩, hv⟩⟩
      ·exact ⟨hc, .inr ⟨q', .inl hb, (ih q').2 ⟨u, v, e, h, hv⟩⟩⟩
theorem gl_star {em : Prop} {F E : Nat → Prop} {B : Nat → Nat → Prop} {C : Nat → Int → Prop} (w : List Int) : GL True F E (fun p q => B p q ∨ (E p ∧ F q)) C w ↔ starL (GL em F E B C) w := by
 constructor
 ·rintro (⟨hw, _⟩ | ⟨p, hp, h⟩)
  ·exact ⟨0, hw⟩
  ·have key : ∀ n (w : List Int), w.length ≤ n → ∀ p, F p → Pth (fun p q => B p q ∨ (E p ∧ F q)) C E w p → ∃ k, powL (GL em F E B C) k w := by
    intro n
    induction n with
    | zero =>
      intro w hl p _ h
      exact absurd (List.eq_nil_of_length_eq_zero (by omega)) h.ne
    | succ n ih =>
      intro w hl p hp h
      obtain ⟨u, v, e, hu, hv⟩ := (pth_loop w p).1 h
      rcases hv with hv | ⟨q, hq, hv⟩
      ·exact ⟨1, u, v, e, .inr ⟨p, hp, hu⟩, hv⟩
      ·have hul : 0 < u.length := List.length_pos_iff.2 hu.ne
       have hlen : v.length ≤ n := by
        have := congrArg List.length e
        simp at this
        omega
       obtain ⟨k, hk⟩ := ih v hlen q hq hv
       exact ⟨k + 1, u, v, e, .inr ⟨p, hp, hu⟩, hk⟩
   exact key w.length w (Nat.le_refl _) p hp h
 ·rintro ⟨k, hk⟩
  have key : ∀ k (w : List Int), powL (GL em F E B C) k w → GL True F E (fun p q => B p q ∨ (E p ∧ F q)) C w := by
   intro k
   induction k with
   | zero => intro w h; exact .inl ⟨h, trivial⟩
   | succ k ih =>
     rintro w ⟨u, v, e, hu, hv⟩
     have h2 := ih v hv
     rcases hu with ⟨hu, _⟩ | ⟨p, hp, hu⟩
     ·subst hu
      rw [List.nil_append] at e
      rw [e]; exact h2
     ·refine .inr ⟨p, hp, (pth_loop w p).2 ⟨u, v, e, hu, ?_⟩⟩
      rcases h2 with ⟨hv, _⟩ | ⟨q, hq, hv⟩
      ·exact .inl hv
      ·exact .inr ⟨q, hq, hv⟩
  exact key k w hk
theorem gl_opt {em : Prop} {F E : Nat → Prop} {B : Nat → Nat → Prop} {C : Nat → Int → Prop} (w : List Int) : GL True F E B C w ↔ w = [] ∨ GL em F E B C w := by
 constructor
 ·rintro (⟨hw, _⟩ | h)
  ·exact .inl hw
  ·exact .inr (.inr h)
 ·rintro (hw | ⟨hw, _⟩ | h)
  ·exact .inl ⟨hw, trivial⟩
  ·exact .inl ⟨hw, trivial⟩
  ·exact .inr h
theorem gl_congr {em em' : Prop} {F F' E E' : Nat → Prop} {B B' : Nat → Nat → Prop} {C C' : Nat → Int → Prop} (X : Nat → Prop) (hX : ∀ p, F p → X p) (hBX : ∀ p q, X p → B p q → X q) (he : em ↔ em') (hF : ∀ p, F p ↔ F' p) (hE : ∀ p, X p → (E p ↔ E' p)) (hB : ∀ p q, X p → (B p q ↔ B' p q)) (hC : ∀ p c, X p → (C p c ↔ C' p c)) (w : List Int) : GL em F E B C w ↔ GL em' F' E' B' C' w := by
 have key : ∀ (w : List Int) (p : Nat), X p → (Pth B C E w p ↔ Pth B' C' E' w p) := by
  intro w
  induction w with
  | nil => intro p _; exact Iff.rfl
  | cons c w ih =>
    intro p hp
    simp only [Pth]
    constructor
    ·rintro ⟨h1, ⟨h2, h3⟩ | ⟨q, h2, h3⟩⟩
     ·exact ⟨(hC p c hp).1 h1, .inl ⟨h2, (hE p hp).1 h3⟩⟩
     ·exact ⟨(hC p c hp).1 h1, .inr ⟨q, (hB p q hp).1 h2, (ih q (hBX p q hp h2)).1 h3⟩⟩
    ·rintro ⟨h1, ⟨h2, h3⟩ | ⟨q, h2, h3⟩⟩
     ·exact ⟨(hC p c hp).2 h1, .inl ⟨h2, (hE p hp).2 h3⟩⟩
     ·have h4 := (hB p q hp).2 h2
      exact ⟨(hC p c hp).2 h1, .inr ⟨q, h4, (ih q (hBX p q hp h4)).2 h3⟩⟩
 unfold GL
 constructor
 ·rintro (⟨h1, h2⟩ | ⟨p, h1, h2⟩)
  ·exact .inl ⟨h1, he.1 h2⟩
  ·exact .inr ⟨p, (hF p).1 h1, (key w p (hX p h1)).1 h2⟩
 ·rintro (⟨h1, h2⟩ | ⟨p, h1, h2⟩)
  ·exact .inl ⟨h1, he.2 h2⟩
  ·have h3 := (hF p).2 h1
   exact .inr ⟨p, h3, (key w p (hX p h3)).2 h2⟩
end Go.Proofs.YtclogekfdmikpaaDoor

/- Plain mathematics of an expression's nodes: a part's span (can it be empty, which nodes come first, which last), each node's classes and those behind it; a machine by these reads just what the expression fits; nothing of the program is named here. -/
namespace Go.Proofs.YtclogekfdmikpaaDoor
set_option linter.unusedVariables false
set_option linter.unusedSimpArgs false

abbrev Pl := List (List Int × Nat)
structure Sp where
 em : Bool
 fi : Nat
 en : Nat
def leadP (A B : Nat) (l : Pl) : Pl := l.mapIdx fun p e => if A.testBit p = true then (e.1, e.2 ||| B) else e
theorem leadP_len (A B : Nat) (l : Pl) : (leadP A B l).length = l.length := by simp [leadP]
theorem leadP_get (A B : Nat) (l : Pl) (p : Nat) : (leadP A B l)[p]? = (l[p]?).map fun e => if A.testBit p = true then (e.1, e.2 ||| B) else e := by simp [leadP]
def bhP (l : Pl) (p q : Nat) : Prop := ∃ e, l[p]? = some e ∧ e.2.testBit q = true
def ccP (l : Pl) (p : Nat) (c : Int) : Prop := ∃ e, l[p]? = some e ∧ c ∈ e.1
theorem bhP.lt {l : Pl} {p q : Nat} (h : bhP l p q) : p < l.length := by
 obtain ⟨e, h, _⟩ := h
 exact (List.getElem?_eq_some_iff.1 h).1
theorem bhP_lead (A B : Nat) (l : Pl) (p q : Nat) : bhP (leadP A B l) p q ↔ bhP l p q ∨ (p < l.length ∧ A.testBit p = true ∧ B.testBit q = true) := by
 unfold bhP
 rw [leadP_get]
 constructor
 ·rintro ⟨e, h, hq⟩
  obtain ⟨e', h', rfl⟩ := Option.map_eq_some_iff.1 h
  by_cases hA : A.testBit p = true
  ·rw [if_pos hA] at hq
   simp only [Nat.testBit_or, Bool.or_eq_true] at hq
   rcases hq with hq | hq
   ·exact .inl ⟨e', h', hq⟩
   ·exact .inr ⟨(List.getElem?_eq_some_iff.1 h').1, hA, hq⟩
  ·rw [if_neg hA] at hq
   exact .inl ⟨e', h', hq⟩
 ·rintro (⟨e, h, hq⟩ | ⟨h, hA, hB⟩)
  ·refine ⟨_, by rw [h]; rfl, ?_⟩
   split
   ·simp [hq]
   ·exact hq
  ·refine ⟨_, by rw [List.getElem?_eq_getElem h]; rfl, ?_⟩
   simp [hA, hB]
theorem ccP_lead (A B : Nat) (l : Pl) (p : Nat) (c : Int) : ccP (leadP A B l) p c ↔ ccP l p c := by
 unfold ccP
 rw [leadP_get]
 constructor
 ·rintro ⟨e, h, hq⟩
  obtain ⟨e', h', rfl⟩ := Option.map_eq_some_iff.1 h
  refine ⟨e', h', ?_⟩
  split at hq <;> exact hq
 ·rintro ⟨e, h, hq⟩
  refine ⟨_, by rw [h]; rfl, ?_⟩
  split <;> exact hq
theorem bhP_same {l l' : Pl} {p : Nat} (h : l'[p]? = l[p]?) (q : Nat) : bhP l' p q ↔ bhP l p q := by unfold bhP; rw [h]
theorem ccP_same {l l' : Pl} {p : Nat} (h : l'[p]? = l[p]?) (c : Int) : ccP l' p c ↔ ccP l p c := by unfold ccP; rw [h]
def gls (l : Pl) (s : Sp) : List Int → Prop := GL (s.em = true) (fun p => s.fi.testBit p = true) (fun p => s.en.testBit p = true) (bhP l) (ccP l)
structure InSp (lo : Nat) (s : Sp) (l : Pl) : Prop where
 fi : ∀ p, s.fi.testBit p = true → lo ≤ p ∧ p < l.length
 en : ∀ p, s.en.testBit p = true → lo ≤ p ∧ p < l.length
 bh : ∀ p q, lo ≤ p → bhP l p q → lo ≤ q ∧ q < l.length
structure OkSp (lo : Nat) (l : Pl) (r : Sp × Pl) (L : List Int → Prop) : Prop where
 len : l.length ≤ r.2.length
 old : ∀ i, i < lo → r.2[i]? = l[i]?
 isin : InSp lo r.1 r.2
 lang : ∀ w, gls r.2 r.1 w ↔ L w
theorem OkSp.congr {lo : Nat} {l : Pl} {r : Sp × Pl} {L L' : List Int → Prop} (h : OkSp lo l r L) (hl : ∀ w, L w ↔ L' w) : OkSp lo l r L' := ⟨h.len, h.old, h.isin, fun w => (h.lang w).trans (hl w)⟩
def stepQ (t : Bool) (s : Sp) (r : Sp × Pl) : Sp × Pl :=
 if t = true then (⟨s.em && r.1.em, if s.em = true then s.fi ||| r.1.fi else s.fi, (if r.1.em = true then s.en else 0) ||| r.1.en⟩, leadP s.en r.1.fi r.2)
 else (⟨s.em || r.1.em, s.fi ||| r.1.fi, s.en ||| r.1.en⟩, r.2)
def topQ (op : Int) (cl : List Int) (row fork : Sp × Pl) (l : Pl) : Sp × Pl :=
 if op = 1 then (⟨false, 2 ^ l.length, 2 ^ l.length⟩, l ++ [(cl, 0)])
 else if op = 3 then fork
 else if op = 4 then (⟨true, fork.1.fi, fork.1.en⟩, leadP fork.1.en fork.1.fi fork.2)
 else if op = 5 then (⟨true, fork.1.fi, fork.1.en⟩, fork.2)
 else row
def spF : Fo → Bool → Sp → Pl → Sp × Pl
 | .nil, _, s, l => (s, l)
 | .node _ _ a k r, t, s, l =>
   spF r t (stepQ t s (topQ a.1 a.2 (spF k true ⟨true, 0, 0⟩ l) (spF k false ⟨false, 0, 0⟩ l) l)).1 (stepQ t s (topQ a.1 a.2 (spF k true ⟨true, 0, 0⟩ l) (spF k false ⟨false, 0, 0⟩ l) l)).2
def Nd.span (n : Nd) (l : Pl) : Sp × Pl := topQ n.op n.cl (spF n.kids true ⟨true, 0, 0⟩ l) (spF n.kids false ⟨false, 0, 0⟩ l) l
theorem insp_none (b : Bool) (l : Pl) : InSp l.length ⟨b, 0, 0⟩ l :=
 ⟨fun p h => by simp at h, fun p h => by simp at h, fun p q h1 h2 => by have := h2.lt; omega⟩
theorem gls_none (b : Bool) (l : Pl) (w : List Int) : gls l ⟨b, 0, 0⟩ w ↔ w = [] ∧ b = true := by
 unfold gls GL
 simp
theorem step_row {lo : Nat} {l l1 : Pl} {s p : Sp} (hlo : lo ≤ l.length) (hs : InSp lo s l) (hlen : l.length ≤ l1.length) (hold : ∀ i, i < l.length → l1[i]? = l[i]?) (hp : InSp l.length p l1) : OkSp lo l (stepQ true s (p, l1)) (fun w => ∃ u v, w = u ++ v ∧ gls l s u ∧ gls l1 p v) := by
 have hr : stepQ true s (p, l1) = (⟨s.em && p.em, if s.em = true then s.fi ||| p.fi else s.fi, (if p.em = true then s.en else 0) ||| p.en⟩, leadP s.en p.fi l1) := rfl
 rw [hr]
 have hfi : ∀ x, (if s.em = true then s.fi ||| p.fi else s.fi).testBit x = true ↔ s.fi.testBit x = true ∨ (s.em = true ∧ p.fi.testBit x = true) := by
  intro x
  split
  ·rename_i h; simp [h]
  ·rename_i h; simp [h]
 have hen : ∀ x, ((if p.em = true then s.en else 0) ||| p.en).testBit x = true ↔ (p.em = true ∧ s.en.testBit x = true) ∨ p.en.testBit x = true := by
  intro x
  split
  ·rename_i h; simp [h]
  ·rename_i h; simp [h]
 have hbh : ∀ x y, lo ≤ x → (bhP (leadP s.en p.fi l1) x y ↔ ((lo ≤ x ∧ x < l.length) ∧ bhP l x y) ∨ (l.length ≤ x ∧ bhP l1 x y) ∨ (s.en.testBit x = true ∧ p.fi.testBit y = true)) := by
  intro x y hx
  rw [bhP_lead]
  constructor
  ·rintro (h | ⟨h, h1, h2⟩)
   ·rcases Nat.lt_or_ge x l.length with hxl | hxl
    ·exact .inl ⟨⟨hx, hxl⟩, (bhP_same (hold x hxl) y).1 h⟩
    ·exact .inr (.inl ⟨hxl, h⟩)
   ·exact .inr (.inr ⟨h1, h2⟩)
  ·rintro (⟨⟨_, hxl⟩, h⟩ | ⟨_, h⟩ | ⟨h1, h2⟩)
   ·exact .inl ((bhP_same (hold x hxl) y).2 h)
   ·exact .inl h
   ·exact .inr ⟨by have := (hs.en x h1).2; omega, h1, h2⟩
 refine ⟨by simpa [leadP_len] using hlen, fun i hi => ?_, ⟨fun x hx => ?_, fun x hx => ?_, fun x y hx hb => ?_⟩, fun w => ?_⟩
 ·show (leadP _ _ _)[i]? = _
  rw [leadP_get, hold i (by omega)]
  have : ¬ s.en.testBit i = true := fun h => by have := (hs.en i h).1; omega
  simp [this]
 ·rw [leadP_len]
  rcases (hfi x).1 hx with h | ⟨_, h⟩
  ·have := hs.fi x h; omega
  ·have := hp.fi x h; omega
 ·rw [leadP_len]
  rcases (hen x).1 hx with ⟨_, h⟩ | h
  ·have := hs.en x h; omega
  ·have := hp.en x h; omega
 ·rw [leadP_len]
  rcases (hbh x y hx).1 hb with ⟨_, h⟩ | ⟨h1, h⟩ | ⟨_, h⟩
  ·have := hs.bh x y hx h; omega
  ·have := hp.bh x y h1 h; omega
  ·have := hp.fi y h; omega
 ·have h0 := gl_seq (em1 := s.em = true) (em2 := p.em = true) (F1 := fun x => s.fi.testBit x = true) (F2 := fun x => p.fi.testBit x = true) (E1 := fun x => s.en.testBit x = true) (E2 := fun x => p.en.testBit x = true)
   (B1 := fun x y => (lo ≤ x ∧ x < l.length) ∧ bhP l x y) (B2 := fun x y => l.length ≤ x ∧ bhP l1 x y) (C := ccP l1) (X := fun x => lo ≤ x ∧ x < l.length) (Y := fun x => l.length ≤ x ∧ x < l1.length)
   (fun x h1 h2 => by omega) (fun x y h => ⟨h.1, hs.bh x y h.1.1 h.2⟩) (fun x y h => ⟨⟨h.1, h.2.lt⟩, hp.bh x y h.1 h.2⟩) hs.fi hs.en hp.en hp.fi w
  refine Iff.trans (gl_congr (fun x => lo ≤ x) (fun x hx => ?_) (fun x y hx hb => ?_) ?_ hfi (fun x _ => hen x) hbh (fun x c _ => ccP_lead _ _ _ x c) w) (h0.trans ?_)
  ·rcases (hfi x).1 hx with h | ⟨_, h⟩
   ·exact (hs.fi x h).1
   ·have := hp.fi x h; omega
  ·rcases (hbh x y hx).1 hb with ⟨_, h⟩ | ⟨h1, h⟩ | ⟨_, h⟩
   ·have := hs.bh x y hx h; omega
   ·have := hp.bh x y h1 h; omega
   ·have := hp.fi y h; omega
  ·simp
  refine exists_congr fun u => exists_congr fun v => and_congr_right fun _ => and_congr ?_ ?_
  ·exact gl_congr (fun x => lo ≤ x ∧ x < l.length) hs.fi (fun x y hx hb => hs.bh x y hx.1 hb.2) Iff.rfl (fun _ => Iff.rfl) (fun _ _ => Iff.rfl) (fun x y hx => ⟨fun h => h.2, fun h => ⟨hx, h⟩⟩) (fun x c hx => ccP_same (hold x hx.2) c) u
  ·exact gl_congr (fun x => l.length ≤ x) (fun x hx => (hp.fi x hx).1) (fun x y hx hb => (hp.bh x y hx hb.2).1) Iff.rfl (fun _ => Iff.rfl) (fun _ _ => Iff.rfl) (fun x y hx => ⟨fun h => h.2, fun h => ⟨hx, h⟩⟩) (fun x c hx => Iff.rfl) v
theorem step_fork {lo : Nat} {l l1 : Pl} {s p : Sp} (hlo : lo ≤ l.length) (hs : InSp lo s l) (hlen : l.length ≤ l1.length) (hold : ∀ i, i < l.length → l1[i]? = l[i]?) (hp : InSp l.length p l1) : OkSp lo l (stepQ false s (p, l1)) (fun w => gls l s w ∨ gls l1 p w) := by
 have hr : stepQ false s (p, l1) = (⟨s.em || p.em, s.fi ||| p.fi, s.en ||| p.en⟩, l1) := rfl
 rw [hr]
 have hfi : ∀ x, (s.fi ||| p.fi).testBit x = true ↔ s.fi.testBit x = true ∨ p.fi.testBit x = true := fun x => by simp
 have hen : ∀ x, (s.en ||| p.en).testBit x = true ↔ s.en.testBit x = true ∨ p.en.testBit x = true := fun x => by simp
 have hbh : ∀ x y, lo ≤ x → (bhP l1 x y ↔ ((lo ≤ x ∧ x < l.length) ∧ bhP l x y) ∨ (l.length ≤ x ∧ bhP l1 x y)) := by
  intro x y hx
  constructor
  ·intro h
   rcases Nat.lt_or_ge x l.length with hxl | hxl
   ·exact .inl ⟨⟨hx, hxl⟩, (bhP_same (hold x hxl) y).1 h⟩
   ·exact .inr ⟨hxl, h⟩
  ·rintro (⟨⟨_, hxl⟩, h⟩ | ⟨_, h⟩)
   ·exact (bhP_same (hold x hxl) y).2 h
   ·exact h
 refine ⟨hlen, fun i hi => hold i (by omega), ⟨fun x hx => ?_, fun x hx => ?_, fun x y hx hb => ?_⟩, fun w => ?_⟩
 ·show _ ∧ x < l1.length
  rcases (hfi x).1 hx with h | h
  ·have := hs.fi x h; omega
  ·have := hp.fi x h; omega
 ·show _ ∧ x < l1.length
  rcases (hen x).1 hx with h | h
  ·have := hs.en x h; omega
  ·have := hp.en x h; omega
 ·show _ ∧ y < l1.length
  rcases (hbh x y hx).1 hb with ⟨_, h⟩ | ⟨h1, h⟩
  ·have := hs.bh x y hx h; omega
  ·have := hp.bh x y h1 h; omega
 ·have h0 := gl_alt (em1 := s.em = true) (em2 := p.em = true) (F1 := fun x => s.fi.testBit x = true) (F2 := fun x => p.fi.testBit x = true) (E1 := fun x => s.en.testBit x = true) (E2 := fun x => p.en.testBit x = true)
   (B1 := fun x y => (lo ≤ x ∧ x < l.length) ∧ bhP l x y) (B2 := fun x y => l.length ≤ x ∧ bhP l1 x y) (C := ccP l1) (X := fun x => lo ≤ x ∧ x < l.length) (Y := fun x => l.length ≤ x ∧ x < l1.length)
   (fun x h1 h2 => by omega) (fun x y h => ⟨h.1, hs.bh x y h.1.1 h.2⟩) (fun x y h => ⟨⟨h.1, h.2.lt⟩, hp.bh x y h.1 h.2⟩) hs.fi hs.en hp.en hp.fi w
  refine Iff.trans (gl_congr (fun x => lo ≤ x) (fun x hx => ?_) (fun x y hx hb => ?_) ?_ hfi (fun x _ => hen x) hbh (fun x c _ => Iff.rfl) w) (h0.trans (or_congr ?_ ?_))
  ·rcases (hfi x).1 hx with h | h
   ·exact (hs.fi x h).1
   ·have := hp.fi x h; omega
  ·rcases (hbh x y hx).1 hb with ⟨_, h⟩ | ⟨h1, h⟩
   ·have := hs.bh x y hx h; omega
   ·have := hp.bh x y h1 h; omega
  ·simp
  ·exact gl_congr (fun x => lo ≤ x ∧ x < l.length) hs.fi (fun x y hx hb => hs.bh x y hx.1 hb.2) Iff.rfl (fun _ => Iff.rfl) (fun _ _ => Iff.rfl) (fun x y hx => ⟨fun h => h.2, fun h => ⟨hx, h⟩⟩) (fun x c hx => ccP_same (hold x hx.2) c) w
  ·exact gl_congr (fun x => l.length ≤ x) (fun x hx => (hp.fi x hx).1) (fun x y hx hb => (hp.bh x y hx hb.2).1) Iff.rfl (fun _ => Iff.rfl) (fun _ _ => Iff.rfl) (fun x y hx => ⟨fun h => h.2, fun h => ⟨hx, h⟩⟩) (fun x c hx => Iff.rfl) w
theorem top_ok (op : Int) (cl : List Int) (ks : List (List Int → Prop)) (row fork : Sp × Pl) (l : Pl) (h45 : op = 4 ∨ op = 5 → ks.length = 1) (hrow : OkSp l.length l row (seqL ks)) (hfork : OkSp l.length l fork (altL ks)) : OkSp l.length l (topQ op cl row fork l) (nodeL op cl ks) := by
 have halt : ks.length = 1 → ∀ w, altL ks w ↔ ks.headD (fun _ => False) w := by
  intro h w
  match ks, h with
  | [k], _ => simp [altL]
 unfold topQ
 by_cases h1 : op = 1
 ·rw [if_pos h1]
  have hb : ∀ x, (2 ^ l.length).testBit x = true ↔ x = l.length := fun x => by
   rw [Nat.testBit_two_pow]; simp [eq_comm]
  have hbh : ∀ x y, l.length ≤ x → ¬ bhP (l ++ [(cl, 0)]) x y := by
   rintro x y hx ⟨e, h, hq⟩
   rw [List.getElem?_append_right hx] at h
   have h2 := (List.getElem?_eq_some_iff.1 h)
   obtain ⟨h3, h4⟩ := h2
   have : x - l.length = 0 := by simpa using h3
   simp [this] at h
   rw [← h] at hq
   simp at hq
  refine ⟨by simp, fun i hi => List.getElem?_append_left hi, ⟨fun x hx => ?_, fun x hx => ?_, fun x y hx hb' => (hbh x y hx hb').elim⟩, fun w => ?_⟩
  ·have := (hb x).1 hx; simp; omega
  ·have := (hb x).1 hx; simp; omega
  ·have hN : nodeL op cl ks w ↔ ∃ c, c ∈ cl ∧ w = [c] := by simp [nodeL, h1]
   rw [hN]
   unfold gls GL
   simp only [hb]
   constructor
   ·rintro (⟨_, h⟩ | ⟨p, rfl, h⟩)
    ·simp at h
    ·match w, h with
     | c :: w, ⟨⟨e, h2, h3⟩, h4⟩ =>
       rw [List.getElem?_append_right (Nat.le_refl _)] at h2
       simp at h2
       subst h2
       rcases h4 with ⟨h4, _⟩ | ⟨q, h4, _⟩
       ·exact ⟨c, h3, by rw [h4]⟩
       ·exact (hbh _ _ (Nat.le_refl _) h4).elim
   ·rintro ⟨c, hc, rfl⟩
    exact .inr ⟨_, rfl, ⟨(cl, 0), by simp, hc⟩, .inl ⟨rfl, rfl⟩⟩
 ·rw [if_neg h1]
  by_cases h3 : op = 3
  ·rw [if_pos h3]
   exact hfork.congr fun w => by simp [nodeL, h1, h3]
  ·rw [if_neg h3]
   by_cases h4 : op = 4
   ·rw [if_pos h4]
    have hk := h45 (.inl h4)
    have hs := hfork.isin
    have hbh := bhP_lead fork.1.en fork.1.fi fork.2
    refine ⟨by simpa [leadP_len] using hfork.len, fun i hi => ?_, ⟨fun x hx => ?_, fun x hx => ?_, fun x y hx hb => ?_⟩, fun w => ?_⟩
    ·show (leadP _ _ _)[i]? = _
     rw [leadP_get, hfork.old i hi]
     have : ¬ fork.1.en.testBit i = true := fun h => by have := (hs.en i h).1; omega
     simp [this]
    ·rw [leadP_len]; exact hs.fi x hx
    ·rw [leadP_len]; exact hs.en x hx
    ·rw [leadP_len]
     rcases (hbh x y).1 hb with h | ⟨_, _, h⟩
     ·exact hs.bh x y hx h
     ·exact hs.fi y h
    ·have hN : nodeL op cl ks w ↔ starL (ks.headD (fun _ => False)) w := by simp [nodeL, h4, starL]
     rw [hN]
     have he : gls fork.2 fork.1 = ks.headD (fun _ => False) := funext fun w => propext ((hfork.lang w).trans (halt hk w))
     rw [← he]
     refine Iff.trans ?_ (gl_star (em := fork.1.em = true) (F := fun x => fork.1.fi.testBit x = true) (E := fun x => fork.1.en.testBit x = true) (B := bhP fork.2) (C := ccP fork.2) w)
     refine gl_congr (fun x => l.length ≤ x) (fun x hx => (hs.fi x hx).1) (fun x y hx hb => ?_) (by simp) (fun _ => Iff.rfl) (fun _ _ => Iff.rfl) (fun x y hx => ?_) (fun x c hx => ccP_lead _ _ _ x c) w
     ·rcases (hbh x y).1 hb with h | ⟨_, _, h⟩
      ·exact (hs.bh x y hx h).1
      ·exact (hs.fi y h).1
     ·rw [hbh]
      constructor
      ·rintro (h | ⟨_, h⟩)
       ·exact .inl h
       ·exact .inr h
      ·rintro (h | h)
       ·exact .inl h
       ·exact .inr ⟨(hs.en x h.1).2, h⟩
   ·rw [if_neg h4]
    by_cases h5 : op = 5
    ·rw [if_pos h5]
     have hk := h45 (.inr h5)
     refine ⟨hfork.len, hfork.old, ⟨hfork.isin.fi, hfork.isin.en, hfork.isin.bh⟩, fun w => ?_⟩
     have hN : nodeL op cl ks w ↔ w = [] ∨ ks.headD (fun _ => False) w := by simp [nodeL, h5]
     rw [hN, ← halt hk w, ← hfork.lang w]
     unfold gls
     have := gl_opt (em := fork.1.em = true) (F := fun x => fork.1.fi.testBit x = true) (E := fun x => fork.1.en.testBit x = true) (B := bhP fork.2) (C := ccP fork.2) w
     simpa using this
    ·rw [if_neg h5]
     exact hrow.congr fun w => by simp [nodeL, h1, h3, h4, h5]
theorem fitF_len (f : Fo) : (fitF f).length = (toL f).length := by rw [fitF_map]; simp
theorem spF_ok : (f : Fo) → RightF f → (t : Bool) → (lo : Nat) → (s : Sp) → (l : Pl) → lo ≤ l.length → InSp lo s l → OkSp lo l (spF f t s l) (fun w => if t = true then ∃ u v, w = u ++ v ∧ gls l s u ∧ seqL (fitF f) v else gls l s w ∨ altL (fitF f) w)
 | .nil, _, t, lo, s, l, hlo, hs => by
   refine ⟨Nat.le_refl _, fun _ _ => rfl, hs, fun w => ?_⟩
   cases t
   ·simp [spF, fitF, altL]
   ·simp [spF, fitF, seqL]
 | .node _ _ a k r, h, t, lo, s, l, hlo, hs => by
   obtain ⟨h45, _, hk, hr⟩ := h
   have hrow := (spF_ok k hk true l.length ⟨true, 0, 0⟩ l (Nat.le_refl _) (insp_none true l)).congr (L' := seqL (fitF k)) (fun w => by
    simp only [if_true, gls_none]
    constructor
    ·rintro ⟨u, v, rfl, ⟨rfl, _⟩, h⟩; simpa using h
    ·intro h; exact ⟨[], w, by simp, ⟨rfl, trivial⟩, h⟩)
   have hfork := (spF_ok k hk false l.length ⟨false, 0, 0⟩ l (Nat.le_refl _) (insp_none false l)).congr (L' := altL (fitF k)) (fun w => by
    simp [gls_none])
   have htop := top_ok a.1 a.2 (fitF k) _ _ l (fun h => by rw [fitF_len]; exact h45 h) hrow hfork
   revert htop
   simp only [spF]
   generalize topQ a.1 a.2 (spF k true ⟨true, 0, 0⟩ l) (spF k false ⟨false, 0, 0⟩ l) l = q
   intro htop
   obtain ⟨p, l1⟩ := q
   cases t with
   | true =>
     have hst := step_row hlo hs htop.len htop.old htop.isin
     have ih := spF_ok r hr true lo (stepQ true s (p, l1)).1 (stepQ true s (p, l1)).2 (Nat.le_trans hlo hst.len) hst.isin
     refine ⟨Nat.le_trans hst.len ih.len, fun i hi => (ih.old i hi).trans (hst.old i hi), ih.isin, fun w => ?_⟩
     refine (ih.lang w).trans ?_
     simp only [if_true]
     constructor
     ·rintro ⟨u, v, rfl, hu, hv⟩
      obtain ⟨u1, u2, rfl, h1, h2⟩ := (hst.lang u).1 hu
      exact ⟨u1, u2 ++ v, by simp, h1, u2, v, rfl, (htop.lang u2).1 h2, hv⟩
     ·rintro ⟨u, v, rfl, hu, v1, v2, rfl, h1, h2⟩
      exact ⟨u ++ v1, v2, by simp, (hst.lang _).2 ⟨u, v1, rfl, hu, (htop.lang v1).2 h1⟩, h2⟩
   | false =>
     have hst := step_fork hlo hs htop.len htop.old htop.isin
     have ih := spF_ok r hr false lo (stepQ false s (p, l1)).1 (stepQ false s (p, l1)).2 (Nat.le_trans hlo hst.len) hst.isin
     refine ⟨Nat.le_trans hst.len ih.len, fun i hi => (ih.old i hi).trans (hst.old i hi), ih.isin, fun w => ?_⟩
     refine (ih.lang w).trans ?_
     have h1 := hst.lang w
     have h2 := htop.lang w
     simp only at h2
     simp only [Bool.false_eq_true, if_false, h1, h2, fitF, altL, List.mem_cons, exists_eq_or_imp, or_assoc]
theorem span_ok (n : Nd) (h : n.right) (l : Pl) : OkSp l.length l (n.span l) n.fits := by
 obtain ⟨h45, _, hk, _⟩ := h
 refine top_ok n.op n.cl (fitF n.kids) _ _ l (fun h => by rw [fitF_len]; exact h45 h) ?_ ?_
 ·exact (spF_ok n.kids hk true l.length ⟨true, 0, 0⟩ l (Nat.le_refl _) (insp_none true l)).congr (fun w => by
   simp only [if_true, gls_none]
   constructor
   ·rintro ⟨u, v, rfl, ⟨rfl, _⟩, h⟩; simpa using h
   ·intro h; exact ⟨[], w, by simp, ⟨rfl, trivial⟩, h⟩)
 ·exact (spF_ok n.kids hk false l.length ⟨false, 0, 0⟩ l (Nat.le_refl _) (insp_none false l)).congr (fun w => by
   simp [gls_none])
end Go.Proofs.YtclogekfdmikpaaDoor

/- Plain mathematics of an expression's spots: which nodes may come behind what was read, and does it fit there; nothing of the program is named here. -/
namespace Go.Proofs.YtclogekfdmikpaaDoor
set_option linter.unusedVariables false
set_option linter.unusedSimpArgs false

/-! How large a plan is, and its classes. -/
theorem spF_len : (f : Fo) → (t : Bool) → (s : Sp) → (l : Pl) → l.length ≤ (spF f t s l).2.length ∧ (spF f t s l).2.length ≤ l.length + cntF f
 | .nil, t, s, l => by simp [spF, cntF]
 | .node _ _ a k r, t, s, l => by
   have h1 := spF_len k true ⟨true, 0, 0⟩ l
   have h2 := spF_len k false ⟨false, 0, 0⟩ l
   simp only [spF, cntF]
   have hq : l.length ≤ (topQ a.1 a.2 (spF k true ⟨true, 0, 0⟩ l) (spF k false ⟨false, 0, 0⟩ l) l).2.length ∧ (topQ a.1 a.2 (spF k true ⟨true, 0, 0⟩ l) (spF k false ⟨false, 0, 0⟩ l) l).2.length ≤ l.length + 1 + cntF k := by
    unfold topQ
    repeat' split
    all_goals (try simp only [leadP_len, List.length_append, List.length_cons, List.length_nil])
    all_goals omega
   revert hq
   generalize topQ a.1 a.2 (spF k true ⟨true, 0, 0⟩ l) (spF k false ⟨false, 0, 0⟩ l) l = q
   intro hq
   have h3 := spF_len r t (stepQ t s q).1 (stepQ t s q).2
   have h4 : (stepQ t s q).2.length = q.2.length := by
    unfold stepQ; split <;> simp [leadP_len]
   omega
theorem span_len (n : Nd) (l : Pl) : l.length ≤ (n.span l).2.length ∧ (n.span l).2.length ≤ l.length + n.cnt := by
 have h1 := spF_len n.kids true ⟨true, 0, 0⟩ l
 have h2 := spF_len n.kids false ⟨false, 0, 0⟩ l
 unfold Nd.span topQ Nd.cnt
 repeat' split
 all_goals (try simp only [leadP_len, List.length_append, List.length_cons, List.length_nil])
 all_goals omega
/-! Sets of nodes. -/
def tkM (c : Int) : Pl → Nat → Nat
 | [], _ => 0
 | e :: r, i => (if c ∈ e.1 then 2 ^ i else 0) ||| tkM c r (i + 1)
theorem tkM_bit (c : Int) : (l : Pl) → (i p : Nat) → ((tkM c l i).testBit p = true ↔ ∃ j e, p = i + j ∧ l[j]? = some e ∧ c ∈ e.1)
 | [], i, p => by simp [tkM]
 | e :: r, i, p => by
   simp only [tkM, Nat.testBit_or, Bool.or_eq_true, tkM_bit c r (i + 1) p]
   constructor
   ·rintro (h | ⟨j, e', h1, h2, h3⟩)
    ·by_cases hc : c ∈ e.1
     ·rw [if_pos hc, Nat.testBit_two_pow] at h
      exact ⟨0, e, by simp at h; omega, rfl, hc⟩
     ·rw [if_neg hc] at h; simp at h
    ·exact ⟨j + 1, e', by omega, by simpa using h2, h3⟩
   ·rintro ⟨j, e', h1, h2, h3⟩
    cases j with
    | zero =>
      left
      simp at h2
      subst h2
      rw [if_pos h3, Nat.testBit_two_pow]
      simp; omega
    | succ j => exact .inr ⟨j, e', by omega, by simpa using h2, h3⟩
theorem tkM_ccP (c : Int) (l : Pl) (p : Nat) : (tkM c l 0).testBit p = true ↔ ccP l p c := by
 rw [tkM_bit]
 constructor
 ·rintro ⟨j, e, rfl, h, hc⟩; exact ⟨e, by simpa using h, hc⟩
 ·rintro ⟨e, h, hc⟩; exact ⟨p, e, by omega, h, hc⟩
def unM (S : Nat) : Pl → Nat → Nat
 | [], _ => 0
 | e :: r, i => (if S.testBit i = true then e.2 else 0) ||| unM S r (i + 1)
theorem unM_bit (S : Nat) : (l : Pl) → (i q : Nat) → ((unM S l i).testBit q = true ↔ ∃ j e, S.testBit (i + j) = true ∧ l[j]? = some e ∧ e.2.testBit q = true)
 | [], i, q => by simp [unM]
 | e :: r, i, q => by
   simp only [unM, Nat.testBit_or, Bool.or_eq_true, unM_bit S r (i + 1) q]
   constructor
   ·rintro (h | ⟨j, e', h1, h2, h3⟩)
    ·by_cases hc : S.testBit i = true
     ·rw [if_pos hc] at h
      exact ⟨0, e, by simpa using hc, rfl, h⟩
     ·rw [if_neg hc] at h; simp at h
    ·exact ⟨j + 1, e', by rw [← h1]; congr 1; omega, by simpa using h2, h3⟩
   ·rintro ⟨j, e', h1, h2, h3⟩
    cases j with
    | zero =>
      left
      simp at h2
      subst h2
      rw [if_pos (by simpa using h1)]
      exact h3
    | succ j => exact .inr ⟨j, e', by rw [← h1]; congr 1; omega, by simpa using h2, h3⟩
theorem unM_bhP (S : Nat) (l : Pl) (q : Nat) : (unM S l 0).testBit q = true ↔ ∃ p, S.testBit p = true ∧ bhP l p q := by
 rw [unM_bit]
 constructor
 ·rintro ⟨j, e, h1, h2, h3⟩; exact ⟨j, by simpa using h1, e, h2, h3⟩
 ·rintro ⟨p, h1, e, h2, h3⟩; exact ⟨p, e, by simpa using h1, h2, h3⟩
/-! Spots. -/
def begS (s : Sp) : Nat × Bool := (s.fi, s.em)
def stepS (wh : Bool) (s : Sp) (l : Pl) (x : Nat × Bool) (c : Int) : Nat × Bool :=
 ((if wh = true then 0 else s.fi) ||| unM (x.1 &&& tkM c l 0) l 0, (!wh && s.em) || decide (x.1 &&& tkM c l 0 &&& s.en ≠ 0))
def Way (l : Pl) : List Int → Nat → Nat → Prop
 | [], p, q => p = q
 | c :: v, p, q => ccP l p c ∧ ∃ r, bhP l p r ∧ Way l v r q
theorem way_snoc (l : Pl) : (v : List Int) → (c : Int) → (p q : Nat) → (Way l (v ++ [c]) p q ↔ ∃ r, Way l v p r ∧ ccP l r c ∧ bhP l r q)
 | [], c, p, q => by
   show (ccP l p c ∧ ∃ r, bhP l p r ∧ r = q) ↔ ∃ r, p = r ∧ ccP l r c ∧ bhP l r q
   constructor
   ·rintro ⟨h, r, h1, rfl⟩; exact ⟨p, rfl, h, h1⟩
   ·rintro ⟨r, rfl, h, h1⟩; exact ⟨h, q, h1, rfl⟩
 | d :: v, c, p, q => by
   show (ccP l p d ∧ ∃ r, bhP l p r ∧ Way l (v ++ [c]) r q) ↔ ∃ r, (ccP l p d ∧ ∃ x, bhP l p x ∧ Way l v x r) ∧ ccP l r c ∧ bhP l r q
   constructor
   ·rintro ⟨h, r, h1, h2⟩
    obtain ⟨x, h3, h4, h5⟩ := (way_snoc l v c r q).1 h2
    exact ⟨x, ⟨h, r, h1, h3⟩, h4, h5⟩
   ·rintro ⟨x, ⟨h, r, h1, h3⟩, h4, h5⟩
    exact ⟨h, r, h1, (way_snoc l v c r q).2 ⟨x, h3, h4, h5⟩⟩
theorem pth_snoc (l : Pl) (E : Nat → Prop) : (v : List Int) → (c : Int) → (p : Nat) → (Pth (bhP l) (ccP l) E (v ++ [c]) p ↔ ∃ r, Way l v p r ∧ ccP l r c ∧ E r)
 | [], c, p => by
   show (ccP l p c ∧ (([] : List Int) = [] ∧ E p ∨ ∃ q, bhP l p q ∧ Pth (bhP l) (ccP l) E [] q)) ↔ ∃ r, p = r ∧ ccP l r c ∧ E r
   constructor
   ·rintro ⟨h, ⟨_, h1⟩ | ⟨q, _, h1⟩⟩
    ·exact ⟨p, rfl, h, h1⟩
    ·exact h1.elim
   ·rintro ⟨r, rfl, h, h1⟩; exact ⟨h, .inl ⟨rfl, h1⟩⟩
 | d :: v, c, p => by
   show (ccP l p d ∧ ((v ++ [c]) = [] ∧ E p ∨ ∃ q, bhP l p q ∧ Pth (bhP l) (ccP l) E (v ++ [c]) q)) ↔ ∃ r, (ccP l p d ∧ ∃ x, bhP l p x ∧ Way l v x r) ∧ ccP l r c ∧ E r
   constructor
   ·rintro ⟨h, ⟨h1, _⟩ | ⟨q, h1, h2⟩⟩
    ·simp at h1
    ·obtain ⟨x, h3, h4, h5⟩ := (pth_snoc l E v c q).1 h2
     exact ⟨x, ⟨h, q, h1, h3⟩, h4, h5⟩
   ·rintro ⟨x, ⟨h, r, h1, h3⟩, h4, h5⟩
    exact ⟨h, .inr ⟨r, h1, (pth_snoc l E v c r).2 ⟨x, h3, h4, h5⟩⟩⟩
def SpotP (wh : Bool) (s : Sp) (l : Pl) (w : List Int) (x : Nat × Bool) : Prop :=
 (∀ q, x.1.testBit q = true ↔ ∃ u v, w = u ++ v ∧ (wh = true → u = []) ∧ ∃ p, s.fi.testBit p = true ∧ Way l v p q) ∧ (x.2 = true ↔ ∃ u v, w = u ++ v ∧ (wh = true → u = []) ∧ gls l s v)
theorem spot_begin (wh : Bool) (s : Sp) (l : Pl) : SpotP wh s l [] (begS s) := by
 refine ⟨fun q => ?_, ?_⟩
 ·constructor
  ·intro h; exact ⟨[], [], rfl, fun _ => rfl, q, h, rfl⟩
  ·rintro ⟨u, v, h, _, p, hp, hw⟩
   obtain ⟨rfl, rfl⟩ := List.append_eq_nil_iff.1 h.symm
   cases hw
   exact hp
 ·constructor
  ·intro h; exact ⟨[], [], rfl, fun _ => rfl, .inl ⟨rfl, h⟩⟩
  ·rintro ⟨u, v, h, _, hg⟩
   obtain ⟨rfl, rfl⟩ := List.append_eq_nil_iff.1 h.symm
   rcases hg with ⟨_, h⟩ | ⟨p, _, h⟩
   ·exact h
   ·exact h.elim
theorem ne_zero_bit (n : Nat) : n ≠ 0 ↔ ∃ p, n.testBit p = true := by
 constructor
 ·intro h
  exact Nat.exists_testBit_of_ne_zero h
 ·rintro ⟨p, hp⟩ rfl; simp at hp
theorem split_snoc {w u v : List Int} {c : Int} (h : w ++ [c] = u ++ v) : (v = [] ∧ u = w ++ [c]) ∨ ∃ v', v = v' ++ [c] ∧ w = u ++ v' := by
 rcases List.eq_nil_or_concat v with rfl | ⟨v', d, rfl⟩
 ·exact .inl ⟨rfl, by simpa using h.symm⟩
 ·right
  rw [List.concat_eq_append, ← List.append_assoc] at h
  have h1 := List.append_inj' h rfl
  have h2 : c = d := by simpa using h1.2
  subst h2
  exact ⟨v', by simp, h1.1⟩
theorem spot_step {wh : Bool} {s : Sp} {l : Pl} {w : List Int} {x : Nat × Bool} (c : Int) (h : SpotP wh s l w x) : SpotP wh s l (w ++ [c]) (stepS wh s l x c) := by
 obtain ⟨h1, h2⟩ := h
 have ht : ∀ p, (x.1 &&& tkM c l 0).testBit p = true ↔ x.1.testBit p = true ∧ ccP l p c := fun p => by
  rw [Nat.testBit_and, Bool.and_eq_true, tkM_ccP]
 refine ⟨fun q => ?_, ?_⟩
 ·show ((if wh = true then 0 else s.fi) ||| unM (x.1 &&& tkM c l 0) l 0).testBit q = true ↔ _
  rw [Nat.testBit_or, Bool.or_eq_true, unM_bhP]
  constructor
  ·rintro (h | ⟨p, hp, hb⟩)
   ·cases wh with
    | true => simp at h
    | false => exact ⟨w ++ [c], [], by simp, by simp, q, by simpa using h, rfl⟩
   ·obtain ⟨hp1, hp2⟩ := (ht p).1 hp
    obtain ⟨u, v, rfl, hu, p0, hp0, hw⟩ := (h1 p).1 hp1
    exact ⟨u, v ++ [c], by simp, hu, p0, hp0, (way_snoc l v c p0 q).2 ⟨p, hw, hp2, hb⟩⟩
  ·rintro ⟨u, v, e, hu, p0, hp0, hw⟩
   rcases split_snoc e with ⟨rfl, rfl⟩ | ⟨v', rfl, rfl⟩
   ·left
    cases wh with
    | true => have := hu rfl; simp at this
    | false => cases hw; simpa using hp0
   ·obtain ⟨p, h3, h4, h5⟩ := (way_snoc l v' c p0 q).1 hw
    exact .inr ⟨p, (ht p).2 ⟨(h1 p).2 ⟨u, v', rfl, hu, p0, hp0, h3⟩, h4⟩, h5⟩
 ·show ((!wh && s.em) || decide (x.1 &&& tkM c l 0 &&& s.en ≠ 0)) = true ↔ _
  rw [Bool.or_eq_true, decide_eq_true_eq, ne_zero_bit]
  constructor
  ·rintro (h | ⟨p, hp⟩)
   ·cases wh with
    | true => simp at h
    | false => exact ⟨w ++ [c], [], by simp, by simp, .inl ⟨rfl, by simpa using h⟩⟩
   ·rw [Nat.testBit_and, Bool.and_eq_true] at hp
    obtain ⟨hp1, hp2⟩ := (ht p).1 hp.1
    obtain ⟨u, v, rfl, hu, p0, hp0, hw⟩ := (h1 p).1 hp1
    exact ⟨u, v ++ [c], by simp, hu, .inr ⟨p0, hp0, (pth_snoc l _ v c p0).2 ⟨p, hw, hp2, hp.2⟩⟩⟩
  ·rintro ⟨u, v, e, hu, hg⟩
   rcases split_snoc e with ⟨rfl, rfl⟩ | ⟨v', rfl, rfl⟩
   ·left
    cases wh with
    | true => have := hu rfl; simp at this
    | false =>
      rcases hg with ⟨_, h⟩ | ⟨p, _, h⟩
      ·simpa using h
      ·exact h.elim
   ·rcases hg with ⟨h, _⟩ | ⟨p0, hp0, h⟩
    ·simp at h
    ·obtain ⟨p, h3, h4, h5⟩ := (pth_snoc l _ v' c p0).1 h
     exact .inr ⟨p, by rw [Nat.testBit_and, Bool.and_eq_true]; exact ⟨(ht p).2 ⟨(h1 p).2 ⟨u, v', rfl, hu, p0, hp0, h3⟩, h4⟩, h5⟩⟩
theorem spot_run {wh : Bool} {s : Sp} {l : Pl} : (r : List Int) → (w : List Int) → (x : Nat × Bool) → SpotP wh s l w x → SpotP wh s l (w ++ r) (r.foldl (stepS wh s l) x)
 | [], w, x, h => by simpa using h
 | c :: r, w, x, h => by
   have := spot_run r (w ++ [c]) _ (spot_step c h)
   simpa using this
def Nd.spot (n : Nd) (wh : Bool) (w : List Int) : Nat × Bool := w.foldl (stepS wh (n.span []).1 (n.span []).2) (begS (n.span []).1)
theorem spot_fits (n : Nd) (h : n.right) (wh : Bool) (w : List Int) : (n.spot wh w).2 = true ↔ ∃ u v, w = u ++ v ∧ (wh = true → u = []) ∧ n.fits v := by
 have h1 := (spot_run (wh := wh) w [] _ (spot_begin wh (n.span []).1 (n.span []).2)).2
 simp only [List.nil_append] at h1
 refine h1.trans ?_
 refine exists_congr fun u => exists_congr fun v => and_congr_right fun _ => and_congr_right fun _ => (span_ok n h []).lang v
end Go.Proofs.YtclogekfdmikpaaDoor

/- Plain mathematics of machines by tables: states numbered as they are met, no two of them alike: there is just one such table; nothing of the program is named here. -/
namespace Go.Proofs.YtclogekfdmikpaaDoor
set_option linter.unusedVariables false
set_option linter.unusedSimpArgs false

def nxt (nx : List (List Nat)) (s c : Nat) : Nat := (nx.getD s []).getD c 0
def runM (nx : List (List Nat)) (s : Nat) (w : List Nat) : Nat := w.foldl (nxt nx) s
theorem runM_nil (nx : List (List Nat)) (s : Nat) : runM nx s [] = s := rfl
theorem runM_cons (nx : List (List Nat)) (s c : Nat) (w : List Nat) : runM nx s (c :: w) = runM nx (nxt nx s c) w := rfl
theorem runM_app (nx : List (List Nat)) (s : Nat) (u v : List Nat) : runM nx s (u ++ v) = runM nx (runM nx s u) v := by simp [runM, List.foldl_append]
def metRow : Nat → List Nat → Option Nat
 | m, [] => some m
 | m, e :: r => if e < m then metRow m r else if e = m then metRow (m + 1) r else none
def metAll : Nat → Nat → List (List Nat) → Option Nat
 | _, m, [] => some m
 | at', m, row :: r => if at' < m then (metRow m row).bind fun m' => metAll (at' + 1) m' r else none
theorem metRow_le : (r : List Nat) → (m m' : Nat) → metRow m r = some m' → m ≤ m' ∧ ∀ e, e ∈ r → e < m'
 | [], m, m', h => by
   simp only [metRow, Option.some.injEq] at h
   exact ⟨by omega, fun e he => by simp at he⟩
 | x :: r, m, m', h => by
   simp only [metRow] at h
   split at h
   ·have := metRow_le r m m' h
    refine ⟨this.1, fun e he => ?_⟩
    rcases List.mem_cons.1 he with rfl | he
    ·omega
    ·exact this.2 e he
   ·split at h
    ·have := metRow_le r (m + 1) m' h
     refine ⟨by omega, fun e he => ?_⟩
     rcases List.mem_cons.1 he with rfl | he
     ·omega
     ·exact this.2 e he
    ·simp at h
def AsMet (nx : List (List Nat)) : Prop := metAll 0 1 nx = some nx.length
def Apart (K : Nat) (nx : List (List Nat)) (ou : List Nat) : Prop :=
 ∀ i j, i < nx.length → j < nx.length → (∀ w : List Nat, (∀ c, c ∈ w → c < K) → ou.getD (runM nx i w) 0 = ou.getD (runM nx j w) 0) → i = j
def Wide (K : Nat) (nx : List (List Nat)) : Prop := ∀ row, row ∈ nx → row.length = K
def MetBy (K : Nat) (a b : List (List Nat)) (m : Nat) : Prop := ∀ i, i < m → ∃ w : List Nat, (∀ c, c ∈ w → c < K) ∧ runM a 0 w = i ∧ runM b 0 w = i
theorem nxt_lt {K : Nat} {nx : List (List Nat)} (hm : AsMet nx) {s c : Nat} (h0 : 0 < nx.length) : nxt nx s c < nx.length := by
 have key : ∀ (rows : List (List Nat)) (at' m N : Nat), metAll at' m rows = some N → m ≤ N ∧ ∀ row, row ∈ rows → ∀ e, e ∈ row → e < N := by
  intro rows
  induction rows with
  | nil => intro at' m N h; simp only [metAll, Option.some.injEq] at h; exact ⟨by omega, fun row hr => by simp at hr⟩
  | cons x r ih =>
    intro at' m N h
    simp only [metAll] at h
    split at h
    ·obtain ⟨m', h1, h2⟩ := Option.bind_eq_some_iff.1 h
     have h3 := metRow_le x m m' h1
     have h4 := ih _ _ _ h2
     refine ⟨by omega, fun row hr e he => ?_⟩
     rcases List.mem_cons.1 hr with rfl | hr
     ·have := h3.2 e he; omega
     ·exact h4.2 row hr e he
    ·simp at h
 have := (key nx 0 1 _ hm).2
 unfold nxt
 rw [List.getD_eq_getElem?_getD, List.getD_eq_getElem?_getD]
 cases h1 : nx[s]? with
 | none => simpa using h0
 | some row =>
   simp only [Option.getD_some]
   cases h2 : row[c]? with
   | none => simpa using h0
   | some e => exact this row (List.mem_of_getElem? h1) e (List.mem_of_getElem? h2)
theorem runM_lt {nx : List (List Nat)} (hm : AsMet nx) (h0 : 0 < nx.length) : (w : List Nat) → (s : Nat) → s < nx.length → runM nx s w < nx.length
 | [], s, hs => hs
 | c :: w, s, hs => runM_lt hm h0 w _ (nxt_lt (K := 0) hm h0)
theorem asMet_pos {nx : List (List Nat)} (hm : AsMet nx) : 0 < nx.length := by
 cases nx with
 | nil => simp [AsMet, metAll] at hm
 | cons x r => simp
theorem met_same {K : Nat} {a b : List (List Nat)} {oa ob : List Nat} (ha : AsMet a) (hb : AsMet b) (pa : Apart K a oa) (pb : Apart K b ob) (hl : ∀ w : List Nat, (∀ c, c ∈ w → c < K) → oa.getD (runM a 0 w) 0 = ob.getD (runM b 0 w) 0)
 {m i c : Nat} (hM : MetBy K a b m) (hma : m ≤ a.length) (hmb : m ≤ b.length) (hi : i < m) (hc : c < K) : (nxt a i c < m → nxt b i c = nxt a i c) ∧ (nxt b i c < m → nxt a i c = nxt b i c) := by
 obtain ⟨w, hw, h1, h2⟩ := hM i hi
 have hwc : ∀ v : List Nat, (∀ c, c ∈ v → c < K) → ∀ d, d ∈ (w ++ [c]) ++ v → d < K := by
  intro v hv d hd
  rcases List.mem_append.1 hd with hd | hd
  ·rcases List.mem_append.1 hd with hd | hd
   ·exact hw d hd
   ·rw [List.mem_singleton.1 hd]; exact hc
  ·exact hv d hd
 have e1 : runM a 0 (w ++ [c]) = nxt a i c := by rw [runM_app, h1]; rfl
 have e2 : runM b 0 (w ++ [c]) = nxt b i c := by rw [runM_app, h2]; rfl
 constructor
 ·intro h
  obtain ⟨x, hx, h3, h4⟩ := hM _ h
  refine pb _ _ (nxt_lt (K := K) hb (asMet_pos hb)) (by omega) fun v hv => ?_
  have e3 := hl ((w ++ [c]) ++ v) (hwc v hv)
  have e4 := hl (x ++ v) (fun d hd => by
   rcases List.mem_append.1 hd with hd | hd
   ·exact hx d hd
   ·exact hv d hd)
  rw [runM_app a 0 (w ++ [c]) v, runM_app b 0 (w ++ [c]) v, e1, e2] at e3
  rw [runM_app a 0 x v, runM_app b 0 x v, h3, h4] at e4
  rw [← e3, ← e4]
 ·intro h
  obtain ⟨x, hx, h3, h4⟩ := hM _ h
  refine pa _ _ (nxt_lt (K := K) ha (asMet_pos ha)) (by omega) fun v hv => ?_
  have e3 := hl ((w ++ [c]) ++ v) (hwc v hv)
  have e4 := hl (x ++ v) (fun d hd => by
   rcases List.mem_append.1 hd with hd | hd
   ·exact hx d hd
   ·exact hv d hd)
  rw [runM_app a 0 (w ++ [c]) v, runM_app b 0 (w ++ [c]) v, e1, e2] at e3
  rw [runM_app a 0 x v, runM_app b 0 x v, h3, h4] at e4
  rw [e3, e4]
theorem row_same {K : Nat} {a b : List (List Nat)} {oa ob : List Nat} (ha : AsMet a) (hb : AsMet b) (pa : Apart K a oa) (pb : Apart K b ob) (hl : ∀ w : List Nat, (∀ c, c ∈ w → c < K) → oa.getD (runM a 0 w) 0 = ob.getD (runM b 0 w) 0)
 {i : Nat} : (r1 r2 : List Nat) → (c m m1 m2 : Nat) → r1.length = r2.length → c + r1.length = K → (∀ j e, r1[j]? = some e → nxt a i (c + j) = e) → (∀ j e, r2[j]? = some e → nxt b i (c + j) = e) → metRow m r1 = some m1 → metRow m r2 = some m2 → m1 ≤ a.length → m2 ≤ b.length → i < m → MetBy K a b m → r1 = r2 ∧ m1 = m2 ∧ MetBy K a b m1
 | [], [], c, m, m1, m2, _, _, _, _, h1, h2, _, _, _, hM => by
   simp only [metRow, Option.some.injEq] at h1 h2
   exact ⟨rfl, by omega, h1 ▸ hM⟩
 | [], _ :: _, _, _, _, _, h, _, _, _, _, _, _, _, _, _ => by simp at h
 | _ :: _, [], _, _, _, _, h, _, _, _, _, _, _, _, _, _ => by simp at h
 | x :: r1, y :: r2, c, m, m1, m2, hlen, hK, h1, h2, hm1, hm2, hl1, hl2, hi, hM => by
   have hx : nxt a i c = x := h1 0 x rfl
   have hy : nxt b i c = y := h2 0 y rfl
   simp only [List.length_cons] at hlen hK
   have hma := metRow_le _ _ _ hm1
   have hmb := metRow_le _ _ _ hm2
   have hs := met_same ha hb pa pb hl hM (by omega) (by omega) hi (c := c) (by omega)
   rw [hx, hy] at hs
   have hxy : x = y := by
    by_cases hxm : x < m
    ·exact (hs.1 hxm).symm
    ·by_cases hym : y < m
     ·exact hs.2 hym
     ·simp only [metRow, if_neg hxm, if_neg hym] at hm1 hm2
      split at hm1
      ·split at hm2
       ·omega
       ·simp at hm2
      ·simp at hm1
   subst hxy
   have n1 : ∀ j e, r1[j]? = some e → nxt a i (c + 1 + j) = e := fun j e h => by have := h1 (j + 1) e (by simpa using h); rw [← this]; congr 1; omega
   have n2 : ∀ j e, r2[j]? = some e → nxt b i (c + 1 + j) = e := fun j e h => by have := h2 (j + 1) e (by simpa using h); rw [← this]; congr 1; omega
   simp only [metRow] at hm1 hm2
   by_cases hxm : x < m
   ·rw [if_pos hxm] at hm1 hm2
    obtain ⟨h3, h4, h5⟩ := row_same ha hb pa pb hl r1 r2 (c + 1) m m1 m2 (by omega) (by omega) n1 n2 hm1 hm2 hl1 hl2 hi hM
    exact ⟨by rw [h3], h4, h5⟩
   ·rw [if_neg hxm] at hm1 hm2
    by_cases hxe : x = m
    ·rw [if_pos hxe] at hm1 hm2
     obtain ⟨h3, h4, h5⟩ := row_same ha hb pa pb hl r1 r2 (c + 1) (m + 1) m1 m2 (by omega) (by omega) n1 n2 hm1 hm2 hl1 hl2 (by omega) (fun k hk => by
      rcases Nat.lt_or_ge k m with h | h
      ·exact hM k h
      ·obtain ⟨w, hw, e1, e2⟩ := hM i hi
       have hkm : k = x := by omega
       refine ⟨w ++ [c], fun d hd => ?_, ?_, ?_⟩
       ·rcases List.mem_append.1 hd with hd | hd
        ·exact hw d hd
        ·rw [List.mem_singleton.1 hd]; omega
       ·rw [runM_app, e1, hkm]; exact hx
       ·rw [runM_app, e2, hkm]; exact hy)
     exact ⟨by rw [h3], h4, h5⟩
    ·rw [if_neg hxe] at hm1; simp at hm1
theorem rows_same {K : Nat} {a b : List (List Nat)} {oa ob : List Nat} (ha : AsMet a) (hb : AsMet b) (wa : Wide K a) (wb : Wide K b) (pa : Apart K a oa) (pb : Apart K b ob) (hl : ∀ w : List Nat, (∀ c, c ∈ w → c < K) → oa.getD (runM a 0 w) 0 = ob.getD (runM b 0 w) 0) :
 (ra rb : List (List Nat)) → (i m : Nat) → a.drop i = ra → b.drop i = rb → i ≤ a.length → i ≤ b.length → metAll i m ra = some a.length → metAll i m rb = some b.length → MetBy K a b m → ra = rb ∧ MetBy K a b a.length
 | [], [], i, m, _, _, _, _, h1, h2, hM => by
   simp only [metAll, Option.some.injEq] at h1
   exact ⟨rfl, h1 ▸ hM⟩
 | [], y :: rb, i, m, e1, e2, l1, l2, h1, h2, hM => by
   simp only [metAll, Option.some.injEq] at h1 h2
   have := List.drop_eq_nil_iff.1 e1
   rw [if_neg (by omega)] at h2
   simp at h2
 | x :: ra, [], i, m, e1, e2, l1, l2, h1, h2, hM => by
   simp only [metAll, Option.some.injEq] at h1 h2
   have := List.drop_eq_nil_iff.1 e2
   rw [if_neg (by omega)] at h1
   simp at h1
 | x :: ra, y :: rb, i, m, e1, e2, l1, l2, h1, h2, hM => by
   have ka : ∀ (rows : List (List Nat)) (i m N : Nat), metAll i m rows = some N → m ≤ N := by
    intro rows
    induction rows with
    | nil => intro i m N h; simp only [metAll, Option.some.injEq] at h; omega
    | cons x r ih =>
      intro i m N h
      simp only [metAll] at h
      split at h
      ·obtain ⟨m', h1, h2⟩ := Option.bind_eq_some_iff.1 h
       have h3 := metRow_le x m m' h1
       have := ih _ _ _ h2
       omega
      ·simp at h
   simp only [metAll] at h1 h2
   by_cases hi : i < m
   ·rw [if_pos hi] at h1 h2
    obtain ⟨m1, f1, g1⟩ := Option.bind_eq_some_iff.1 h1
    obtain ⟨m2, f2, g2⟩ := Option.bind_eq_some_iff.1 h2
    have hxa : a[i]? = some x := by have : (a.drop i)[0]? = some x := by rw [e1]; rfl
                                    simpa using this
    have hyb : b[i]? = some y := by have : (b.drop i)[0]? = some y := by rw [e2]; rfl
                                    simpa using this
    have lx := wa x (List.mem_of_getElem? hxa)
    have ly := wb y (List.mem_of_getElem? hyb)
    obtain ⟨h3, h4, h5⟩ := row_same ha hb pa pb hl (i := i) x y 0 m m1 m2 (by omega) (by omega) (fun j e h => by simp [nxt, List.getD_eq_getElem?_getD, hxa, h]) (fun j e h => by simp [nxt, List.getD_eq_getElem?_getD, hyb, h]) f1 f2 (ka _ _ _ _ g1) (ka _ _ _ _ g2) hi hM
    subst h3 h4
    have da : a.drop (i + 1) = ra := by rw [← List.tail_drop, e1]; rfl
    have db : b.drop (i + 1) = rb := by rw [← List.tail_drop, e2]; rfl
    have la := (List.getElem?_eq_some_iff.1 hxa).1
    have lb := (List.getElem?_eq_some_iff.1 hyb).1
    obtain ⟨h6, h7⟩ := rows_same ha hb wa wb pa pb hl ra rb (i + 1) m1 da db la lb g1 g2 h5
    exact ⟨by rw [h6], h7⟩
   ·rw [if_neg hi] at h1; simp at h1
theorem table_one {K : Nat} {a b : List (List Nat)} {oa ob : List Nat} (ha : AsMet a) (hb : AsMet b) (wa : Wide K a) (wb : Wide K b) (pa : Apart K a oa) (pb : Apart K b ob) (la : oa.length = a.length) (lb : ob.length = b.length) (hl : ∀ w : List Nat, (∀ c, c ∈ w → c < K) → oa.getD (runM a 0 w) 0 = ob.getD (runM b 0 w) 0) : a = b ∧ oa = ob := by
 obtain ⟨h1, h2⟩ := rows_same ha hb wa wb pa pb hl a b 0 1 rfl rfl (by omega) (by omega) ha hb (fun i hi => ⟨[], by simp, by rw [runM_nil]; omega, by rw [runM_nil]; omega⟩)
 refine ⟨h1, ?_⟩
 subst h1
 apply List.ext_getElem (by omega)
 intro i hi hi'
 obtain ⟨w, hw, h3, _⟩ := h2 i (by omega)
 have := hl w hw
 rw [h3, List.getD_eq_getElem?_getD, List.getD_eq_getElem?_getD, List.getElem?_eq_getElem hi, List.getElem?_eq_getElem hi'] at this
 exact this
theorem table_met {K : Nat} {a : List (List Nat)} (ha : AsMet a) (wa : Wide K a) : ∀ i, i < a.length → ∃ w : List Nat, (∀ c, c ∈ w → c < K) ∧ runM a 0 w = i := by
 have hp : Apart K a (List.range a.length) := fun i j hi hj h => by
  have := h [] (by simp)
  rw [runM_nil, runM_nil] at this
  simpa [List.getD_eq_getElem?_getD, hi, hj] using this
 obtain ⟨_, h⟩ := rows_same ha ha wa wa hp hp (fun _ _ => rfl) a a 0 1 rfl rfl (by omega) (by omega) ha ha (fun i hi => ⟨[], by simp, by rw [runM_nil]; omega, by rw [runM_nil]; omega⟩)
 intro i hi
 obtain ⟨w, hw, h1, _⟩ := h i hi
 exact ⟨w, hw, h1⟩
end Go.Proofs.YtclogekfdmikpaaDoor

/- Plain mathematics of a least machine: kinds of states in rounds, numbered as they are met, and the table whose states are the kinds; nothing of the program is named here. -/
namespace Go.Proofs.YtclogekfdmikpaaDoor
set_option linter.unusedVariables false
set_option linter.unusedSimpArgs false

structure NumOf {α : Type} (keys : List α) (l : List Nat) (cnt : Nat) : Prop where
 len : l.length = keys.length
 met : metRow 0 l = some cnt
 same : ∀ i j (hi : i < keys.length) (hj : j < keys.length), l.getD i 0 = l.getD j 0 ↔ keys[i] = keys[j]
theorem metRow_app : (a b : List Nat) → (m : Nat) → metRow m (a ++ b) = (metRow m a).bind fun m' => metRow m' b
 | [], b, m => rfl
 | x :: a, b, m => by
   simp only [List.cons_append, metRow]
   split
   ·exact metRow_app a b m
   ·split
    ·exact metRow_app a b (m + 1)
    ·rfl
theorem metRow_kc : (ks : List Nat) → (q M : Nat) → metRow q ks = some M → ∃ kc : Nat → Nat, kc 0 = q ∧ kc ks.length = M ∧ ∀ i, i < ks.length → (ks.getD i 0 < kc i ∧ kc (i + 1) = kc i) ∨ (ks.getD i 0 = kc i ∧ kc (i + 1) = kc i + 1)
 | [], q, M, h => by
   simp only [metRow, Option.some.injEq] at h
   exact ⟨fun _ => q, rfl, h, fun i hi => by simp at hi⟩
 | x :: ks, q, M, h => by
   simp only [metRow] at h
   by_cases hx : x < q
   ·rw [if_pos hx] at h
    obtain ⟨kc, h0, h1, h2⟩ := metRow_kc ks q M h
    refine ⟨fun i => if i = 0 then q else kc (i - 1), rfl, by simpa using h1, fun i hi => ?_⟩
    cases i with
    | zero => left; simp [hx, h0]
    | succ i =>
      have := h2 i (by simpa using hi)
      simpa using this
   ·rw [if_neg hx] at h
    by_cases he : x = q
    ·rw [if_pos he] at h
     obtain ⟨kc, h0, h1, h2⟩ := metRow_kc ks (q + 1) M h
     refine ⟨fun i => if i = 0 then q else kc (i - 1), rfl, by simpa using h1, fun i hi => ?_⟩
     cases i with
     | zero => right; simp [he, h0]
     | succ i =>
       have := h2 i (by simpa using hi)
       simpa using this
    ·rw [if_neg he] at h; simp at h
structure Kc (kd : List Nat) (M : Nat) (kc : Nat → Nat) : Prop where
 zero : kc 0 = 0
 last : kc kd.length = M
 step : ∀ i, i < kd.length → (kd.getD i 0 < kc i ∧ kc (i + 1) = kc i) ∨ (kd.getD i 0 = kc i ∧ kc (i + 1) = kc i + 1)
theorem kc_of {kd : List Nat} {M : Nat} (h : metRow 0 kd = some M) : ∃ kc, Kc kd M kc := by
 obtain ⟨kc, h0, h1, h2⟩ := metRow_kc kd 0 M h
 exact ⟨kc, h0, h1, h2⟩
theorem Kc.mono {kd : List Nat} {M : Nat} {kc : Nat → Nat} (h : Kc kd M kc) : (b : Nat) → (a : Nat) → a ≤ b → b ≤ kd.length → kc a ≤ kc b
 | 0, a, h1, _ => by have : a = 0 := by omega
                     rw [this]; exact Nat.le_refl _
 | b + 1, a, h1, h2 => by
   rcases Nat.lt_or_ge a (b + 1) with h3 | h3
   ·have := h.mono b a (by omega) (by omega)
    rcases h.step b (by omega) with ⟨_, h4⟩ | ⟨_, h4⟩ <;> omega
   ·have : a = b + 1 := by omega
    rw [this]; exact Nat.le_refl _
theorem Kc.below {kd : List Nat} {M : Nat} {kc : Nat → Nat} (h : Kc kd M kc) {e m : Nat} (he : e < m) (hm : m ≤ kd.length) : kd.getD e 0 < kc m := by
 have := h.mono m (e + 1) he hm
 rcases h.step e (by omega) with ⟨h3, h4⟩ | ⟨h3, h4⟩ <;> omega
theorem Kc.first {kd : List Nat} {M : Nat} {kc : Nat → Nat} (h : Kc kd M kc) : (m : Nat) → m ≤ kd.length → ∀ v, v < kc m → ∃ i, i < m ∧ kd.getD i 0 = v ∧ kc i = v
 | 0, _, v, hv => by rw [h.zero] at hv; omega
 | m + 1, hm, v, hv => by
   rcases h.step m (by omega) with ⟨h3, h4⟩ | ⟨h3, h4⟩
   ·obtain ⟨i, h1, h2⟩ := h.first m (by omega) v (by omega)
    exact ⟨i, by omega, h2⟩
   ·rcases Nat.lt_or_ge v (kc m) with h5 | h5
    ·obtain ⟨i, h1, h2⟩ := h.first m (by omega) v h5
     exact ⟨i, by omega, h2⟩
    ·exact ⟨m, by omega, by omega, by omega⟩
/-! A finer numbering of no more numbers is the same. -/
theorem finer_count {kd fd : List Nat} {M N : Nat} {kc fc : Nat → Nat} (hk : Kc kd M kc) (hf : Kc fd N fc) (hlen : kd.length = fd.length) (href : ∀ i j, i < kd.length → j < kd.length → fd.getD i 0 = fd.getD j 0 → kd.getD i 0 = kd.getD j 0) : (d : Nat) → (m : Nat) → m + d = kd.length → M + fc m ≤ N + kc m
 | 0, m, h => by
   have h1 := hk.last
   have h2 := hf.last
   rw [← hlen] at h2
   have : m = kd.length := by omega
   rw [this, h1, h2]; omega
 | d + 1, m, h => by
   have ih := finer_count hk hf hlen href d (m + 1) (by omega)
   rcases hk.step m (by omega) with ⟨h3, h4⟩ | ⟨h3, h4⟩
   ·rcases hf.step m (by omega) with ⟨h5, h6⟩ | ⟨h5, h6⟩ <;> omega
   ·rcases hf.step m (by omega) with ⟨h5, h6⟩ | ⟨h5, h6⟩
    ·obtain ⟨i, h7, h8, _⟩ := hf.first m (by omega) _ h5
     have h9 := href i m (by omega) (by omega) h8
     have := hk.below h7 (by omega)
     omega
    ·omega
theorem finer_same {kd fd : List Nat} {M : Nat} (hk : metRow 0 kd = some M) (hf : metRow 0 fd = some M) (hlen : kd.length = fd.length) (href : ∀ i j, i < kd.length → j < kd.length → fd.getD i 0 = fd.getD j 0 → kd.getD i 0 = kd.getD j 0) : ∀ i j, i < kd.length → j < kd.length → kd.getD i 0 = kd.getD j 0 → fd.getD i 0 = fd.getD j 0 := by
 obtain ⟨kc, hk⟩ := kc_of hk
 obtain ⟨fc, hf⟩ := kc_of hf
 have key : ∀ m, m ≤ kd.length → kc m = fc m ∧ ∀ i, i < m → fd.getD i 0 = kd.getD i 0 := by
  intro m
  induction m with
  | zero => intro _; exact ⟨by rw [hk.zero, hf.zero], fun i hi => by omega⟩
  | succ m ih =>
    intro hm
    obtain ⟨h1, h2⟩ := ih (by omega)
    have hc := finer_count hk hf hlen href (kd.length - (m + 1)) (m + 1) (by omega)
    rcases hk.step m (by omega) with ⟨h3, h4⟩ | ⟨h3, h4⟩
    ·rcases hf.step m (by omega) with ⟨h5, h6⟩ | ⟨h5, h6⟩
     ·refine ⟨by omega, fun i hi => ?_⟩
      rcases Nat.lt_or_ge i m with h | h
      ·exact h2 i h
      ·have : i = m := by omega
       subst this
       obtain ⟨j, h7, h8, _⟩ := hf.first i (by omega) _ h5
       have h9 := href j i (by omega) (by omega) h8
       rw [← h8, ← h9]
       exact h2 j h7
     ·omega
    ·rcases hf.step m (by omega) with ⟨h5, h6⟩ | ⟨h5, h6⟩
     ·obtain ⟨j, h7, h8, _⟩ := hf.first m (by omega) _ h5
      have h9 := href j m (by omega) (by omega) h8
      have := hk.below h7 (by omega)
      omega
     ·refine ⟨by omega, fun i hi => ?_⟩
      rcases Nat.lt_or_ge i m with h | h
      ·exact h2 i h
      ·have : i = m := by omega
       subst this
       omega
 intro i j hi hj h
 have h1 := (key kd.length (Nat.le_refl _)).2
 rw [h1 i hi, h1 j hj, h]
/-! Kinds. -/
def keyR (nx : List (List Nat)) (kd : List Nat) (i : Nat) : List Nat := kd.getD i 0 :: (nx.getD i []).map (kd.getD · 0)
def ToldBy (K : Nat) (nx : List (List Nat)) (ou : List Nat) (kd : List Nat) : Prop :=
 ∀ i j, i < nx.length → j < nx.length → kd.getD i 0 ≠ kd.getD j 0 → ∃ w : List Nat, (∀ c, c ∈ w → c < K) ∧ ou.getD (runM nx i w) 0 ≠ ou.getD (runM nx j w) 0
theorem told_first {K : Nat} {nx : List (List Nat)} {ou kd : List Nat} {cnt : Nat} (hlen : ou.length = nx.length) (h : NumOf ou kd cnt) : ToldBy K nx ou kd := by
 intro i j hi hj hne
 refine ⟨[], by simp, fun he => hne ?_⟩
 rw [runM_nil, runM_nil, List.getD_eq_getElem?_getD, List.getD_eq_getElem?_getD, List.getElem?_eq_getElem (by omega), List.getElem?_eq_getElem (by omega)] at he
 exact (h.same i j (by omega) (by omega)).2 he
theorem nxt_get {nx : List (List Nat)} {i c : Nat} {row : List Nat} (h : nx[i]? = some row) (hc : c < row.length) : nxt nx i c = row[c] := by
 simp [nxt, List.getD_eq_getElem?_getD, h, hc]
theorem told_round {K : Nat} {nx : List (List Nat)} {ou kd fd : List Nat} {cnt : Nat} (wn : Wide K nx) (hn : ∀ i c, nxt nx i c < nx.length) (h : ToldBy K nx ou kd) (hf : NumOf ((List.range nx.length).map (keyR nx kd)) fd cnt) : ToldBy K nx ou fd := by
 intro i j hi hj hne
 have hk : keyR nx kd i ≠ keyR nx kd j := fun he => hne ((hf.same i j (by simpa using hi) (by simpa using hj)).2 (by simpa using he))
 by_cases h0 : kd.getD i 0 = kd.getD j 0
 ·have h1 : (nx.getD i []).map (kd.getD · 0) ≠ (nx.getD j []).map (kd.getD · 0) := fun he => hk (by unfold keyR; rw [h0, he])
  have gi : nx.getD i [] = nx[i] := by simp [List.getD_eq_getElem?_getD, hi]
  have gj : nx.getD j [] = nx[j] := by simp [List.getD_eq_getElem?_getD, hj]
  have li := wn nx[i] (List.getElem_mem hi)
  have lj := wn nx[j] (List.getElem_mem hj)
  rw [gi, gj] at h1
  obtain ⟨c, hc, hce⟩ : ∃ c, c < K ∧ kd.getD (nxt nx i c) 0 ≠ kd.getD (nxt nx j c) 0 := by
   refine Classical.byContradiction fun hno => h1 ?_
   apply List.ext_getElem (by simp [li, lj])
   intro c hc1 hc2
   refine Classical.byContradiction fun hce => hno ⟨c, by simpa [li] using hc1, ?_⟩
   simp only [List.getElem_map] at hce
   rw [nxt_get (List.getElem?_eq_getElem hi) (by simpa using hc1), nxt_get (List.getElem?_eq_getElem hj) (by simpa using hc2)]
   exact hce
  obtain ⟨w, hw, hwe⟩ := h _ _ (hn i c) (hn j c) hce
  refine ⟨c :: w, fun d hd => ?_, by rw [runM_cons, runM_cons]; exact hwe⟩
  rcases List.mem_cons.1 hd with rfl | hd
  ·exact hc
  ·exact hw d hd
 ·exact h i j hi hj h0
theorem round_finer {nx : List (List Nat)} {kd fd : List Nat} {cnt : Nat} (hf : NumOf ((List.range nx.length).map (keyR nx kd)) fd cnt) {i j : Nat} (hi : i < nx.length) (hj : j < nx.length) (h : fd.getD i 0 = fd.getD j 0) : kd.getD i 0 = kd.getD j 0 ∧ (nx.getD i []).map (kd.getD · 0) = (nx.getD j []).map (kd.getD · 0) := by
 have := (hf.same i j (by simpa using hi) (by simpa using hj)).1 h
 simp [keyR] at this
 exact ⟨by simpa using this.1, by simpa using this.2⟩
theorem round_last {nx : List (List Nat)} {kd fd : List Nat} {cnt : Nat} (hl : kd.length = nx.length) (hk : metRow 0 kd = some cnt) (hf : NumOf ((List.range nx.length).map (keyR nx kd)) fd cnt) {i j : Nat} (hi : i < nx.length) (hj : j < nx.length) (h : kd.getD i 0 = kd.getD j 0) : (nx.getD i []).map (kd.getD · 0) = (nx.getD j []).map (kd.getD · 0) := by
 have hfl : fd.length = nx.length := by have := hf.len; simpa using this
 have := finer_same hk hf.met (by omega) (fun a b ha hb he => (round_finer hf (by omega) (by omega) he).1) i j (by omega) (by omega) h
 exact (round_finer hf hi hj this).2
/-! The table whose states are the kinds. -/
def mrgG {β γ : Type} (g : β → γ) : Nat → List (Nat × β) → List γ
 | _, [] => []
 | q, (k, x) :: r => if k < q then mrgG g q r else g x :: mrgG g (q + 1) r
theorem mrg_len {β γ : Type} (g : β → γ) : (l : List (Nat × β)) → (q M : Nat) → metRow q (l.map (·.1)) = some M → (mrgG g q l).length + q = M
 | [], q, M, h => by simpa [metRow, mrgG] using h
 | (k, x) :: r, q, M, h => by
   simp only [List.map_cons, metRow] at h
   simp only [mrgG]
   by_cases hk : k < q
   ·rw [if_pos hk] at h ⊢
    exact mrg_len g r q M h
   ·rw [if_neg hk] at h ⊢
    by_cases he : k = q
    ·rw [if_pos he] at h
     have := mrg_len g r (q + 1) M h
     simp only [List.length_cons]; omega
    ·rw [if_neg he] at h; simp at h
theorem mrg_at {β γ : Type} (g : β → γ) : (l : List (Nat × β)) → (q M : Nat) → metRow q (l.map (·.1)) = some M → ∀ v, q ≤ v → v < M → ∃ x, (v, x) ∈ l ∧ (mrgG g q l)[v - q]? = some (g x)
 | [], q, M, h, v, h1, h2 => by simp [metRow] at h; omega
 | (k, x) :: r, q, M, h, v, h1, h2 => by
   simp only [List.map_cons, metRow] at h
   simp only [mrgG]
   by_cases hk : k < q
   ·rw [if_pos hk] at h ⊢
    obtain ⟨y, h3, h4⟩ := mrg_at g r q M h v h1 h2
    exact ⟨y, List.mem_cons_of_mem _ h3, h4⟩
   ·rw [if_neg hk] at h ⊢
    by_cases he : k = q
    ·rw [if_pos he] at h
     by_cases hv : v = q
     ·refine ⟨x, by rw [he, hv]; exact List.mem_cons_self, by rw [hv]; simp⟩
     ·obtain ⟨y, h3, h4⟩ := mrg_at g r (q + 1) M h v (by omega) h2
      refine ⟨y, List.mem_cons_of_mem _ h3, ?_⟩
      have : v - q = (v - (q + 1)) + 1 := by omega
      rw [this, List.getElem?_cons_succ]
      exact h4
    ·rw [if_neg he] at h; simp at h
def mrgN (nx : List (List Nat)) (kd : List Nat) : List (List Nat) := mrgG (fun row : List Nat => row.map (kd.getD · 0)) 0 (kd.zip nx)
def mrgO (ou kd : List Nat) : List Nat := mrgG id 0 (kd.zip ou)
theorem zip_fst {α : Type} (kd : List Nat) (l : List α) (h : kd.length = l.length) : (kd.zip l).map (·.1) = kd := by
 rw [List.map_fst_zip (by omega)]
structure Kinds (K : Nat) (nx : List (List Nat)) (ou kd : List Nat) (M : Nat) : Prop where
 wide : Wide K nx
 asMet : AsMet nx
 lou : ou.length = nx.length
 lkd : kd.length = nx.length
 met : metRow 0 kd = some M
 out : ∀ i j, i < nx.length → j < nx.length → kd.getD i 0 = kd.getD j 0 → ou.getD i 0 = ou.getD j 0
 go : ∀ i j, i < nx.length → j < nx.length → kd.getD i 0 = kd.getD j 0 → (nx.getD i []).map (kd.getD · 0) = (nx.getD j []).map (kd.getD · 0)
 told : ToldBy K nx ou kd
theorem Kinds.row {K : Nat} {nx : List (List Nat)} {ou kd : List Nat} {M : Nat} (h : Kinds K nx ou kd M) {i : Nat} (hi : i < nx.length) : (mrgN nx kd)[kd.getD i 0]? = some ((nx.getD i []).map (kd.getD · 0)) := by
 obtain ⟨kc, hkc⟩ := kc_of h.met
 have hlt : kd.getD i 0 < M := by have := hkc.below (e := i) (m := kd.length) (by rw [h.lkd]; exact hi) (Nat.le_refl _); rw [hkc.last] at this; exact this
 obtain ⟨x, h1, h2⟩ := mrg_at (fun row : List Nat => row.map (kd.getD · 0)) (kd.zip nx) 0 M (by rw [zip_fst kd nx h.lkd]; exact h.met) _ (Nat.zero_le _) hlt
 rw [Nat.sub_zero] at h2
 unfold mrgN
 rw [h2]
 obtain ⟨j, hj⟩ := List.mem_iff_getElem?.1 h1
 rw [List.getElem?_zip_eq_some] at hj
 obtain ⟨hj1, hj2⟩ := hj
 have hjn := (List.getElem?_eq_some_iff.1 hj2).1
 have := h.go i j hi hjn (by rw [List.getD_eq_getElem?_getD (i := j), hj1]; rfl)
 rw [this, List.getD_eq_getElem?_getD (i := j) (l := nx), hj2]
 rfl
theorem Kinds.outAt {K : Nat} {nx : List (List Nat)} {ou kd : List Nat} {M : Nat} (h : Kinds K nx ou kd M) {i : Nat} (hi : i < nx.length) : (mrgO ou kd).getD (kd.getD i 0) 0 = ou.getD i 0 := by
 obtain ⟨kc, hkc⟩ := kc_of h.met
 have hlt : kd.getD i 0 < M := by have := hkc.below (e := i) (m := kd.length) (by rw [h.lkd]; exact hi) (Nat.le_refl _); rw [hkc.last] at this; exact this
 obtain ⟨x, h1, h2⟩ := mrg_at (id : Nat → Nat) (kd.zip ou) 0 M (by rw [zip_fst kd ou (by rw [h.lkd, h.lou])]; exact h.met) _ (Nat.zero_le _) hlt
 rw [Nat.sub_zero] at h2
 unfold mrgO
 rw [List.getD_eq_getElem?_getD, h2]
 obtain ⟨j, hj⟩ := List.mem_iff_getElem?.1 h1
 rw [List.getElem?_zip_eq_some] at hj
 obtain ⟨hj1, hj2⟩ := hj
 have hjn := (List.getElem?_eq_some_iff.1 hj2).1
 have := h.out i j hi (by have := h.lou; omega) (by rw [List.getD_eq_getElem?_getD (i := j), hj1]; rfl)
 rw [this, List.getD_eq_getElem?_getD, hj2]
 rfl
theorem Kinds.nxtN {K : Nat} {nx : List (List Nat)} {ou kd : List Nat} {M : Nat} (h : Kinds K nx ou kd M) {i c : Nat} (hi : i < nx.length) (hc : c < K) : nxt (mrgN nx kd) (kd.getD i 0) c = kd.getD (nxt nx i c) 0 := by
 have hw := h.wide nx[i] (List.getElem_mem hi)
 rw [nxt_get (h.row hi) (by simp [List.getD_eq_getElem?_getD, hi, hw, hc]), nxt_get (List.getElem?_eq_getElem hi) (by omega)]
 simp [List.getD_eq_getElem?_getD, hi]
theorem Kinds.run {K : Nat} {nx : List (List Nat)} {ou kd : List Nat} {M : Nat} (h : Kinds K nx ou kd M) : (w : List Nat) → (∀ c, c ∈ w → c < K) → (i : Nat) → i < nx.length → runM (mrgN nx kd) (kd.getD i 0) w = kd.getD (runM nx i w) 0
 | [], _, i, hi => rfl
 | c :: w, hw, i, hi => by
   rw [runM_cons, runM_cons, h.nxtN hi (hw c List.mem_cons_self)]
   exact h.run w (fun d hd => hw d (List.mem_cons_of_mem _ hd)) _ (nxt_lt (K := K) h.asMet (asMet_pos h.asMet))
theorem Kinds.zero {K : Nat} {nx : List (List Nat)} {ou kd : List Nat} {M : Nat} (h : Kinds K nx ou kd M) : kd.getD 0 0 = 0 := by
 obtain ⟨kc, hkc⟩ := kc_of h.met
 have := hkc.zero
 rcases hkc.step 0 (by rw [h.lkd]; exact asMet_pos h.asMet) with ⟨h1, _⟩ | ⟨h1, _⟩ <;> omega
theorem Kinds.tells {K : Nat} {nx : List (List Nat)} {ou kd : List Nat} {M : Nat} (h : Kinds K nx ou kd M) (w : List Nat) (hw : ∀ c, c ∈ w → c < K) : (mrgO ou kd).getD (runM (mrgN nx kd) 0 w) 0 = ou.getD (runM nx 0 w) 0 := by
 have h0 := asMet_pos h.asMet
 have h1 := h.run w hw 0 h0
 rw [h.zero] at h1
 rw [h1]
 exact h.outAt (runM_lt h.asMet h0 w 0 h0)
theorem Kinds.lenN {K : Nat} {nx : List (List Nat)} {ou kd : List Nat} {M : Nat} (h : Kinds K nx ou kd M) : (mrgN nx kd).length = M := by
 have := mrg_len (fun row : List Nat => row.map (kd.getD · 0)) (kd.zip nx) 0 M (by rw [zip_fst kd nx h.lkd]; exact h.met)
 simpa [mrgN] using this
theorem Kinds.lenO {K : Nat} {nx : List (List Nat)} {ou kd : List Nat} {M : Nat} (h : Kinds K nx ou kd M) : (mrgO ou kd).length = M := by
 have := mrg_len (id : Nat → Nat) (kd.zip ou) 0 M (by rw [zip_fst kd ou (by rw [h.lkd, h.lou])]; exact h.met)
 simpa [mrgO] using this
theorem Kinds.isOf {K : Nat} {nx : List (List Nat)} {ou kd : List Nat} {M : Nat} (h : Kinds K nx ou kd M) {p : Nat} (hp : p < M) : ∃ i, i < nx.length ∧ kd.getD i 0 = p := by
 obtain ⟨kc, hkc⟩ := kc_of h.met
 obtain ⟨i, h1, h2, _⟩ := hkc.first kd.length (Nat.le_refl _) p (by rw [hkc.last]; exact hp)
 exact ⟨i, by rw [← h.lkd]; exact h1, h2⟩
theorem Kinds.wideN {K : Nat} {nx : List (List Nat)} {ou kd : List Nat} {M : Nat} (h : Kinds K nx ou kd M) : Wide K (mrgN nx kd) := by
 intro row hr
 obtain ⟨p, hp⟩ := List.mem_iff_getElem?.1 hr
 have hpl := (List.getElem?_eq_some_iff.1 hp).1
 rw [h.lenN] at hpl
 obtain ⟨i, hi, rfl⟩ := h.isOf hpl
 rw [h.row hi] at hp
 have hw := h.wide nx[i] (List.getElem_mem hi)
 have : row = (nx.getD i []).map (kd.getD · 0) := by injection hp with hp; exact hp.symm
 rw [this]
 simp [List.getD_eq_getElem?_getD, hi, hw]
theorem Kinds.apart {K : Nat} {nx : List (List Nat)} {ou kd : List Nat} {M : Nat} (h : Kinds K nx ou kd M) : Apart K (mrgN nx kd) (mrgO ou kd) := by
 intro p q hp hq hs
 rw [h.lenN] at hp hq
 obtain ⟨i, hi, rfl⟩ := h.isOf hp
 obtain ⟨j, hj, rfl⟩ := h.isOf hq
 refine Classical.byContradiction fun hne => ?_
 obtain ⟨w, hw, hwe⟩ := h.told i j hi hj hne
 have h0 := asMet_pos h.asMet
 have := hs w hw
 rw [h.run w hw i hi, h.run w hw j hj, h.outAt (runM_lt h.asMet h0 w i hi), h.outAt (runM_lt h.asMet h0 w j hj)] at this
 exact hwe this
/-! Kinds are numbered as they are met. -/
theorem metRow_map {kd : List Nat} {M : Nat} {kc : Nat → Nat} (h : Kc kd M kc) : (row : List Nat) → (m m' : Nat) → metRow m row = some m' → m' ≤ kd.length → metRow (kc m) (row.map (kd.getD · 0)) = some (kc m')
 | [], m, m', h1, h2 => by
   simp only [metRow, Option.some.injEq] at h1
   simp [metRow, h1]
 | e :: r, m, m', h1, h2 => by
   have hle := metRow_le _ _ _ h1
   simp only [metRow] at h1
   simp only [List.map_cons, metRow]
   by_cases he : e < m
   ·rw [if_pos he] at h1
    rw [if_pos (h.below he (by omega))]
    exact metRow_map h r m m' h1 h2
   ·rw [if_neg he] at h1
    by_cases hm : e = m
    ·rw [if_pos hm] at h1
     have ih := metRow_map h r (m + 1) m' h1 h2
     have hle' := metRow_le _ _ _ h1
     subst hm
     rcases h.step e (by omega) with ⟨h3, h4⟩ | ⟨h3, h4⟩
     ·rw [if_pos h3, ← h4]; exact ih
     ·rw [if_neg (by omega), if_pos h3, ← h4]; exact ih
    ·rw [if_neg hm] at h1; simp at h1
theorem metRow_old : (row : List Nat) → (m : Nat) → (∀ e, e ∈ row → e < m) → metRow m row = some m
 | [], m, _ => rfl
 | e :: r, m, h => by
   simp only [metRow]
   rw [if_pos (h e List.mem_cons_self)]
   exact metRow_old r m fun d hd => h d (List.mem_cons_of_mem _ hd)
theorem metAll_le : (rows : List (List Nat)) → (i m N : Nat) → metAll i m rows = some N → m ≤ N
 | [], i, m, N, h => by simp only [metAll, Option.some.injEq] at h; omega
 | x :: r, i, m, N, h => by
   simp only [metAll] at h
   split at h
   ·obtain ⟨m', h1, h2⟩ := Option.bind_eq_some_iff.1 h
    have h3 := metRow_le x m m' h1
    have := metAll_le r _ _ _ h2
    omega
   ·simp at h
theorem Kinds.merge {K : Nat} {nx : List (List Nat)} {ou kd : List Nat} {M : Nat} (h : Kinds K nx ou kd M) {kc : Nat → Nat} (hkc : Kc kd M kc) : (rows : List (List Nat)) → (i m : Nat) → nx.drop i = rows → i + rows.length = nx.length → metAll i m rows = some nx.length → (∀ j, j < i → ∀ e, e ∈ nx.getD j [] → e < m) → metAll (kc i) (kc m) (mrgG (fun row : List Nat => row.map (kd.getD · 0)) (kc i) ((kd.drop i).zip rows)) = some M
 | [], i, m, h1, h2, h3, h4 => by
   simp only [metAll, Option.some.injEq] at h3
   have : m = kd.length := by rw [h.lkd]; exact h3
   simp [mrgG, metAll, this, hkc.last]
 | x :: rows, i, m, h1, h2, h3, h4 => by
   simp only [List.length_cons] at h2
   have hi : i < nx.length := by omega
   have hxa : nx[i]? = some x := by
    have : (nx.drop i)[0]? = some x := by rw [h1]; rfl
    simpa using this
   have da : nx.drop (i + 1) = rows := by rw [← List.tail_drop, h1]; rfl
   have gx : nx.getD i [] = x := by rw [List.getD_eq_getElem?_getD, hxa]; rfl
   have hk : kd.drop i = kd.getD i 0 :: kd.drop (i + 1) := by
    rw [List.drop_eq_getElem_cons (by rw [h.lkd]; exact hi)]
    congr 1
    simp [List.getD_eq_getElem?_getD, h.lkd, hi]
   simp only [metAll] at h3
   by_cases him : i < m
   ·rw [if_pos him] at h3
    obtain ⟨m', h5, h6⟩ := Option.bind_eq_some_iff.1 h3
    have h7 := metRow_le x m m' h5
    have h8 := metAll_le _ _ _ _ h6
    have h9 : ∀ j, j < i + 1 → ∀ e, e ∈ nx.getD j [] → e < m' := fun j hj e he => by
     rcases Nat.lt_or_ge j i with hji | hji
     ·have := h4 j hji e he; omega
     ·have : j = i := by omega
      subst this
      rw [gx] at he
      exact h7.2 e he
    have ih := h.merge hkc rows (i + 1) m' da (by omega) h6 h9
    have hmap := metRow_map hkc x m m' h5 (by rw [h.lkd]; exact h8)
    rw [hk]
    simp only [List.zip_cons_cons, mrgG]
    rcases hkc.step i (by rw [h.lkd]; exact hi) with ⟨g1, g2⟩ | ⟨g1, g2⟩
    ·rw [if_pos g1]
     obtain ⟨j, k1, k2, _⟩ := hkc.first i (by rw [h.lkd]; omega) _ g1
     have hgo := h.go j i (by omega) hi k2
     rw [gx] at hgo
     have hold := metRow_old (x.map (kd.getD · 0)) (kc m) (fun e he => by
      rw [← hgo] at he
      obtain ⟨y, hy, rfl⟩ := List.mem_map.1 he
      exact hkc.below (h4 j k1 y hy) (by rw [h.lkd]; omega))
     rw [hold] at hmap
     have : kc m' = kc m := by injection hmap with hmap; exact hmap.symm
     rw [g2, this] at ih
     exact ih
    ·rw [if_neg (by omega)]
     simp only [metAll]
     rw [if_pos (by have := hkc.below (e := i) (m := m) him (by rw [h.lkd]; omega); omega), hmap]
     simp only [Option.bind_some]
     rw [g2] at ih
     exact ih
   ·rw [if_neg him] at h3; simp at h3
theorem Kinds.asMetN {K : Nat} {nx : List (List Nat)} {ou kd : List Nat} {M : Nat} (h : Kinds K nx ou kd M) : AsMet (mrgN nx kd) := by
 obtain ⟨kc, hkc⟩ := kc_of h.met
 have := h.merge hkc nx 0 1 rfl (by omega) h.asMet (fun j hj => by omega)
 have h1 : kc 1 = 1 := by
  have := hkc.zero
  rcases hkc.step 0 (by rw [h.lkd]; exact asMet_pos h.asMet) with ⟨h1, h2⟩ | ⟨h1, h2⟩ <;> simp at h2 <;> omega
 rw [hkc.zero, h1, List.drop_zero] at this
 unfold AsMet
 rw [h.lenN]
 exact this
end Go.Proofs.YtclogekfdmikpaaDoor
