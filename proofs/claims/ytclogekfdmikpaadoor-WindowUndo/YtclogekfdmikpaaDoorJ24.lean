/- In one text: DfaRa, DfaRb, DfaRc, DfaRd, DfaRe, DfaRf, DfaRh, DfaRi, DfaLa, DfaLb, DfaLc, WinM, WinI. -/
import Derived.Test.YtclogekfdmikpaaDoorJ23
import Derived.Test.YtclogekfdmikpaaDoorJ01
import Derived.Test.YtclogekfdmikpaaDoorJ04
/- The walk of Run. -/
namespace Go.Proofs.YtclogekfdmikpaaDoor
open Go.RowKit Go.Shelf Go.Maps
set_option linter.unusedVariables false
set_option linter.unusedSimpArgs false

theorem MchAt.later {w w' : World} {bm K : Nat} {nx : List (List Nat)} {ou : List Nat} (h : MchAt w bm K nx ou) (hb : Below w.heap.size w w') : MchAt w' bm K nx ou := by
 obtain ⟨na, nc, oa, oc, h1, h2, h3, h4⟩ := h
 refine ⟨na, nc, oa, oc, (hb.block bm (Array.getElem?_eq_some_iff.1 h1).1).trans h1, fun hp => ?_, h3.later hb, h4⟩
 obtain ⟨b, off, e, hk⟩ := h2 hp
 refine ⟨b, off, e, fun i hi => ?_⟩
 obtain ⟨ra, rc, k1, k2⟩ := hk i hi
 exact ⟨ra, rc, upC hb k1, k2.later hb⟩
def Cls (K : Nat) (row : List Int) : Prop := ∀ c, c ∈ row → 0 ≤ c ∧ c < (K : Int)
end Go.Proofs.YtclogekfdmikpaaDoor

/- The walks of slices.Equal. -/
namespace Go.Proofs.YtclogekfdmikpaaDoor
open Go.RowKit Go.Shelf Go.Maps
set_option linter.unusedVariables false
set_option linter.unusedSimpArgs false

end Go.Proofs.YtclogekfdmikpaaDoor

/- The walks of slices.EqualFunc and of Equal. -/
namespace Go.Proofs.YtclogekfdmikpaaDoor
open Go.RowKit Go.Shelf Go.Maps
set_option linter.unusedVariables false
set_option linter.unusedSimpArgs false

theorem NRows.later {w w' : World} {a : Option Addr} {nx : List (List Nat)} (h : NRows w a nx) (hb : Below w.heap.size w w') : NRows w' a nx := fun hp => by
 obtain ⟨b, off, e, hk⟩ := h hp
 refine ⟨b, off, e, fun i hi => ?_⟩
 obtain ⟨ra, rc, k1, k2⟩ := hk i hi
 exact ⟨ra, rc, upC hb k1, k2.later hb⟩
end Go.Proofs.YtclogekfdmikpaaDoor

/- The walk of Equal. -/
namespace Go.Proofs.YtclogekfdmikpaaDoor
open Go.RowKit Go.Shelf Go.Maps
set_option linter.unusedVariables false
set_option linter.unusedSimpArgs false

end Go.Proofs.YtclogekfdmikpaaDoor

/- A small expression has a small machine; the machine of one character. -/
namespace Go.Proofs.YtclogekfdmikpaaDoor
open Go.RowKit Go.Shelf Go.Maps
set_option linter.unusedVariables false
set_option linter.unusedSimpArgs false

def oneX : Nd × Bool := (⟨1, [0], .nil⟩, false)
def oneA : Nat × Bool := fiO oneX
def oneB : Nat × Bool := stO oneX oneA 0
theorem one_steps : oneA ≠ oneB ∧ stO oneX oneA 0 = oneB ∧ stO oneX oneA 1 = oneA ∧ stO oneX oneB 0 = oneB ∧ stO oneX oneB 1 = oneA ∧ oneA.2 = false ∧ oneB.2 = true := by decide
end Go.Proofs.YtclogekfdmikpaaDoor

/- Step where there is no way; the walk of shown. -/
namespace Go.Proofs.YtclogekfdmikpaaDoor
open Go.RowKit Go.Shelf Go.Maps
set_option linter.unusedVariables false
set_option linter.unusedSimpArgs false

end Go.Proofs.YtclogekfdmikpaaDoor

/- The walks of Count and Stars of whatever comes in. -/
namespace Go.Proofs.YtclogekfdmikpaaDoor
open Go.RowKit Go.Shelf Go.Maps
set_option linter.unusedVariables false
set_option linter.unusedSimpArgs false

theorem cntL_le (kl : List Nd) (k : Nat) : cntL (kl.take k) ≤ cntL kl := by
 have : ∀ a b : List Nd, cntL (a ++ b) = cntL a + cntL b := fun a b => by simp [cntL, List.map_append, List.sum_append]
 have h := this (kl.take k) (kl.drop k)
 rw [List.take_append_drop] at h
 omega
def CoX (D : Nat) : Prop := ∀ (n : Nd) (ca pa : Option Addr) (cc pc : Nat) (B : Nat) (w : World), InV B w D n [.int .i64 n.op, .slice ca n.cl.length cc, .slice pa (toL n.kids).length pc] →
 Calls Tryd.prog 37 #[.agg #[.int .i64 n.op, .slice ca n.cl.length cc, .slice pa (toL n.kids).length pc]] w fun e w' => ∃ v : Int, e = .returned (.int .i64 v) ∧ (n.cnt ≤ 400 → v = (n.cnt : Int)) ∧ Below w.heap.size w w'
set_option maxHeartbeats 8000000 in
theorem countX_up (d : Nat) (HP : CoX d) : CoX (d + 1) := by
 intro n ca pa cc pc B w hin
 have HPC : Hid (CoX d) := HP
 have HIN : Hid (InV B w (d + 1) n [.int .i64 n.op, .slice ca n.cl.length cc, .slice pa (toL n.kids).length pc]) := hin
 have hb := hin.bounds
 obtain ⟨op, hop⟩ : ∃ op, op = n.op := ⟨_, rfl⟩
 obtain ⟨cn, hcn⟩ : ∃ cn, cn = n.cl.length := ⟨_, rfl⟩
 obtain ⟨kl, hkl⟩ : ∃ kl, kl = toL n.kids := ⟨_, rfl⟩
 obtain ⟨K, hK⟩ : ∃ K, K = kl.length := ⟨_, rfl⟩
 have hce := cnt_eq n
 rw [← hkl] at hce
 have HC : Hid (n.cnt = 1 + cntL kl ∧ True ∧ kl = toL n.kids ∧ K = kl.length) := ⟨hce, trivial, hkl, hK⟩
 have hKi : (K : Int) ≤ 2600000000000 := by rw [hkl] at hK; omega
 obtain ⟨wA, hwA⟩ : ∃ wA, wA = w.alloc (.cells #[.int .i64 op, .slice ca cn cc, .slice pa K pc] 56) := ⟨_, rfl⟩
 obtain ⟨H, hH⟩ : ∃ H, H = w.heap.size := ⟨_, rfl⟩
 have HB : Hid (Below w.heap.size w wA) := by rw [hwA]; exact (Below.refl _ w).alloc (Nat.le_refl _) _
 have HBX : Hid (wA.heap[H]? = some (.cells #[.int .i64 op, .slice ca cn cc, .slice pa K pc] 56)) := by rw [hwA, hH]; exact heap_alloc_new w _
 rw [← hop, ← hcn, ← hkl, ← hK]
 clear HP hin hb hop hcn hK hkl hce
 go_enter Tryd.func37, Tryd.ntmps37
 go_upto_region 1 with fail
 rw [← hH, ← hwA]
 clear hH hwA
 go_wp2
 go_loopw [3, 4] (fun x3 x4 wr => ∃ (k : Nat) (m : Int), k ≤ K ∧ x4 = .int .i64 k ∧ x3 = .int .i64 m ∧ (1 + cntL (kl.take k) ≤ 400 → m = ((1 + cntL (kl.take k) : Nat) : Int)) ∧ Below wA.heap.size wA wr) (fun _ x4 _ => K - (intOf x4).toNat)
 case atStart => exact ⟨0, 1, by omega, rfl, rfl, fun _ => by simp [cntL], Below.refl _ _⟩
 case round =>
  obtain ⟨k, m, hk, hx4, hx3, hm, hbl⟩ := hrel
  have HMC : Hid (1 + cntL (kl.take k) ≤ 400 → m = ((1 + cntL (kl.take k) : Nat) : Int)) := hm
  subst hx4
  subst hx3
  have HBL : Hid (Below wA.heap.size wA wr) := hbl
  have d2 : wr.cell? ⟨H, 2, none⟩ = some (.slice pa K pc) := cell_of_row wr H 2 _ _ _ ((hbl.block H (Array.getElem?_eq_some_iff.1 HBX.out).1).trans HBX.out)
  have HBW : Hid (Below w.heap.size w wr) := HB.out.trans (hbl.mono HB.out.size)
  clear hbl
  clear hm
  by_cases hlt : k < K
  ·by_cases hm4' : ¬ m ≤ 400
   ·have HR : Hid (n.cnt ≤ 400 → m = (n.cnt : Int)) := fun hc => by
     have h1 := HC.out.1; have h2 := cntL_le kl k; have h3 := HMC.out (by omega); omega
    go_wp2
    go_ret
    exact ⟨m, rfl, HR.out, HBW.out⟩
   have hm4 : m ≤ 400 := by omega
   clear hm4'
   have hkn : k < kl.length := by rw [← HC.out.2.2.2]; exact hlt
   have hkn' : k < (toL n.kids).length := by rw [← HC.out.2.2.1]; exact hkn
   obtain ⟨b, off, xa, xc, ya, yc, d', hpa, hkid, hd', c0, c1, c2⟩ := (HIN.out.later HBW.out (d + 1)).kid k hkn'
   obtain rfl : d = d' := by omega
   subst hpa
   obtain ⟨x, hx⟩ : ∃ x, x = (toL n.kids)[k] := ⟨_, rfl⟩
   have hxk : x = kl[k] := by rw [hx]; simp only [HC.out.2.2.1]
   rw [← hx] at hkid c0 c1 c2
   have htk := cntL_take kl k hkn
   rw [← hxk] at htk
   obtain ⟨xc', hxc'⟩ : ∃ xc', xc' = x.cnt := ⟨_, rfl⟩
   have HCC : Hid (Calls Tryd.prog 37 #[.agg #[.int .i64 x.op, .slice xa x.cl.length xc, .slice ya (toL x.kids).length yc]] wr fun e w' => ∃ v : Int, e = .returned (.int .i64 v) ∧ (x.cnt ≤ 400 → v = (x.cnt : Int)) ∧ Below wr.heap.size wr w') := by
    exact HPC.out x xa ya xc yc B wr hkid
   have HNX : Hid (1 + cntL (kl.take (k + 1)) = (1 + cntL (kl.take k)) + xc') := by
    show _ = _
    rw [take_snoc kl k hkn, cntL_snoc, ← hxk, hxc']
    omega
   rw [← hxc'] at HCC
   obtain ⟨xo, hxo⟩ : ∃ xo, xo = x.op := ⟨_, rfl⟩
   obtain ⟨xn, hxn⟩ : ∃ xn, xn = x.cl.length := ⟨_, rfl⟩
   obtain ⟨xk, hxk2⟩ : ∃ xk, xk = (toL x.kids).length := ⟨_, rfl⟩
   rw [← hxo] at c0 HCC
   rw [← hxn] at c1 HCC
   rw [← hxk2] at c2 HCC
   have hki : (k : Int) < (K : Int) := by omega
   clear hkid hxo hxn hxk2 hx hxk htk hxc'
   go_wp2_with fail
   refine HCC.out.mono ?_
   rintro e w2 ⟨v, rfl, hv, hb2⟩
   have HV : Hid (xc' ≤ 400 → v = (xc' : Int)) := hv
   clear hv
   have HB2 : Hid (Below wA.heap.size wA w2) := HBL.out.trans (hb2.mono HBL.out.size)
   clear hb2 c0 c1 c2 d2 HCC
   go_wp2
   go_roundw
   case rel =>
    refine ⟨k + 1, _, by omega, by go_num, rfl, fun hc => ?_, HB2.out⟩
    rw [HNX.out] at hc ⊢
    have h1 := HMC.out (by omega)
    have h2 := HV.out (by omega)
    rw [h1, h2]
    unfold wrap64
    omega
   case measure => simp [intOf]; omega
  ·obtain rfl : k = K := by omega
   have HR : Hid (n.cnt ≤ 400 → m = (n.cnt : Int)) := by
    have h1 := HMC.out
    rw [List.take_of_length_le (by rw [← HC.out.2.2.2]; exact Nat.le_refl _), ← HC.out.1] at h1
    exact h1
   go_wp2
   go_ret
   exact ⟨m, rfl, HR.out, HBW.out⟩
theorem countX_any : (d : Nat) → CoX d
 | 0 => fun _ _ _ _ _ _ _ h => h.elim
 | d + 1 => countX_up d (countX_any d)
end Go.Proofs.YtclogekfdmikpaaDoor

/- The walk of Stars of whatever comes in: it answers some number. -/
namespace Go.Proofs.YtclogekfdmikpaaDoor
open Go.RowKit Go.Shelf Go.Maps
set_option linter.unusedVariables false
set_option linter.unusedSimpArgs false

def StX (D : Nat) : Prop := ∀ (n : Nd) (ca pa : Option Addr) (cc pc : Nat) (B : Nat) (w : World), InV B w D n [.int .i64 n.op, .slice ca n.cl.length cc, .slice pa (toL n.kids).length pc] →
 Calls Tryd.prog 38 #[.agg #[.int .i64 n.op, .slice ca n.cl.length cc, .slice pa (toL n.kids).length pc]] w fun e w' => ∃ t : Int, e = .returned (.int .i64 t) ∧ Below w.heap.size w w'
set_option maxHeartbeats 8000000 in
theorem starsX_up (D : Nat) (HP : StX D) : StX (D + 1) := by
 intro n ca pa cc pc B w hin
 have HPC : Hid (StX D) := HP
 have HIN : Hid (InV B w (D + 1) n [.int .i64 n.op, .slice ca n.cl.length cc, .slice pa (toL n.kids).length pc]) := hin
 have hb := hin.bounds
 obtain ⟨op, hop⟩ : ∃ op, op = n.op := ⟨_, rfl⟩
 obtain ⟨cn, hcn⟩ : ∃ cn, cn = n.cl.length := ⟨_, rfl⟩
 obtain ⟨kl, hkl⟩ : ∃ kl, kl = toL n.kids := ⟨_, rfl⟩
 obtain ⟨K, hK⟩ : ∃ K, K = kl.length := ⟨_, rfl⟩
 have HC : Hid (kl = toL n.kids ∧ K = kl.length) := ⟨hkl, hK⟩
 have hKi : (K : Int) ≤ 2600000000000 := by rw [hkl] at hK; omega
 obtain ⟨wA, hwA⟩ : ∃ wA, wA = w.alloc (.cells #[.int .i64 op, .slice ca cn cc, .slice pa K pc] 56) := ⟨_, rfl⟩
 obtain ⟨H, hH⟩ : ∃ H, H = w.heap.size := ⟨_, rfl⟩
 have HB : Hid (Below w.heap.size w wA) := by rw [hwA]; exact (Below.refl _ w).alloc (Nat.le_refl _) _
 have HBX : Hid (wA.heap[H]? = some (.cells #[.int .i64 op, .slice ca cn cc, .slice pa K pc] 56)) := by rw [hwA, hH]; exact heap_alloc_new w _
 rw [← hop, ← hcn, ← hkl, ← hK]
 clear HP hin hb hop hcn hK hkl
 go_enter Tryd.func38, Tryd.ntmps38
 go_upto_region 1 with fail
 rw [← hH, ← hwA]
 clear hH hwA
 go_wp2
 go_loopw [3, 4] (fun x3 x4 wr => ∃ k : Nat, k ≤ K ∧ x4 = .int .i64 k ∧ (∃ t : Int, x3 = .int .i64 t) ∧ Below wA.heap.size wA wr) (fun _ x4 _ => K - (intOf x4).toNat)
 case atStart => exact ⟨0, by omega, rfl, ⟨0, rfl⟩, Below.refl _ _⟩
 case round =>
  obtain ⟨k, hk, hx4, ⟨m, hx3⟩, hbl⟩ := hrel
  subst hx4
  subst hx3
  have HBL : Hid (Below wA.heap.size wA wr) := hbl
  have hblk := (hbl.block H (Array.getElem?_eq_some_iff.1 HBX.out).1).trans HBX.out
  have d2 : wr.cell? ⟨H, 2, none⟩ = some (.slice pa K pc) := cell_of_row wr H 2 _ _ _ hblk
  have d0 : wr.cell? ⟨H, 0, none⟩ = some (.int .i64 op) := cell_of_row wr H 0 _ _ _ hblk
  have HBW : Hid (Below w.heap.size w wr) := HB.out.trans (hbl.mono HB.out.size)
  clear hbl hblk
  by_cases hlt : k < K
  ·have hkn : k < kl.length := by rw [← HC.out.2]; exact hlt
   have hkn' : k < (toL n.kids).length := by rw [← HC.out.1]; exact hkn
   obtain ⟨b, off, xa, xc, ya, yc, D', hpa, hkid, hD', c0, c1, c2⟩ := (HIN.out.later HBW.out (D + 1)).kid k hkn'
   obtain rfl : D' = D := by omega
   subst hpa
   obtain ⟨x, hx⟩ : ∃ x, x = (toL n.kids)[k] := ⟨_, rfl⟩
   have hxk : x = kl[k] := by rw [hx]; simp only [HC.out.1]
   rw [← hx] at hkid c0 c1 c2
   have HCC : Hid (Calls Tryd.prog 38 #[.agg #[.int .i64 x.op, .slice xa x.cl.length xc, .slice ya (toL x.kids).length yc]] wr fun e w' => ∃ t : Int, e = .returned (.int .i64 t) ∧ Below wr.heap.size wr w') := HPC.out x xa ya xc yc B wr hkid
   obtain ⟨xo, hxo⟩ : ∃ xo, xo = x.op := ⟨_, rfl⟩
   obtain ⟨xn, hxn⟩ : ∃ xn, xn = x.cl.length := ⟨_, rfl⟩
   obtain ⟨xk, hxk2⟩ : ∃ xk, xk = (toL x.kids).length := ⟨_, rfl⟩
   rw [← hxo] at c0 HCC
   rw [← hxn] at c1 HCC
   rw [← hxk2] at c2 HCC
   clear hkid hxo hxn hxk2 hx hxk
   go_wp2_with fail
   refine HCC.out.mono ?_
   rintro e w2 ⟨v, rfl, hb2⟩
   have HB2 : Hid (Below wA.heap.size wA w2) := HBL.out.trans (hb2.mono HBL.out.size)
   have hmax : ∀ W : World, (Builtin.max_ #[3, 3] 3 #[.int .i64 m, .int .i64 v]).run Tryd.prog W = .ok (.int .i64 (max m v)) W := fun W => maxR m v W
   obtain ⟨M, hM⟩ : ∃ M, M = max m v := ⟨_, rfl⟩
   rw [← hM] at hmax
   clear hM
   clear hb2 c0 c1 c2 d2 d0 HCC
   go_wp2
   go_roundw
   case rel => exact ⟨k + 1, by omega, by go_num, ⟨M, rfl⟩, HB2.out⟩
   case measure => simp [intOf]; omega
  ·obtain rfl : k = K := by omega
   by_cases h4 : (op == 4) = true
   ·go_wp2
    go_ret
    exact ⟨_, rfl, HBW.out⟩
   ·rw [Bool.not_eq_true] at h4
    go_wp2
    go_ret
    exact ⟨_, rfl, HBW.out⟩
theorem starsX_any : (D : Nat) → StX D
 | 0 => fun _ _ _ _ _ _ _ h => h.elim
 | D + 1 => starsX_up D (starsX_any D)
end Go.Proofs.YtclogekfdmikpaaDoor

/- What the statements of machines ask, without memory: expressions that fit the same, rows that are told. -/
namespace Go.Proofs.YtclogekfdmikpaaDoor
open Go.RowKit
set_option linter.unusedVariables false
set_option linter.unusedSimpArgs false

/-! Expressions written otherwise. -/
theorem nil_fits (w : List Int) : nilNd.fits w ↔ w = [] := fits_op0 nilNd rfl rfl w
/-! What a machine tells behind each beginning. -/
theorem cls_nat {K : Nat} {row : List Int} (h : Cls K row) : (row.map Int.toNat).map Int.ofNat = row ∧ Wd K (row.map Int.toNat) := by
 refine ⟨?_, fun c hc => ?_⟩
 ·rw [List.map_map]
  conv => rhs; rw [← List.map_id row]
  apply List.map_congr_left
  intro c hc
  have := (h c hc).1
  show ((c.toNat : Nat) : Int) = c
  omega
 ·obtain ⟨x, hx, rfl⟩ := List.mem_map.1 hc
  have := h x hx
  omega
theorem Cls.take {K : Nat} {row : List Int} (h : Cls K row) (k : Nat) : Cls K (row.take k) := fun c hc => h c (List.mem_of_mem_take hc)
theorem Wd.take {K : Nat} {w : List Nat} (h : Wd K w) (k : Nat) : Wd K (w.take k) := fun c hc => h c (List.mem_of_mem_take hc)
end Go.Proofs.YtclogekfdmikpaaDoor

/- What the statements of machines ask, without memory: bits, expressions turned round, one that never fits, one or the other. -/
namespace Go.Proofs.YtclogekfdmikpaaDoor
open Go.RowKit
set_option linter.unusedVariables false
set_option linter.unusedSimpArgs false

/-! Bits. -/
theorem least_lt {K : Nat} {xs : List (Nd × Bool)} {nx : List (List Nat)} {ou : List Nat} (h : LeastOf K xs nx ou) (hl : xs.length ≤ 64) {w : List Nat} (hw : Wd K w) : ou.getD (runM nx 0 w) 0 < 2 ^ 64 := by
 apply Nat.lt_pow_two_of_testBit
 intro i hi
 rw [← Bool.not_eq_true]
 intro hb
 obtain ⟨x, hx, _⟩ := (h.tells w hw i).1 hb
 have := (List.getElem?_eq_some_iff.1 hx).1
 omega
/-! Turned round. -/
/-! One that never fits. -/
/-! One or the other, none and all. -/
end Go.Proofs.YtclogekfdmikpaaDoor

/- Machines in memory, read step by step. -/
namespace Go.Proofs.YtclogekfdmikpaaDoor
open Go.RowKit
set_option linter.unusedVariables false
set_option linter.unusedSimpArgs false

def stR (nx : List (List Nat)) (row : List Int) (i : Nat) : Nat := runM nx 0 ((row.map Int.toNat).take i)
def ouR (nx : List (List Nat)) (ou : List Nat) (row : List Int) (i : Nat) : Nat := ou.getD (stR nx row i) 0
theorem stR_zero (nx : List (List Nat)) (row : List Int) : stR nx row 0 = 0 := by simp [stR, runM]
theorem stR_lt {K : Nat} {xs : List (Nd × Bool)} {nx : List (List Nat)} {ou : List Nat} (h : LeastOf K xs nx ou) (row : List Int) (i : Nat) : stR nx row i < nx.length :=
 runM_lt h.asMet (asMet_pos h.asMet) _ 0 (asMet_pos h.asMet)
theorem mch_out {V : World} {lb K : Nat} {nx : List (List Nat)} {ou : List Nat} (h : MchAt V lb K nx ou) (hp : 0 < ou.length) : ∃ oa oo oc, V.cell? ⟨lb, 2, none⟩ = some (.slice (some ⟨oa, oo, none⟩) ou.length oc) ∧ ∀ s, s < ou.length → V.cell? ⟨oa, oo + s, none⟩ = some (.int .u64 ((ou.getD s 0 : Nat) : Int)) := by
 obtain ⟨na, nc, oa, oc, m1, _, o1, _⟩ := h
 obtain ⟨b, off, rfl, hoc⟩ := o1.2 hp
 refine ⟨b, off, oc, cell_of_row V lb 2 _ _ _ m1, fun s hs => ?_⟩
 rw [hoc s hs]
 simp [intsN, List.getD_eq_getElem?_getD, hs]
end Go.Proofs.YtclogekfdmikpaaDoor

/- Mathematics of a window's states: rows by a function, the states along a text, a text that is spliced, where both ways meet. -/
namespace Go.Proofs.YtclogekfdmikpaaDoor
set_option linter.unusedVariables false

def rowF (N : Nat) (f : Nat → Int) : List Int := (List.range N).map f
theorem rowF_len (N : Nat) (f : Nat → Int) : (rowF N f).length = N := by simp [rowF]
theorem rowF_get (N : Nat) (f : Nat → Int) (i : Nat) (h : i < N) : (rowF N f)[i]? = some (f i) := by simp [rowF, h]
theorem rowF_ext {N : Nat} {f g : Nat → Int} (h : ∀ i, i < N → f i = g i) : rowF N f = rowF N g := by
 unfold rowF
 apply List.map_congr_left
 intro i hi
 exact h i (List.mem_range.1 hi)
theorem rowF_set (N : Nat) (f : Nat → Int) (k : Nat) (x : Int) : (rowF N f).set k x = rowF N (fun q => if q = k then x else f q) := by
 apply List.ext_getElem?
 intro i
 by_cases hi : i < N
 ·rw [List.getElem?_set, rowF_get N _ i hi, rowF_get N _ i hi, rowF_len]
  by_cases hk : k = i
  ·rw [if_pos hk, if_pos (by omega), if_pos hk.symm]
  ·rw [if_neg hk, if_neg (fun e => hk e.symm)]
 ·rw [List.getElem?_eq_none (by rw [List.length_set, rowF_len]; omega), List.getElem?_eq_none (by rw [rowF_len]; omega)]
theorem rowF_rep (n p gone come : Nat) (G : Nat → Int) (h : p + gone ≤ n) : (rowF (n + 1) G).take (p + 1) ++ List.replicate come 0 ++ (rowF (n + 1) G).drop (p + gone + 1) = rowF (n - gone + come + 1) (fun k => if k ≤ p then G k else if k ≤ p + come then 0 else G (k + gone - come)) := by
 apply List.ext_getElem?
 intro k
 have ha : ((rowF (n + 1) G).take (p + 1)).length = p + 1 := by rw [List.length_take, rowF_len]; omega
 by_cases hk : k < n - gone + come + 1
 ·rw [rowF_get _ _ k hk]
  by_cases h1 : k ≤ p
  ·rw [if_pos h1, List.append_assoc, List.getElem?_append_left (by omega), List.getElem?_take, if_pos (by omega), rowF_get _ _ k (by omega)]
  ·rw [if_neg h1, List.append_assoc, List.getElem?_append_right (by omega), ha]
   by_cases h2 : k ≤ p + come
   ·rw [if_pos h2, List.getElem?_append_left (by simp; omega), List.getElem?_replicate, if_pos (by omega)]
   ·rw [if_neg h2, List.getElem?_append_right (by simp; omega), List.getElem?_drop, List.length_replicate, rowF_get _ _ _ (by omega)]
    congr 2
    omega
 ·rw [List.getElem?_eq_none (by simp [rowF_len]; omega), List.getElem?_eq_none (by rw [rowF_len]; omega)]
def spl (xs : List Int) (p gone : Nat) (cls : List Int) : List Int := xs.take p ++ cls ++ xs.drop (p + gone)
theorem spl_len (xs cls : List Int) (p gone : Nat) (h : p + gone ≤ xs.length) : (spl xs p gone cls).length = xs.length - gone + cls.length := by
 unfold spl; simp; omega
theorem stR_next (nx : List (List Nat)) (row : List Int) (i : Nat) (h : i < row.length) : stR nx row (i + 1) = nxt nx (stR nx row i) (row.getD i 0).toNat := by
 unfold stR
 rw [List.take_add_one, runM_app]
 simp [h, runM]
theorem stR_same (nx : List (List Nat)) (xs ys : List Int) (p : Nat) (h : xs.take p = ys.take p) (k : Nat) (hk : k ≤ p) : stR nx xs k = stR nx ys k := by
 unfold stR
 have e : (xs.map Int.toNat).take k = (ys.map Int.toNat).take k := by
  rw [← List.map_take, ← List.map_take]
  have h1 : xs.take k = ys.take k := by
   have := congrArg (List.take k) h
   rw [List.take_take, List.take_take, Nat.min_eq_left hk] at this
   exact this
  rw [h1]
 rw [e]
theorem spl_take (xs cls : List Int) (p gone : Nat) (h : p + gone ≤ xs.length) : (spl xs p gone cls).take p = xs.take p := by
 unfold spl
 rw [List.append_assoc, List.take_append_of_le_length (by rw [List.length_take]; omega), List.take_take, Nat.min_self]
theorem spl_get (xs cls : List Int) (p gone : Nat) (h : p + gone ≤ xs.length) (k : Nat) (hk : p + cls.length ≤ k) : (spl xs p gone cls).getD k 0 = xs.getD (k + gone - cls.length) 0 := by
 unfold spl
 rw [List.getD_eq_getElem?_getD, List.getD_eq_getElem?_getD, List.getElem?_append_right (by simp; omega), List.getElem?_drop]
 congr 2
 simp
 omega
theorem st_meet (nx : List (List Nat)) (xs cls : List Int) (p gone : Nat) (h : p + gone ≤ xs.length) (i : Nat) (hi : p + cls.length ≤ i) (hs : stR nx (spl xs p gone cls) i = stR nx xs (i + gone - cls.length)) : ∀ k, i ≤ k → k ≤ (spl xs p gone cls).length → stR nx (spl xs p gone cls) k = stR nx xs (k + gone - cls.length) := by
 have hlen := spl_len xs cls p gone h
 have key : ∀ d, i + d ≤ (spl xs p gone cls).length → stR nx (spl xs p gone cls) (i + d) = stR nx xs (i + d + gone - cls.length) := by
  intro d
  induction d with
  | zero => exact fun _ => hs
  | succ d ih =>
    intro hl
    have ih := ih (by omega)
    obtain ⟨k, hk⟩ : ∃ k, k = i + d := ⟨_, rfl⟩
    rw [← hk] at ih
    rw [show i + (d + 1) = k + 1 by omega]
    rw [stR_next nx _ k (by omega), ih, spl_get xs cls p gone h k (by omega), show k + 1 + gone - cls.length = (k + gone - cls.length) + 1 by omega, stR_next nx xs _ (by omega)]
 intro k hk hl
 have := key (k - i) (by omega)
 rw [show i + (k - i) = k by omega] at this
 exact this
def RdN (nx : List (List Nat)) (xs cls : List Int) (p gone r : Nat) : Prop :=
 r ≤ xs.length - (p + gone) ∧ (∀ q, q < r → stR nx (spl xs p gone cls) (p + cls.length + q) ≠ stR nx xs (p + gone + q)) ∧ (r = xs.length - (p + gone) ∨ stR nx (spl xs p gone cls) (p + cls.length + r) = stR nx xs (p + gone + r))
def stI (nx : List (List Nat)) (xs : List Int) : Nat → Int := fun k => (stR nx xs k : Int)
end Go.Proofs.YtclogekfdmikpaaDoor

/- Rows of the caller's own by a function; what run stands on. -/
namespace Go.Proofs.YtclogekfdmikpaaDoor
open Go.RowKit
set_option linter.unusedVariables false

theorem own_setF {w : World} {B g N cap : Nat} {f : Nat → Int} (h : w.ownsRow B 3 1 (.slice (some ⟨g, 0, none⟩) N cap) N (jv (rowF N f))) (k : Nat) (hk : k < N) (x : Int) : (w.setCell ⟨g, k, none⟩ (.int .i64 x)).ownsRow B 3 1 (.slice (some ⟨g, 0, none⟩) N cap) N (jv (rowF N (fun q => if q = k then x else f q))) := by
 obtain ⟨cur, hg, hs, hn, hm, hb, ht⟩ := own_blkI h
 refine own_fin (heap_setCellX w g k _ cur _ _ hg) hb (by simpa using hs) hm hn (rowF_len _ _) ?_
 rw [← rowF_set]
 have e : (cur.setIfInBounds k (.int .i64 x)).toList = cur.toList.set k (.int .i64 x) := by simp
 rw [e, List.take_set, ht]
 simp [jv, List.map_set]
theorem own_cellF {w : World} {B g N cap : Nat} {f : Nat → Int} (h : w.ownsRow B 3 1 (.slice (some ⟨g, 0, none⟩) N cap) N (jv (rowF N f))) (k : Nat) (hk : k < N) : w.cell? ⟨g, k, none⟩ = some (.int .i64 (f k)) ∧ w.frozen? ⟨g, k, none⟩ = false := by
 obtain ⟨cur, hg, hs, hn, hm, hb, ht⟩ := own_blkI h
 refine ⟨?_, Lib.frozen_of_heap hg k⟩
 rw [cell_of_row w g k _ _ _ hg]
 have h1 : (cur.toList.take N)[k]? = (jv (rowF N f))[k]? := by rw [ht]
 rw [List.getElem?_take, if_pos hk, List.getElem?_map, rowF_get N f k hk] at h1
 simpa using h1
theorem own_extF {w : World} {B N : Nat} {v : Value} {f g : Nat → Int} (h : w.ownsRow B 3 1 v N (jv (rowF N f))) (he : ∀ i, i < N → f i = g i) : w.ownsRow B 3 1 v N (jv (rowF N g)) := by
 rw [← rowF_ext he]; exact h
theorem own_someF {w : World} {B N : Nat} {v : Value} {f : Nat → Int} (h : w.ownsRow B 3 1 v N (jv (rowF N f))) (hN : 0 < N) : ∃ g cap, v = .slice (some ⟨g, 0, none⟩) N cap ∧ N ≤ cap ∧ cap ≤ 9223372036854775807 := by
 rcases h.2 with ⟨rfl, h0⟩ | ⟨g, cap, cur, rfl, hb, hg, hn, hm, hs, ht⟩
 ·omega
 ·exact ⟨g, cap, rfl, hn, by simpa [maxLen] using hm⟩
theorem gb_trans {a b c : World} {row row' : Option Nat} (h1 : a.grownBy b row) (h2 : b.grownBy c row') (hr : ∀ k, row' = some k → row = some k ∨ a.heap.size ≤ k) : a.grownBy c row := by
 refine ⟨h2.os.trans h1.os, h2.tape.trans h1.tape, h2.output.trans h1.output, Nat.le_trans h1.size h2.size, fun k hk hne => ?_⟩
 rw [h2.block k (by have := h1.size; omega) (fun e => by
  rcases hr k e.symm with h | h
  ·exact hne h.symm
  ·omega)]
 exact h1.block k hk hne
theorem gb_setCell {w W : World} {row : Option Nat} (h : w.grownBy W row) (b o : Nat) (v : Value) (hb : row = some b ∨ w.heap.size ≤ b) : w.grownBy (W.setCell ⟨b, o, none⟩ v) row := gb_set h b o [v] hb
theorem gb_drewN {w W : World} {row : Option Nat} (h : w.grownBy W row) (q : Nat) : w.grownBy (W.drewN q) row := ⟨h.os, h.tape, h.output, h.size, h.block⟩
theorem own_drewN {w : World} {B : Nat} {e : TypeId} {size n : Nat} {v : Value} {xs : List Value} (h : w.ownsRow B e size v n xs) (q : Nat) : (w.drewN q).ownsRow B e size v n xs := h
end Go.Proofs.YtclogekfdmikpaaDoor
