/- In one text: DfaRc, DfaRd, DfaRe, DfaRf, DfaRh, DfaRi, DfaLa, DfaLb, DfaLc, TabT. -/
import Derived.Test.YtcafffohnokjgaaDoorJ24
import Derived.Test.YtcafffohnokjgaaDoorJ01
import Derived.Test.YtcafffohnokjgaaDoorJ22
/- The walks of slices.EqualFunc and of Equal. -/
namespace Go.Proofs.YtcafffohnokjgaaDoor
open Go.RowKit Go.Shelf Go.Maps
set_option linter.unusedVariables false
set_option linter.unusedSimpArgs false

theorem NRows.later {w w' : World} {a : Option Addr} {nx : List (List Nat)} (h : NRows w a nx) (hb : Below w.heap.size w w') : NRows w' a nx := fun hp => by
 obtain ⟨b, off, e, hk⟩ := h hp
 refine ⟨b, off, e, fun i hi => ?_⟩
 obtain ⟨ra, rc, k1, k2⟩ := hk i hi
 exact ⟨ra, rc, upC hb k1, k2.later hb⟩
end Go.Proofs.YtcafffohnokjgaaDoor

/- The walk of Equal. -/
namespace Go.Proofs.YtcafffohnokjgaaDoor
open Go.RowKit Go.Shelf Go.Maps
set_option linter.unusedVariables false
set_option linter.unusedSimpArgs false

end Go.Proofs.YtcafffohnokjgaaDoor

/- A small expression has a small machine; the machine of one character. -/
namespace Go.Proofs.YtcafffohnokjgaaDoor
open Go.RowKit Go.Shelf Go.Maps
set_option linter.unusedVariables false
set_option linter.unusedSimpArgs false

def oneX : Nd × Bool := (⟨1, [0], .nil⟩, false)
def oneA : Nat × Bool := fiO oneX
def oneB : Nat × Bool := stO oneX oneA 0
theorem one_steps : oneA ≠ oneB ∧ stO oneX oneA 0 = oneB ∧ stO oneX oneA 1 = oneA ∧ stO oneX oneB 0 = oneB ∧ stO oneX oneB 1 = oneA ∧ oneA.2 = false ∧ oneB.2 = true := by decide
end Go.Proofs.YtcafffohnokjgaaDoor

/- Step where there is no way; the walk of shown. -/
namespace Go.Proofs.YtcafffohnokjgaaDoor
open Go.RowKit Go.Shelf Go.Maps
set_option linter.unusedVariables false
set_option linter.unusedSimpArgs false

end Go.Proofs.YtcafffohnokjgaaDoor

/- The walks of Count and Stars of whatever comes in. -/
namespace Go.Proofs.YtcafffohnokjgaaDoor
open Go.RowKit Go.Shelf Go.Maps
set_option linter.unusedVariables false
set_option linter.unusedSimpArgs false

theorem cntL_le (kl : List Nd) (k : Nat) : cntL (kl.take k) ≤ cntL kl := by
 have : ∀ a b : List Nd, cntL (a ++ b) = cntL a + cntL b := fun a b => by simp [cntL, List.map_append, List.sum_append]
 have h := this (kl.take k) (kl.drop k)
 rw [List.take_append_drop] at h
 omega
def CoX (D : Nat) : Prop := ∀ (n : Nd) (ca pa : Option Addr) (cc pc : Nat) (B : Nat) (w : World), InV B w D n [.int .i64 n.op, .slice ca n.cl.length cc, .slice pa (toL n.kids).length pc] →
 Calls Tryd.prog 29 #[.agg #[.int .i64 n.op, .slice ca n.cl.length cc, .slice pa (toL n.kids).length pc]] w fun e w' => ∃ v : Int, e = .returned (.int .i64 v) ∧ (n.cnt ≤ 400 → v = (n.cnt : Int)) ∧ Below w.heap.size w w'
set_option maxHeartbeats 8000000 in
theorem countX_up (d : Nat) (HP : CoX d) : CoX (d + 1) := by
 intro n ca pa cc pc B w hin
 have HPC : Hid (CoX d) := HP
 have HIN : Hid (InV B w (d + 1) n [.int .i64 n.op, .slice ca n.cl.length cc, .slice pa (toL n.kids).length pc]) := hin
 have hb := hin.bounds
 obtain ⟨op, hop⟩ : ∃ op, op = n.op := ⟨_, rfl⟩
 obtain ⟨cn, hcn⟩ : ∃ cn, cn = n.cl.length := ⟨_, rfl⟩
 obtain ⟨kl, hkl⟩ : ∃ kl, kl = toL n.kids := ⟨_, rfl⟩
 obtain ⟨K, hK⟩ : ∃ K, K = kl.length := ⟨_, rfl⟩
 have hce := cnt_eq n
 rw [← hkl] at hce
 have HC : Hid (n.cnt = 1 + cntL kl ∧ True ∧ kl = toL n.kids ∧ K = kl.length) := ⟨hce, trivial, hkl, hK⟩
 have hKi : (K : Int) ≤ 2600000000000 := by rw [hkl] at hK; omega
 obtain ⟨wA, hwA⟩ : ∃ wA, wA = w.alloc (.cells #[.int .i64 op, .slice ca cn cc, .slice pa K pc] 46) := ⟨_, rfl⟩
 obtain ⟨H, hH⟩ : ∃ H, H = w.heap.size := ⟨_, rfl⟩
 have HB : Hid (Below w.heap.size w wA) := by rw [hwA]; exact (Below.refl _ w).alloc (Nat.le_refl _) _
 have HBX : Hid (wA.heap[H]? = some (.cells #[.int .i64 op, .slice ca cn cc, .slice pa K pc] 46)) := by rw [hwA, hH]; exact heap_alloc_new w _
 rw [← hop, ← hcn, ← hkl, ← hK]
 clear HP hin hb hop hcn hK hkl hce
 go_enter Tryd.func29, Tryd.ntmps29
 go_upto_region 1 with fail
 rw [← hH, ← hwA]
 clear hH hwA
 go_wp2
 go_loopw [3, 4] (fun x3 x4 wr => ∃ (k : Nat) (m : Int), k ≤ K ∧ x4 = .int .i64 k ∧ x3 = .int .i64 m ∧ (1 + cntL (kl.take k) ≤ 400 → m = ((1 + cntL (kl.take k) : Nat) : Int)) ∧ Below wA.heap.size wA wr) (fun _ x4 _ => K - (intOf x4).toNat)
 case atStart => exact ⟨0, 1, by omega, rfl, rfl, fun _ => by simp [cntL], Below.refl _ _⟩
 case round =>
  obtain ⟨k, m, hk, hx4, hx3, hm, hbl⟩ := hrel
  have HMC : Hid (1 + cntL (kl.take k) ≤ 400 → m = ((1 + cntL (kl.take k) : Nat) : Int)) := hm
  subst hx4
  subst hx3
  have HBL : Hid (Below wA.heap.size wA wr) := hbl
  have d2 : wr.cell? ⟨H, 2, none⟩ = some (.slice pa K pc) := cell_of_row wr H 2 _ _ _ ((hbl.block H (Array.getElem?_eq_some_iff.1 HBX.out).1).trans HBX.out)
  have HBW : Hid (Below w.heap.size w wr) := HB.out.trans (hbl.mono HB.out.size)
  clear hbl
  clear hm
  by_cases hlt : k < K
  ·by_cases hm4' : ¬ m ≤ 400
   ·have HR : Hid (n.cnt ≤ 400 → m = (n.cnt : Int)) := fun hc => by
     have h1 := HC.out.1; have h2 := cntL_le kl k; have h3 := HMC.out (by omega); omega
    go_wp2
    go_ret
    exact ⟨m, rfl, HR.out, HBW.out⟩
   have hm4 : m ≤ 400 := by omega
   clear hm4'
   have hkn : k < kl.length := by rw [← HC.out.2.2.2]; exact hlt
   have hkn' : k < (toL n.kids).length := by rw [← HC.out.2.2.1]; exact hkn
   obtain ⟨b, off, xa, xc, ya, yc, d', hpa, hkid, hd', c0, c1, c2⟩ := (HIN.out.later HBW.out (d + 1)).kid k hkn'
   obtain rfl : d = d' := by omega
   subst hpa
   obtain ⟨x, hx⟩ : ∃ x, x = (toL n.kids)[k] := ⟨_, rfl⟩
   have hxk : x = kl[k] := by rw [hx]; simp only [HC.out.2.2.1]
   rw [← hx] at hkid c0 c1 c2
   have htk := cntL_take kl k hkn
   rw [← hxk] at htk
   obtain ⟨xc', hxc'⟩ : ∃ xc', xc' = x.cnt := ⟨_, rfl⟩
   have HCC : Hid (Calls Tryd.prog 29 #[.agg #[.int .i64 x.op, .slice xa x.cl.length xc, .slice ya (toL x.kids).length yc]] wr fun e w' => ∃ v : Int, e = .returned (.int .i64 v) ∧ (x.cnt ≤ 400 → v = (x.cnt : Int)) ∧ Below wr.heap.size wr w') := by
    exact HPC.out x xa ya xc yc B wr hkid
   have HNX : Hid (1 + cntL (kl.take (k + 1)) = (1 + cntL (kl.take k)) + xc') := by
    show _ = _
    rw [take_snoc kl k hkn, cntL_snoc, ← hxk, hxc']
    omega
   rw [← hxc'] at HCC
   obtain ⟨xo, hxo⟩ : ∃ xo, xo = x.op := ⟨_, rfl⟩
   obtain ⟨xn, hxn⟩ : ∃ xn, xn = x.cl.length := ⟨_, rfl⟩
   obtain ⟨xk, hxk2⟩ : ∃ xk, xk = (toL x.kids).length := ⟨_, rfl⟩
   rw [← hxo] at c0 HCC
   rw [← hxn] at c1 HCC
   rw [← hxk2] at c2 HCC
   have hki : (k : Int) < (K : Int) := by omega
   clear hkid hxo hxn hxk2 hx hxk htk hxc'
   go_wp2_with fail
   refine HCC.out.mono ?_
   rintro e w2 ⟨v, rfl, hv, hb2⟩
   have HV : Hid (xc' ≤ 400 → v = (xc' : Int)) := hv
   clear hv
   have HB2 : Hid (Below wA.heap.size wA w2) := HBL.out.trans (hb2.mono HBL.out.size)
   clear hb2 c0 c1 c2 d2 HCC
   go_wp2
   go_roundw
   case rel =>
    refine ⟨k + 1, _, by omega, by go_num, rfl, fun hc => ?_, HB2.out⟩
    rw [HNX.out] at hc ⊢
    have h1 := HMC.out (by omega)
    have h2 := HV.out (by omega)
    rw [h1, h2]
    unfold wrap64
    omega
   case measure => simp [intOf]; omega
  ·obtain rfl : k = K := by omega
   have HR : Hid (n.cnt ≤ 400 → m = (n.cnt : Int)) := by
    have h1 := HMC.out
    rw [List.take_of_length_le (by rw [← HC.out.2.2.2]; exact Nat.le_refl _), ← HC.out.1] at h1
    exact h1
   go_wp2
   go_ret
   exact ⟨m, rfl, HR.out, HBW.out⟩
theorem countX_any : (d : Nat) → CoX d
 | 0 => fun _ _ _ _ _ _ _ h => h.elim
 | d + 1 => countX_up d (countX_any d)
end Go.Proofs.YtcafffohnokjgaaDoor

/- The walk of Stars of whatever comes in: it answers some number. -/
namespace Go.Proofs.YtcafffohnokjgaaDoor
open Go.RowKit Go.Shelf Go.Maps
set_option linter.unusedVariables false
set_option linter.unusedSimpArgs false

def StX (D : Nat) : Prop := ∀ (n : Nd) (ca pa : Option Addr) (cc pc : Nat) (B : Nat) (w : World), InV B w D n [.int .i64 n.op, .slice ca n.cl.length cc, .slice pa (toL n.kids).length pc] →
 Calls Tryd.prog 30 #[.agg #[.int .i64 n.op, .slice ca n.cl.length cc, .slice pa (toL n.kids).length pc]] w fun e w' => ∃ t : Int, e = .returned (.int .i64 t) ∧ Below w.heap.size w w'
set_option maxHeartbeats 8000000 in
theorem starsX_up (D : Nat) (HP : StX D) : StX (D + 1) := by
 intro n ca pa cc pc B w hin
 have HPC : Hid (StX D) := HP
 have HIN : Hid (InV B w (D + 1) n [.int .i64 n.op, .slice ca n.cl.length cc, .slice pa (toL n.kids).length pc]) := hin
 have hb := hin.bounds
 obtain ⟨op, hop⟩ : ∃ op, op = n.op := ⟨_, rfl⟩
 obtain ⟨cn, hcn⟩ : ∃ cn, cn = n.cl.length := ⟨_, rfl⟩
 obtain ⟨kl, hkl⟩ : ∃ kl, kl = toL n.kids := ⟨_, rfl⟩
 obtain ⟨K, hK⟩ : ∃ K, K = kl.length := ⟨_, rfl⟩
 have HC : Hid (kl = toL n.kids ∧ K = kl.length) := ⟨hkl, hK⟩
 have hKi : (K : Int) ≤ 2600000000000 := by rw [hkl] at hK; omega
 obtain ⟨wA, hwA⟩ : ∃ wA, wA = w.alloc (.cells #[.int .i64 op, .slice ca cn cc, .slice pa K pc] 46) := ⟨_, rfl⟩
 obtain ⟨H, hH⟩ : ∃ H, H = w.heap.size := ⟨_, rfl⟩
 have HB : Hid (Below w.heap.size w wA) := by rw [hwA]; exact (Below.refl _ w).alloc (Nat.le_refl _) _
 have HBX : Hid (wA.heap[H]? = some (.cells #[.int .i64 op, .slice ca cn cc, .slice pa K pc] 46)) := by rw [hwA, hH]; exact heap_alloc_new w _
 rw [← hop, ← hcn, ← hkl, ← hK]
 clear HP hin hb hop hcn hK hkl
 go_enter Tryd.func30, Tryd.ntmps30
 go_upto_region 1 with fail
 rw [← hH, ← hwA]
 clear hH hwA
 go_wp2
 go_loopw [3, 4] (fun x3 x4 wr => ∃ k : Nat, k ≤ K ∧ x4 = .int .i64 k ∧ (∃ t : Int, x3 = .int .i64 t) ∧ Below wA.heap.size wA wr) (fun _ x4 _ => K - (intOf x4).toNat)
 case atStart => exact ⟨0, by omega, rfl, ⟨0, rfl⟩, Below.refl _ _⟩
 case round =>
  obtain ⟨k, hk, hx4, ⟨m, hx3⟩, hbl⟩ := hrel
  subst hx4
  subst hx3
  have HBL : Hid (Below wA.heap.size wA wr) := hbl
  have hblk := (hbl.block H (Array.getElem?_eq_some_iff.1 HBX.out).1).trans HBX.out
  have d2 : wr.cell? ⟨H, 2, none⟩ = some (.slice pa K pc) := cell_of_row wr H 2 _ _ _ hblk
  have d0 : wr.cell? ⟨H, 0, none⟩ = some (.int .i64 op) := cell_of_row wr H 0 _ _ _ hblk
  have HBW : Hid (Below w.heap.size w wr) := HB.out.trans (hbl.mono HB.out.size)
  clear hbl hblk
  by_cases hlt : k < K
  ·have hkn : k < kl.length := by rw [← HC.out.2]; exact hlt
   have hkn' : k < (toL n.kids).length := by rw [← HC.out.1]; exact hkn
   obtain ⟨b, off, xa, xc, ya, yc, D', hpa, hkid, hD', c0, c1, c2⟩ := (HIN.out.later HBW.out (D + 1)).kid k hkn'
   obtain rfl : D' = D := by omega
   subst hpa
   obtain ⟨x, hx⟩ : ∃ x, x = (toL n.kids)[k] := ⟨_, rfl⟩
   have hxk : x = kl[k] := by rw [hx]; simp only [HC.out.1]
   rw [← hx] at hkid c0 c1 c2
   have HCC : Hid (Calls Tryd.prog 30 #[.agg #[.int .i64 x.op, .slice xa x.cl.length xc, .slice ya (toL x.kids).length yc]] wr fun e w' => ∃ t : Int, e = .returned (.int .i64 t) ∧ Below wr.heap.size wr w') := HPC.out x xa ya xc yc B wr hkid
   obtain ⟨xo, hxo⟩ : ∃ xo, xo = x.op := ⟨_, rfl⟩
   obtain ⟨xn, hxn⟩ : ∃ xn, xn = x.cl.length := ⟨_, rfl⟩
   obtain ⟨xk, hxk2⟩ : ∃ xk, xk = (toL x.kids).length := ⟨_, rfl⟩
   rw [← hxo] at c0 HCC
   rw [← hxn] at c1 HCC
   rw [← hxk2] at c2 HCC
   clear hkid hxo hxn hxk2 hx hxk
   go_wp2_with fail
   refine HCC.out.mono ?_
   rintro e w2 ⟨v, rfl, hb2⟩
   have HB2 : Hid (Below wA.heap.size wA w2) := HBL.out.trans (hb2.mono HBL.out.size)
   have hmax : ∀ W : World, (Builtin.max_ #[3, 3] 3 #[.int .i64 m, .int .i64 v]).run Tryd.prog W = .ok (.int .i64 (max m v)) W := fun W => maxR m v W
   obtain ⟨M, hM⟩ : ∃ M, M = max m v := ⟨_, rfl⟩
   rw [← hM] at hmax
   clear hM
   clear hb2 c0 c1 c2 d2 d0 HCC
   go_wp2
   go_roundw
   case rel => exact ⟨k + 1, by omega, by go_num, ⟨M, rfl⟩, HB2.out⟩
   case measure => simp [intOf]; omega
  ·obtain rfl : k = K := by omega
   by_cases h4 : (op == 4) = true
   ·go_wp2
    go_ret
    exact ⟨_, rfl, HBW.out⟩
   ·rw [Bool.not_eq_true] at h4
    go_wp2
    go_ret
    exact ⟨_, rfl, HBW.out⟩
theorem starsX_any : (D : Nat) → StX D
 | 0 => fun _ _ _ _ _ _ _ h => h.elim
 | D + 1 => starsX_up D (starsX_any D)
end Go.Proofs.YtcafffohnokjgaaDoor

/- What the statements of machines ask, without memory: expressions that fit the same, rows that are told. -/
namespace Go.Proofs.YtcafffohnokjgaaDoor
open Go.RowKit
set_option linter.unusedVariables false
set_option linter.unusedSimpArgs false

theorem LeastOf.swap {K : Nat} {xs ys : List (Nd × Bool)} {nx : List (List Nat)} {ou : List Nat} (h : LeastOf K xs nx ou) (he : ∀ w i, outC xs w i ↔ outC ys w i) : LeastOf K ys nx ou :=
 ⟨h.asMet, h.wide, h.apart, h.len, fun w hw i => (h.tells w hw i).trans (he w i)⟩
/-! Expressions written otherwise. -/
theorem nil_fits (w : List Int) : nilNd.fits w ↔ w = [] := fits_op0 nilNd rfl rfl w
/-! What a machine tells behind each beginning. -/
theorem run_cells {w : World} {B g cap n : Nat} {nx : List (List Nat)} {ou rs : List Nat} (h : w.ownsRow B 58 1 (.slice (some ⟨g, 0, none⟩) n cap) n (uv (runO nx ou rs n))) (i : Nat) (hi : i < n) : w.cell? ⟨g, i, none⟩ = some (.int .u64 ((ou.getD (runM nx 0 (rs.take i)) 0 : Nat) : Int)) := by
 obtain ⟨g', hg, _, cur, _, hc⟩ := own_cells1 h (by omega)
 cases hg
 rw [hc i hi]
 simp [uv, runO, hi]
theorem cls_nat {K : Nat} {row : List Int} (h : Cls K row) : (row.map Int.toNat).map Int.ofNat = row ∧ Wd K (row.map Int.toNat) := by
 refine ⟨?_, fun c hc => ?_⟩
 ·rw [List.map_map]
  conv => rhs; rw [← List.map_id row]
  apply List.map_congr_left
  intro c hc
  have := (h c hc).1
  show ((c.toNat : Nat) : Int) = c
  omega
 ·obtain ⟨x, hx, rfl⟩ := List.mem_map.1 hc
  have := h x hx
  omega
theorem Cls.take {K : Nat} {row : List Int} (h : Cls K row) (k : Nat) : Cls K (row.take k) := fun c hc => h c (List.mem_of_mem_take hc)
theorem Wd.take {K : Nat} {w : List Nat} (h : Wd K w) (k : Nat) : Wd K (w.take k) := fun c hc => h c (List.mem_of_mem_take hc)
theorem out_whole {K : Nat} {xs : List (Nd × Bool)} {row : List Int} (hc : Cls K row) {k : Nat} {x : Nd × Bool} (hx : xs[k]? = some x) (hw : x.2 = true) (i : Nat) : outC xs ((row.map Int.toNat).take i) k ↔ x.1.fits (row.take i) := by
 unfold outC
 rw [← List.map_take, (cls_nat (hc.take i)).1]
 constructor
 ·rintro ⟨y, hy, u, v, h1, h2, h3⟩
  obtain rfl : x = y := Option.some.inj (hx.symm.trans hy)
  rw [h2 hw] at h1
  rw [h1]; simpa using h3
 ·intro h
  exact ⟨x, hx, [], row.take i, by simp, fun _ => rfl, h⟩
theorem out_some {K : Nat} {xs : List (Nd × Bool)} {row : List Int} (hc : Cls K row) {k : Nat} {x : Nd × Bool} (hx : xs[k]? = some x) (hw : x.2 = false) (i : Nat) (hi : i ≤ row.length) : outC xs ((row.map Int.toNat).take i) k ↔ ∃ j, j ≤ i ∧ x.1.fits (sg row j i) := by
 unfold outC
 rw [← List.map_take, (cls_nat (hc.take i)).1]
 constructor
 ·rintro ⟨y, hy, u, v, h1, h2, h3⟩
  obtain rfl : x = y := Option.some.inj (hx.symm.trans hy)
  have hl := congrArg List.length h1
  simp at hl
  refine ⟨u.length, by omega, ?_⟩
  obtain ⟨_, _, h4⟩ := sg_cut row 0 i u v (by omega) hi (by rw [sg_take]; exact h1)
  rw [Nat.zero_add] at h4
  rw [h4]; exact h3
 ·rintro ⟨j, hj, h⟩
  refine ⟨x, hx, row.take j, sg row j i, ?_, fun h => (by rw [hw] at h; cases h), h⟩
  rw [← sg_take, ← sg_take, sg_app row 0 j i (by omega) hj]
end Go.Proofs.YtcafffohnokjgaaDoor

/- What the statements of machines ask, without memory: bits, expressions turned round, one that never fits, one or the other. -/
namespace Go.Proofs.YtcafffohnokjgaaDoor
open Go.RowKit
set_option linter.unusedVariables false
set_option linter.unusedSimpArgs false

/-! Bits. -/
theorem least_lt {K : Nat} {xs : List (Nd × Bool)} {nx : List (List Nat)} {ou : List Nat} (h : LeastOf K xs nx ou) (hl : xs.length ≤ 64) {w : List Nat} (hw : Wd K w) : ou.getD (runM nx 0 w) 0 < 2 ^ 64 := by
 apply Nat.lt_pow_two_of_testBit
 intro i hi
 rw [← Bool.not_eq_true]
 intro hb
 obtain ⟨x, hx, _⟩ := (h.tells w hw i).1 hb
 have := (List.getElem?_eq_some_iff.1 hx).1
 omega
/-! Turned round. -/
/-! One that never fits. -/
/-! One or the other, none and all. -/
end Go.Proofs.YtcafffohnokjgaaDoor

/- Machines in memory, read step by step. -/
namespace Go.Proofs.YtcafffohnokjgaaDoor
open Go.RowKit
set_option linter.unusedVariables false
set_option linter.unusedSimpArgs false

def stR (nx : List (List Nat)) (row : List Int) (i : Nat) : Nat := runM nx 0 ((row.map Int.toNat).take i)
def ouR (nx : List (List Nat)) (ou : List Nat) (row : List Int) (i : Nat) : Nat := ou.getD (stR nx row i) 0
theorem run_told {w w' : World} {B g cap n : Nat} {nx : List (List Nat)} {ou : List Nat} {row : List Int} (h : w.ownsRow B 58 1 (.slice (some ⟨g, 0, none⟩) n cap) n (uv (runO nx ou (row.map Int.toNat) n))) (hb : Below w.heap.size w w') (i : Nat) (hi : i < n) : w'.cell? ⟨g, i, none⟩ = some (.int .u64 ((ouR nx ou row i : Nat) : Int)) :=
 upC hb (run_cells h i hi)
end Go.Proofs.YtcafffohnokjgaaDoor

/- What both machines tell of a row, and what Compile asks. -/
namespace Go.Proofs.YtcafffohnokjgaaDoor
open Go.RowKit
set_option linter.unusedVariables false
set_option linter.unusedSimpArgs false

theorem ok_okT {n : Nd} (h : n.ok = true) : okN 32 n = true := by
 unfold Nd.ok at h
 simp only [Bool.and_eq_true] at h
 exact h.1
theorem cm_ok {K : Int} {l : List Rl} (h : cmB K l = true) : ∀ r, r ∈ l → okN 32 r.left = true ∧ okN 32 r.right = true := fun r hr => by
 simp only [cmB, Bool.and_eq_true, List.all_eq_true] at h
 exact ⟨ok_okT (h.1.1.2 r hr).1, ok_okT (h.1.1.2 r hr).2⟩
theorem sg_rev9 (xs : List Int) (i j : Nat) (hij : i ≤ j) (hj : j ≤ xs.length) : (sg xs.reverse i j).reverse = sg xs (xs.length - j) (xs.length - i) := by
 unfold sg
 rw [List.drop_reverse, List.take_reverse, List.reverse_reverse, List.length_take, List.drop_take]
 congr 1 <;> first | omega | (congr 1; omega)
theorem cls_rev {K : Nat} {row : List Int} (h : Cls K row) : Cls K row.reverse := fun c hc => h c (List.mem_reverse.1 hc)
end Go.Proofs.YtcafffohnokjgaaDoor
