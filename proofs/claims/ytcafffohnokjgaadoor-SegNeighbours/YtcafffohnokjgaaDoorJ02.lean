/- In one text: NfaR, NfaD, DfaA, DfaB, DfaC. -/
import Derived.Test.YtcafffohnokjgaaDoorJ01
import Derived.Laws.BitsAllLaws
/- Rows of nodes as values; the walks of the library's Reverse and Clone of them. -/
namespace Go.Proofs.YtcafffohnokjgaaDoor
open Go.RowKit
set_option linter.unusedVariables false
set_option linter.unusedSimpArgs false
theorem grown_drew3 (w : World) (row : Option Nat) : w.grownBy w.drew row := ⟨rfl, rfl, rfl, Nat.le_refl _, fun _ _ _ => rfl⟩

structure Nk where
 op : Int
 ca : Option Addr
 cn : Nat
 cc : Nat
 pa : Option Addr
 pn : Nat
 pc : Nat
def Nk.zero : Nk := ⟨0, none, 0, 0, none, 0, 0⟩
def Nk.vals (x : Nk) : List Value := [.int .i64 x.op, .slice x.ca x.cn x.cc, .slice x.pa x.pn x.pc]
def flatN (xs : List Nk) : List Value := xs.flatMap Nk.vals
theorem flatN_len : (xs : List Nk) → (flatN xs).length = xs.length * 3
 | [] => rfl
 | x :: r => by
   show (x.vals ++ flatN r).length = _
   rw [List.length_append, flatN_len r]
   simp [Nk.vals]
   omega
theorem flatN_get : (xs : List Nk) → (i j : Nat) → j < 3 → (flatN xs)[i * 3 + j]? = (xs[i]?).bind fun x => x.vals[j]?
 | [], i, j, _ => by simp [flatN]
 | x :: r, 0, j, hj => by
   show (x.vals ++ flatN r)[0 * 3 + j]? = _
   rw [List.getElem?_append_left (by simp [Nk.vals]; omega)]
   simp
 | x :: r, i + 1, j, hj => by
   show (x.vals ++ flatN r)[(i + 1) * 3 + j]? = _
   rw [List.getElem?_append_right (by simp [Nk.vals]; omega), show (i + 1) * 3 + j - x.vals.length = i * 3 + j by simp [Nk.vals]; omega, flatN_get r i j hj]
   simp
def F3 (W : World) (g o : Nat) (x : Nk) : World := ((W.setCell ⟨g, o, none⟩ (.int .i64 x.op)).setCell ⟨g, o + 1, none⟩ (.slice x.ca x.cn x.cc)).setCell ⟨g, o + 2, none⟩ (.slice x.pa x.pn x.pc)
def A3 (cur : Array Value) (o : Nat) (x : Nk) : Array Value := ((cur.setIfInBounds o (.int .i64 x.op)).setIfInBounds (o + 1) (.slice x.ca x.cn x.cc)).setIfInBounds (o + 2) (.slice x.pa x.pn x.pc)
theorem f3_grown (W : World) (g o : Nat) (x : Nk) : W.grownBy (F3 W g o x) (some g) :=
 grown_all (grown_all (grown_cell W g o _) (grown_cell _ g _ _)) (grown_cell _ g _ _)
theorem f3_heap {W : World} {g : Nat} {cur : Array Value} {t : TypeId} (o : Nat) (x : Nk) (h : W.heap[g]? = some (.cells cur t (0, 0))) : (F3 W g o x).heap[g]? = some (.cells (A3 cur o x) t (0, 0)) :=
 heap_setCell_same _ g _ _ _ _ (heap_setCell_same _ g _ _ _ _ (heap_setCell_same _ g _ _ _ _ h))
theorem a3_size (cur : Array Value) (o : Nat) (x : Nk) : (A3 cur o x).size = cur.size := by simp [A3]
theorem a3_get (cur : Array Value) (o : Nat) (x : Nk) (h : o + 2 < cur.size) (q : Nat) : (A3 cur o x)[q]? = if o ≤ q ∧ q < o + 3 then x.vals[q - o]? else cur[q]? := by
 unfold A3
 by_cases hq : o ≤ q ∧ q < o + 3
 ·rw [if_pos hq]
  obtain ⟨j, rfl⟩ : ∃ j, q = o + j := ⟨q - o, by omega⟩
  rw [show o + j - o = j by omega]
  rcases (by omega : j = 0 ∨ j = 1 ∨ j = 2) with rfl | rfl | rfl
  ·rw [Array.getElem?_setIfInBounds_ne (by omega), Array.getElem?_setIfInBounds_ne (by omega)]
   rw [Nat.add_zero, Array.getElem?_setIfInBounds_self_of_lt (by omega)]; rfl
  ·rw [Array.getElem?_setIfInBounds_ne (by omega), Array.getElem?_setIfInBounds_self_of_lt (by simp; omega)]; rfl
  ·rw [Array.getElem?_setIfInBounds_self_of_lt (by simp; omega)]; rfl
 ·rw [if_neg hq, Array.getElem?_setIfInBounds_ne (by omega), Array.getElem?_setIfInBounds_ne (by omega), Array.getElem?_setIfInBounds_ne (by omega)]
theorem own_cells3 {w : World} {B : Nat} {e : TypeId} {n : Nat} {a : Option Addr} {cap : Nat} {xs : List Nk} (h : w.ownsRow B e 3 (.slice a n cap) n (flatN xs)) (hn : 0 < n) : ∃ g, a = some ⟨g, 0, none⟩ ∧ B ≤ g ∧ ∃ cur, w.heap[g]? = some (.cells cur e (0, 0)) ∧ n * 3 ≤ cur.size ∧ (cur.toList.take (n * 3) = flatN xs) ∧ ∀ i (hi : i < xs.length), w.cell? ⟨g, i * 3, none⟩ = some (.int .i64 xs[i].op) ∧ w.cell? ⟨g, i * 3 + 1, none⟩ = some (.slice xs[i].ca xs[i].cn xs[i].cc) ∧ w.cell? ⟨g, i * 3 + 2, none⟩ = some (.slice xs[i].pa xs[i].pn xs[i].pc) := by
 rcases h.2 with ⟨hv, h0⟩ | ⟨g, cap', cur, hv, hb, hg, hnc, hm, hs, ht⟩
 ·omega
 ·cases hv
  have hle : n * 3 ≤ cur.size := by rw [hs]; exact Nat.mul_le_mul_right 3 hnc
  refine ⟨g, rfl, hb, cur, hg, hle, ht, fun i hi => ?_⟩
  have hxl : xs.length * 3 = n * 3 := by rw [← flatN_len]; exact h.1
  have key : ∀ j, j < 3 → w.cell? ⟨g, i * 3 + j, none⟩ = xs[i].vals[j]? := by
   intro j hj
   have h2 := flatN_get xs i j hj
   rw [← ht, List.getElem?_take, if_pos (by omega), List.getElem?_eq_getElem hi] at h2
   rw [cell_of_row w g _ _ _ _ hg]
   simpa using h2
  exact ⟨key 0 (by omega), key 1 (by omega), key 2 (by omega)⟩
theorem own_set3 {w : World} {B : Nat} {e : TypeId} {n : Nat} {g cap : Nat} {xs : List Nk} (h : w.ownsRow B e 3 (.slice (some ⟨g, 0, none⟩) n cap) n (flatN xs)) (i : Nat) (hi : i < xs.length) (x : Nk) : (F3 w g (i * 3) x).ownsRow B e 3 (.slice (some ⟨g, 0, none⟩) n cap) n (flatN (xs.set i x)) := by
 refine ⟨by rw [flatN_len, List.length_set, ← flatN_len]; exact h.1, ?_⟩
 rcases h.2 with ⟨hv, h0⟩ | ⟨g', cap', cur, hv, hb, hg, hnc, hm, hs, ht⟩
 ·cases hv
 ·cases hv
  have hle : n * 3 ≤ cur.size := by rw [hs]; exact Nat.mul_le_mul_right 3 hnc
  have hxl : xs.length * 3 = n * 3 := by rw [← flatN_len]; exact h.1
  refine .inr ⟨g, cap, A3 cur (i * 3) x, rfl, hb, f3_heap _ _ hg, hnc, hm, by rw [a3_size]; exact hs, ?_⟩
  apply List.ext_getElem?
  intro q
  obtain ⟨p, j, hj, rfl⟩ : ∃ p j, j < 3 ∧ q = p * 3 + j := ⟨q / 3, q % 3, Nat.mod_lt _ (by omega), by omega⟩
  rw [flatN_get _ p j hj, List.getElem?_take]
  have hold := flatN_get xs p j hj
  rw [← ht, List.getElem?_take] at hold
  by_cases hp : p < n
  ·rw [if_pos (by omega)] at hold ⊢
   rw [Array.getElem?_toList, a3_get cur (i * 3) x (by omega)]
   rw [Array.getElem?_toList] at hold
   by_cases hpi : p = i
   ·subst hpi
    rw [if_pos (by omega), List.getElem?_set_self hi]
    show _ = x.vals[j]?
    congr 1
    omega
   ·rw [if_neg (by omega), List.getElem?_set_ne (fun e => hpi e.symm)]
    exact hold
  ·rw [if_neg (by omega), List.getElem?_eq_none (by simp; omega)]
   rfl

set_option maxHeartbeats 4000000 in
theorem revN_any (xs : List Nk) (v : Value) (B : Nat) (w : World) (ho : w.ownsRow B 46 3 v xs.length (flatN xs)) (hm : xs.length ≤ 9223372036854775806) :
 Calls Tryd.prog 48 #[v] w fun e w' => e = .returned (.tuple #[]) ∧ w.grownBy w' v.ownBlock ∧ w'.ownsRow B 46 3 v xs.length (flatN xs.reverse) := by
 obtain ⟨a, cap, rfl⟩ := own_sl1 ho
 obtain ⟨N, hN⟩ : ∃ N, N = xs.length := ⟨_, rfl⟩
 have hNi : (N : Int) ≤ 9223372036854775806 := by omega
 rw [← hN]
 rw [← hN] at ho
 have HO : Hid (w.ownsRow B 46 3 (.slice a N cap) N (flatN xs)) := ho
 have HN : Hid (N = xs.length) := hN
 clear ho hm hN
 go_enter Tryd.func48, Tryd.ntmps48
 go_wp2
 go_loopw [2, 3] (fun x2 x3 wr => ∃ i : Nat, x2 = .int .i64 i ∧ x3 = .int .i64 ((N : Int) - 1 - i) ∧ 2 * i ≤ N ∧ ∃ ys : List Nk, ys.length = N ∧ (∀ p, p < N → ys.getD p Nk.zero = if p < i ∨ N - i ≤ p then xs.getD (N - 1 - p) Nk.zero else xs.getD p Nk.zero) ∧ wr.ownsRow B 46 3 (.slice a N cap) N (flatN ys) ∧ w.grownBy wr (Value.slice a N cap).ownBlock) (fun x2 _ _ => N - (intOf x2).toNat)
 case atStart => exact ⟨0, rfl, by go_num, by omega, xs, HN.out.symm, fun p hp => by rw [if_neg (by omega)], HO.out, ⟨rfl, rfl, rfl, Nat.le_refl _, fun _ _ _ => rfl⟩⟩
 case round =>
  obtain ⟨i, hx2, hx3, hi, ys, hyl, hy, hown, hgr⟩ := hrel
  subst hx2
  subst hx3
  have HY : Hid (∀ p, p < N → ys.getD p Nk.zero = if p < i ∨ N - i ≤ p then xs.getD (N - 1 - p) Nk.zero else xs.getD p Nk.zero) := hy
  have HYL : Hid (ys.length = N) := hyl
  have HOW : Hid (wr.ownsRow B 46 3 (.slice a N cap) N (flatN ys)) := hown
  have HGR : Hid (w.grownBy wr (Value.slice a N cap).ownBlock) := hgr
  clear hyl hy hgr
  by_cases hlt : (i : Int) < (N : Int) - 1 - i
  ·obtain ⟨g, rfl, hBg, cur, hg, hsz, htk, hlc⟩ := own_cells3 hown (by omega)
   obtain ⟨j, hj⟩ : ∃ j : Nat, (j : Int) = (N : Int) - 1 - i := ⟨N - 1 - i, by omega⟩
   have hjN : j < N := by omega
   have hiN : i < N := by omega
   have hij : i < j := by omega
   rw [← hj] at hlt ⊢
   have HJ : Hid (j = N - 1 - i) := by show j = N - 1 - i; omega
   clear hj
   obtain ⟨yi, hyi⟩ : ∃ yi, yi = ys.getD i Nk.zero := ⟨_, rfl⟩
   obtain ⟨yj, hyj⟩ : ∃ yj, yj = ys.getD j Nk.zero := ⟨_, rfl⟩
   have hyi2 : ys[i]'(by rw [HYL.out]; exact hiN) = yi := by rw [hyi]; simp [HYL.out, hiN]
   have hyj2 : ys[j]'(by rw [HYL.out]; exact hjN) = yj := by rw [hyj]; simp [HYL.out, hjN]
   obtain ⟨i0, i1, i2⟩ := hlc i (by rw [HYL.out]; exact hiN)
   obtain ⟨j0, j1, j2⟩ := hlc j (by rw [HYL.out]; exact hjN)
   rw [hyi2] at i0 i1 i2
   rw [hyj2] at j0 j1 j2
   have HFZ : ∀ q, wr.frozen? ⟨g, q, none⟩ = false := fun q => Lib.frozen_of_heap hg _
   have fi0 := HFZ (i * 3)
   have fi1 := HFZ (i * 3 + 1)
   have fi2 := HFZ (i * 3 + 2)
   have fj0 := HFZ (j * 3)
   have fj1 := HFZ (j * 3 + 1)
   have fj2 := HFZ (j * 3 + 2)
   have hapart : i * 3 + 3 ≤ j * 3 := by omega
   have HNEW : Hid (∃ zs : List Nk, zs.length = N ∧ (∀ p, p < N → zs.getD p Nk.zero = if p < i + 1 ∨ N - (i + 1) ≤ p then xs.getD (N - 1 - p) Nk.zero else xs.getD p Nk.zero) ∧ (F3 (F3 wr g (i * 3) yj) g (j * 3) yi).drew.ownsRow B 46 3 (.slice (some ⟨g, 0, none⟩) N cap) N (flatN zs) ∧ w.grownBy (F3 (F3 wr g (i * 3) yj) g (j * 3) yi).drew (Value.slice (some ⟨g, 0, none⟩) N cap).ownBlock) := by
    refine ⟨(ys.set i yj).set j yi, by simp [HYL.out], fun p hp => ?_, ?_, ?_⟩
    ·rw [List.getD_eq_getElem?_getD]
     have hyl := HYL.out
     have hjj := HJ.out
     by_cases h1 : p = j
     ·subst h1
      rw [List.getElem?_set_self (by simp; omega), if_pos (by omega)]
      show yi = _
      rw [hyi, HY.out i hiN, if_neg (by omega), show N - 1 - p = i by omega]
     ·rw [List.getElem?_set_ne (fun e => h1 e.symm)]
      by_cases h2 : p = i
      ·subst h2
       rw [List.getElem?_set_self (by omega), if_pos (by omega)]
       show yj = _
       rw [hyj, HY.out j hjN, if_neg (by omega), hjj]
      ·rw [List.getElem?_set_ne (fun e => h2 e.symm), ← List.getD_eq_getElem?_getD, HY.out p hp]
       by_cases h3 : p < i ∨ N - i ≤ p
       ·rw [if_pos h3, if_pos (by omega)]
       ·rw [if_neg h3, if_neg (by omega)]
    ·exact own_later5 (own_set3 (own_set3 HOW.out i (by rw [HYL.out]; exact hiN) _) j (by rw [List.length_set, HYL.out]; exact hjN) _) (Below.refl _ _).drew
    ·exact grown_all HGR.out (grown_all (grown_all (f3_grown wr g _ _) (f3_grown _ g _ _)) (grown_drew3 _ _))
   clear hown hg hsz htk hlc hyi hyj hyi2 hyj2 HY HYL HOW HGR HFZ
   go_wp2_with fail
   go_region
   go_wp2
   go_roundw
   case rel =>
    have hj1 := HJ.out
    refine ⟨i + 1, by go_num, ?_, by omega, HNEW.out⟩
    congr 1
    omega
   case measure => simp [intOf]; omega
  ·have HFIN : Hid (w.grownBy wr (Value.slice a N cap).ownBlock ∧ wr.ownsRow B 46 3 (.slice a N cap) N (flatN xs.reverse)) := by
    refine ⟨HGR.out, ?_⟩
    have : ys = xs.reverse := by
     apply List.ext_getElem
     ·rw [List.length_reverse, HYL.out, HN.out]
     ·intro p h1 h2
      have h3 := HY.out p (by rw [← HYL.out]; exact h1)
      have h4 := HN.out
      have h5 := HYL.out
      rw [List.getElem_reverse]
      rw [List.getD_eq_getElem?_getD, List.getElem?_eq_getElem h1] at h3
      by_cases hc : p < i ∨ N - i ≤ p
      ·rw [if_pos hc, List.getD_eq_getElem?_getD, List.getElem?_eq_getElem (by omega)] at h3
       simp only [Option.getD_some] at h3
       rw [h3]
       congr 1
       omega
      ·rw [if_neg hc, List.getD_eq_getElem?_getD, List.getElem?_eq_getElem (by omega)] at h3
       simp only [Option.getD_some] at h3
       rw [h3]
       congr 1
       omega
    rw [← this]
    exact HOW.out
   clear hown HY HYL HOW HGR
   go_wp2
   go_end0
   exact ⟨rfl, HFIN.out⟩
theorem info_Nd3 : (Tryd.prog.info? 46).map (fun i => (i.zero, i.size, i.bytes)) = some (some (.agg #[.int .i64 0, .slice none 0 0, .slice none 0 0]), 3, 56) := by kernel_rfl
theorem one_flatN (xs : List Nk) : ∀ u ∈ flatN xs, u.oneCell' = true := by
 intro u hu
 obtain ⟨x, _, hx⟩ := List.mem_flatMap.1 hu
 simp only [Nk.vals, List.mem_cons, List.not_mem_nil, or_false] at hx
 rcases hx with rfl | rfl | rfl <;> rfl
set_option maxHeartbeats 1000000 in
theorem cloneN_any (xs : List Nk) (a : Option Addr) (len cap : Nat) (w : World) (hlen : xs.length = len) (hnone : a = none → len = 0) (hnews : ∀ b, a = some b → ∀ j u, (flatN xs)[j]? = some u → w.cell? (b.add j) = some u) (hl : len ≤ 100000) :
 Calls Tryd.prog 47 #[.slice a len cap] w fun e w' => ∃ v, e = .returned v ∧ w'.ownsRow w.heap.size 46 3 v len (flatN xs) ∧ Below w.heap.size w w' := by
 have q22 : ∀ (w : World) (a : Option Addr) (n c n' c' : Nat), (binOp .eql 44 (.slice a n c) (.slice none n' c')).run Tryd.prog w = .ok (.bool a.isNone) w := fun w a n c n' c' => Lib.run_eql_slice_nil w _ _ a n c n' c' Tryd.underlying44
 cases a with
 | none =>
   have h0 := hnone rfl
   subst h0
   have hr : xs = [] := List.eq_nil_of_length_eq_zero (by omega)
   subst hr
   clear hnone hnews hlen hl
   go_enter Tryd.func47, Tryd.ntmps47
   go_wp2
   go_ret
   exact ⟨_, rfl, World.ownsRow_nil _ _ _ _, Below.refl _ _⟩
 | some x =>
   obtain ⟨i0, hi, hz0, hz1, hz2⟩ := info_parts info_Nd3
   have HI : Hid (Tryd.prog.info? 46 = some i0 ∧ i0.zero = some (.agg #[.int .i64 0, .slice none 0 0, .slice none 0 0]) ∧ i0.size = 3 ∧ i0.bytes = 56) := ⟨hi, hz0, hz1, hz2⟩
   have hown0 : (w.alloc (.cells #[] 46)).ownsRow w.heap.size 46 3 (.slice (some ⟨w.heap.size, 0, none⟩) 0 0) 0 [] := World.ownsRow_made w #[] 0 (Nat.le_refl _) (by simp [maxLen]) rfl
   have HO : Hid ((w.alloc (.cells #[] 46)).ownsRow w.heap.size 46 3 (.slice (some ⟨w.heap.size, 0, none⟩) 0 0) 0 []) := hown0
   have HR : Hid ((flatN xs).length = len * 3 ∧ (∀ j u, (flatN xs)[j]? = some u → (w.alloc (.cells #[] 46)).cell? (x.add j) = some u) ∧ ∀ u ∈ flatN xs, u.oneCell' = true) := ⟨by rw [flatN_len, hlen], fun j u hu => upC ((Below.refl _ w).alloc (Nat.le_refl _) _) (hnews x rfl j u hu), one_flatN xs⟩
   have HFIN : Hid (∀ v' w', w'.ownsRow w.heap.size 46 3 v' (0 + len) ([] ++ flatN xs) → (w.alloc (.cells #[] 46)).grownBy w' (some w.heap.size) → ∃ v, Ending.returned v' = .returned v ∧ w'.ownsRow w.heap.size 46 3 v len (flatN xs) ∧ Below w.heap.size w w') := by
    intro v' w' h1 h2
    refine ⟨v', rfl, by rw [Nat.zero_add, List.nil_append] at h1; exact h1, ?_⟩
    exact ((Below.refl _ w).alloc (Nat.le_refl _) _).grown h2 (by simp) (fun k hk => by cases hk; exact Nat.le_refl _)
   have HLL : Hid (len ≤ 100000) := hl
   clear hi hz0 hz1 hz2 hown0 hnews hnone hlen hl
   go_enter Tryd.func47, Tryd.ntmps47
   go_wp2_with (at_builtin; refine wpList_append_own _ rfl _ _ 44 rfl w.heap.size 46 i0 _ 3 56 Tryd.underlying44 HI.out.1 HI.out.2.1 HI.out.2.2.1 HI.out.2.2.2 rfl (by decide) _ 0 [] rfl HO.out x len cap (flatN xs) rfl HR.out.1 HR.out.2.1 HR.out.2.2 (by have := HLL.out; unfold maxLen; omega) (by have := HLL.out; omega) (by simp) (fun v' w' h1 h2 _ => ?_); have HF := HFIN.out v' w' h1 h2; have HFF : Hid _ := HF; clear HF h1 h2)
   go_ret
   exact HFF.out
end Go.Proofs.YtcafffohnokjgaaDoor

/- The walks of rightCount, rightClasses, rightNode and Right. -/
namespace Go.Proofs.YtcafffohnokjgaaDoor
open Go.RowKit
set_option linter.unusedVariables false
set_option linter.unusedSimpArgs false

theorem rc_any (op : Int) (k : Nat) (w : World) (hk : (k : Int) ≤ 2600000000000) : Calls Tryd.prog 44 #[.int .i64 op, .int .i64 (k : Int)] w fun e w' => e = .returned (.bool (rcB op k)) ∧ w' = w := by
 have e0 : decide (k = 0) = ((k : Int) == 0) := by rw [Bool.eq_iff_iff]; simp
 have e1 : decide (k = 1) = ((k : Int) == 1) := by rw [Bool.eq_iff_iff]; simp; omega
 have w1 : IntKind.i64.wrap ((k : Int) - 1) = (k : Int) - 1 := by rw [IntKind.wrap_i64]; omega
 have e2 : (((k : Int) - 1) == 0) = ((k : Int) == 1) := by rw [Bool.eq_iff_iff]; simp; omega
 by_cases h0 : op = 0
 ·subst h0
  rw [show rcB 0 k = ((k : Int) == 0) by rw [← e0]; rfl]
  clear e0 e1 e2
  go_enter Tryd.func44, Tryd.ntmps44
  go_wp2
  go_ret
  exact ⟨rfl, rfl⟩
 by_cases h1 : op = 1
 ·subst h1
  rw [show rcB 1 k = ((k : Int) == 0) by rw [← e0]; rfl]
  clear e0 e1 e2
  go_enter Tryd.func44, Tryd.ntmps44
  go_wp2
  go_ret
  exact ⟨rfl, rfl⟩
 by_cases h2 : op = 2
 ·subst h2
  clear e0 e1 e2
  go_enter Tryd.func44, Tryd.ntmps44
  go_wp2
  go_ret
  exact ⟨rfl, rfl⟩
 by_cases h3 : op = 3
 ·subst h3
  clear e0 e1 e2
  go_enter Tryd.func44, Tryd.ntmps44
  go_wp2
  go_ret
  exact ⟨rfl, rfl⟩
 obtain ⟨b, hb⟩ : ∃ b, b = ((k : Int) == 1) := ⟨_, rfl⟩
 by_cases h4 : op = 4
 ·subst h4
  rw [show rcB 4 k = ((k : Int) == 1) by rw [← e1]; rfl]
  rw [← hb] at e2 ⊢
  have hb' := hb.symm
  clear e0 e1 hb
  go_enter Tryd.func44, Tryd.ntmps44
  go_wp2
  go_ret
  exact ⟨by simp_all, rfl⟩
 by_cases h5 : op = 5
 ·subst h5
  rw [show rcB 5 k = ((k : Int) == 1) by rw [← e1]; rfl]
  rw [← hb] at e2 ⊢
  have hb' := hb.symm
  clear e0 e1 hb
  go_enter Tryd.func44, Tryd.ntmps44
  go_wp2
  go_ret
  exact ⟨by simp_all, rfl⟩
 ·rw [show rcB op k = false by unfold rcB; simp [h0, h1, h2, h3, h4, h5]]
  clear e0 e1 e2 hb
  go_enter Tryd.func44, Tryd.ntmps44
  go_wp2
  go_ret
  exact ⟨rfl, rfl⟩
def lastI (l : List Int) : Int := l.foldl (fun _ x => x) (-1)
theorem lastI_snoc (l : List Int) (c : Int) : lastI (l ++ [c]) = c := by simp [lastI]
theorem risB_snoc : (l : List Int) → (a c : Int) → risB a (l ++ [c]) = (risB a l && decide (l.foldl (fun _ x => x) a < c) && decide (c < 24))
 | [], a, c => by simp only [List.nil_append, risB, Bool.and_true, Bool.true_and, List.foldl_nil]; rfl
 | x :: r, a, c => by
   have ih := risB_snoc r x c
   simp only [List.cons_append, risB, ih, Bool.and_assoc, List.foldl_cons]
   rfl
theorem risB_cut : (l m : List Int) → (a : Int) → risB a (l ++ m) = true → risB a l = true
 | [], _, _, _ => rfl
 | x :: r, m, a, h => by
   simp only [List.cons_append, risB, Bool.and_eq_true] at h ⊢
   exact ⟨h.1, risB_cut r m x h.2⟩
set_option maxHeartbeats 2000000 in
theorem rcl_any (op : Int) (cl : List Int) (ca pa : Option Addr) (cc pn pc : Nat) (w : World) (hrd : Rd .i64 w ca cl.length cl) (hm : cl.length ≤ 140737488355328) :
 Calls Tryd.prog 45 #[.agg #[.int .i64 op, .slice ca cl.length cc, .slice pa pn pc]] w fun e w' => e = .returned (.bool (rclB op cl)) ∧ Below w.heap.size w w' := by
 obtain ⟨n, hn⟩ : ∃ n, n = cl.length := ⟨_, rfl⟩
 have hni : (n : Int) ≤ 140737488355328 := by omega
 obtain ⟨wA, hwA⟩ : ∃ wA, wA = w.alloc (.cells #[.int .i64 op, .slice ca n cc, .slice pa pn pc] 46) := ⟨_, rfl⟩
 obtain ⟨H, hH⟩ : ∃ H, H = w.heap.size := ⟨_, rfl⟩
 have HB : Hid (Below w.heap.size w wA) := by rw [hwA]; exact (Below.refl _ w).alloc (Nat.le_refl _) _
 have hbx : wA.heap[H]? = some (.cells #[.int .i64 op, .slice ca n cc, .slice pa pn pc] 46) := by rw [hwA, hH]; exact heap_alloc_new w _
 have c0 : wA.cell? ⟨H, 0, none⟩ = some (.int .i64 op) := cell_of_row wA H 0 _ _ _ hbx
 have c1 : wA.cell? ⟨H, 1, none⟩ = some (.slice ca n cc) := cell_of_row wA H 1 _ _ _ hbx
 have HRD : Hid (Rd .i64 wA ca n cl) := by rw [hn]; exact hrd.later HB.out
 have HN : Hid (n = cl.length) := hn
 rw [← hn]
 by_cases h1 : op = 1
 ·subst h1
  rw [show rclB 1 cl = risB (-1) cl from rfl]
  obtain ⟨R, hR⟩ : ∃ R, R = risB (-1) cl := ⟨_, rfl⟩
  have HR : Hid (R = risB (-1) cl) := hR
  rw [← hR]
  clear hR hrd hm hn hbx
  go_enter Tryd.func45, Tryd.ntmps45
  go_upto_region 1 with fail
  rw [← hH, ← hwA]
  clear hH hwA
  go_wp2
  go_loop [3, 16] (fun x3 x16 => ∃ k : Nat, k ≤ n ∧ x16 = .int .i64 k ∧ x3 = .int .i64 (lastI (cl.take k)) ∧ risB (-1) (cl.take k) = true) (fun _ x16 => n - (intOf x16).toNat)
  case atStart => exact ⟨0, by omega, rfl, rfl, rfl⟩
  case round =>
   obtain ⟨k, hk, hx16, hx3, hr⟩ := hrel
   subst hx16 hx3
   have HRI : Hid (risB (-1) (cl.take k) = true) := hr
   clear hr
   by_cases hlt : k < n
   ·have hkl : k < cl.length := by rw [← HN.out]; exact hlt
    obtain ⟨b, off, rfl, hcl⟩ := HRD.out.2 (by omega)
    have hcc := hcl k hlt
    obtain ⟨x, hx⟩ : ∃ x, x = cl.getD k 0 := ⟨_, rfl⟩
    have hxk : x = cl[k] := by rw [hx]; simp [hkl]
    obtain ⟨y, hy⟩ : ∃ y, y = lastI (cl.take k) := ⟨_, rfl⟩
    have hsn : risB (-1) (cl.take (k + 1)) = (risB (-1) (cl.take k) && decide (y < x) && decide (x < 24)) := by
     rw [take_snoc cl k hkl, risB_snoc, hy, hxk]; rfl
    have HY : Hid (x = lastI (cl.take (k + 1))) := by
     show _ = _
     rw [take_snoc cl k hkl, lastI_snoc, hxk]
    rw [← hx] at hcc
    rw [← hy]
    rw [HRI.out, Bool.true_and] at hsn
    clear hcl hx hxk hy
    by_cases h2 : x ≤ y
    ·have hR : R = false := by
      rw [HR.out]
      cases hh : risB (-1) cl with
      | false => rfl
      | true =>
        have := risB_cut (cl.take (k + 1)) (cl.drop (k + 1)) (-1) (by rw [List.take_append_drop]; exact hh)
        rw [hsn, decide_eq_false (by omega : ¬ y < x)] at this
        cases this
     subst hR
     clear hsn
     go_wp2
     go_ret
     exact ⟨rfl, HB.out⟩
    ·by_cases h3 : x < 24
     ·have HNX : Hid (risB (-1) (cl.take (k + 1)) = true) := by
       show _ = _
       rw [hsn]; simp; omega
      have h2' : y < x := by omega
      clear hsn h2
      go_wp2
      go_round
      case rel => exact ⟨k + 1, by omega, by go_num, by rw [← HY.out], HNX.out⟩
      case measure => simp [intOf]; omega
     ·have hR : R = false := by
       rw [HR.out]
       cases hh : risB (-1) cl with
       | false => rfl
       | true =>
         have := risB_cut (cl.take (k + 1)) (cl.drop (k + 1)) (-1) (by rw [List.take_append_drop]; exact hh)
         rw [hsn, decide_eq_false h3, Bool.and_false] at this
         cases this
      subst hR
      have h2' : y < x := by omega
      have h3' : 24 ≤ x := by omega
      clear hsn h2 h3
      go_wp2
      go_ret
      exact ⟨rfl, HB.out⟩
   ·have hR : R = true := by
     rw [HR.out, ← HRI.out, List.take_of_length_le (by rw [← HN.out]; omega)]
    subst hR
    go_wp2
    go_ret
    exact ⟨rfl, HB.out⟩
 ·have hr : rclB op cl = ((n : Int) == 0) := by unfold rclB; rw [if_neg h1, Bool.eq_iff_iff]; simp only [decide_eq_true_eq, beq_iff_eq]; omega
  rw [hr]
  clear hr hrd hm hn hbx
  go_enter Tryd.func45, Tryd.ntmps45
  go_upto_region 1 with fail
  rw [← hH, ← hwA]
  clear hH hwA
  go_wp2
  go_ret
  exact ⟨rfl, HB.out⟩
def RnPost (d : Nat) (n : Nd) (c bn : Nat) (w : World) (e : Ending) (w' : World) : Prop :=
 ∃ (b : Bool) (c' : Nat), e = .returned (.bool b) ∧ w.grownBy w' (some bn) ∧ w'.heap[bn]? = some (.cells #[nI c'] 3) ∧ c' ≤ c ∧ (b = true ↔ (okN d n = true ∧ n.cnt ≤ c)) ∧ (b = true → c' + n.cnt = c)
def RnC (d : Nat) : Prop := ∀ (D : Nat) (n : Nd) (ca pa : Option Addr) (cc pc c bn : Nat) (w0 w : World), InV w0.heap.size w0 D n [.int .i64 n.op, .slice ca n.cl.length cc, .slice pa (toL n.kids).length pc] → Below w0.heap.size w0 w → w0.heap.size ≤ bn → w.heap[bn]? = some (.cells #[nI c] 3) → c ≤ 1000 →
 Calls Tryd.prog 31 #[.agg #[.int .i64 n.op, .slice ca n.cl.length cc, .slice pa (toL n.kids).length pc], .int .i64 (d : Int), .pointer (some ⟨bn, 0, none⟩)] w (RnPost d n c bn w)
set_option maxHeartbeats 8000000 in
theorem rn_up (d : Nat) (hd : d ≤ 1000) (HP : RnC d) : RnC (d + 1) := by
 intro D n ca pa cc pc c bn w0 w hin hb0 hbn hbc hc
 have HPC : Hid (RnC d) := HP
 have HIN : Hid (InV w0.heap.size w0 D n [.int .i64 n.op, .slice ca n.cl.length cc, .slice pa (toL n.kids).length pc]) := hin
 have hbd := hin.bounds
 obtain ⟨hrd, hcl⟩ := hin.classes
 obtain ⟨op, hop⟩ : ∃ op, op = n.op := ⟨_, rfl⟩
 obtain ⟨cn, hcn⟩ : ∃ cn, cn = n.cl.length := ⟨_, rfl⟩
 obtain ⟨K, hK⟩ : ∃ K, K = (toL n.kids).length := ⟨_, rfl⟩
 have HCNT : Hid (n.cnt = 1 + cntL (toL n.kids)) := cnt_eq n
 obtain ⟨T, hT⟩ : ∃ T : Int, T = ((d + 1 : Nat) : Int) := ⟨_, rfl⟩
 have hTb : (T == 0) = false := by rw [beq_eq_false_iff_ne]; omega
 have hT0 : ¬ T = 0 := by omega
 have hTw : IntKind.i64.wrap (T - 1) = T - 1 := by rw [IntKind.wrap_i64]; omega
 have HT : Hid (T - 1 = (d : Int)) := by show _ = _; omega
 have hKi : (K : Int) ≤ 2600000000000 := by omega
 obtain ⟨wA, hwA⟩ : ∃ wA, wA = w.alloc (.cells #[.int .i64 op, .slice ca cn cc, .slice pa K pc] 46) := ⟨_, rfl⟩
 obtain ⟨H, hH⟩ : ∃ H, H = w.heap.size := ⟨_, rfl⟩
 have HB : Hid (Below w.heap.size w wA) := by rw [hwA]; exact (Below.refl _ w).alloc (Nat.le_refl _) _
 have HA0 : Hid (Below w0.heap.size w0 wA) := hb0.trans (HB.out.mono hb0.size)
 have hbx : wA.heap[H]? = some (.cells #[.int .i64 op, .slice ca cn cc, .slice pa K pc] 46) := by rw [hwA, hH]; exact heap_alloc_new w _
 have HBX : Hid (wA.heap[H]? = some (.cells #[.int .i64 op, .slice ca cn cc, .slice pa K pc] 46)) := hbx
 have hbcA : wA.heap[bn]? = some (.cells #[nI c] 3) := (HB.out.block bn (Array.getElem?_eq_some_iff.1 hbc).1).trans hbc
 have HBC : Hid (wA.heap[bn]? = some (.cells #[nI c] 3)) := hbcA
 have hbl : bn < w.heap.size := (Array.getElem?_eq_some_iff.1 hbc).1
 have HG0 : Hid (w.grownBy wA (some bn)) := ⟨HB.out.os, HB.out.tape, HB.out.output, HB.out.size, fun k hk _ => HB.out.block k hk⟩
 have HFALSE : Hid (∀ V : World, w.grownBy V (some bn) → V.heap[bn]? = some (.cells #[nI c] 3) → ¬ (okN (d + 1) n = true ∧ n.cnt ≤ c) → RnPost (d + 1) n c bn w (.returned (.bool false)) V) := fun V h1 h2 h3 => ⟨false, c, rfl, h1, h2, Nat.le_refl _, ⟨fun h => (by cases h), fun h => absurd h h3⟩, fun h => (by cases h)⟩
 have hOK : okN (d + 1) n = (rcB n.op (toL n.kids).length && rclB n.op n.cl && (toL n.kids).all (okN d)) := rfl
 have e0 : wA.cell? ⟨H, 0, none⟩ = some (.int .i64 op) := cell_of_row wA H 0 _ _ _ hbx
 have e1 : wA.cell? ⟨H, 1, none⟩ = some (.slice ca cn cc) := cell_of_row wA H 1 _ _ _ hbx
 have e2 : wA.cell? ⟨H, 2, none⟩ = some (.slice pa K pc) := cell_of_row wA H 2 _ _ _ hbx
 have eb : wA.cell? ⟨bn, 0, none⟩ = some (.int .i64 (c : Int)) := cell_of_row wA bn 0 _ _ _ hbcA
 have HRC : Hid (Calls Tryd.prog 44 #[.int .i64 op, .int .i64 (K : Int)] wA fun e w' => e = .returned (.bool (rcB op K)) ∧ w' = wA) := rc_any op K wA hKi
 have HRL : Hid (Calls Tryd.prog 45 #[.agg #[.int .i64 op, .slice ca cn cc, .slice pa K pc]] wA fun e w' => e = .returned (.bool (rclB op n.cl)) ∧ Below wA.heap.size wA w') := by
  rw [hcn]; exact rcl_any op n.cl ca pa cc K pc wA (hrd.later HA0.out) hcl
 rw [← hop, ← hcn, ← hK, ← hT]
 rw [← hop, ← hK] at hOK
 have HOK : Hid (okN (d + 1) n = (rcB op K && rclB op n.cl && (toL n.kids).all (okN d))) := hOK
 have HK : Hid (K = (toL n.kids).length) := hK
 have HCN : Hid (1 ≤ n.cnt) := by rw [HCNT.out]; show 1 ≤ _; omega
 have hci : (c : Int) ≤ 1000 := by omega
 have HBB : Hid (w0.heap.size ≤ bn ∧ bn < w.heap.size ∧ H = w.heap.size ∧ Below w0.heap.size w0 w) := ⟨hbn, hbl, hH, hb0⟩
 clear HP hin hb0 hbn hbc hbd hrd hcl hop hcn hK hT hbx hbcA hbl hOK hc
 go_enter Tryd.func31, Tryd.ntmps31
 go_upto_region 1 with fail
 rw [← hH, ← hwA]
 clear hH hwA
 by_cases hc0 : c = 0
 ·have HFN : Hid (RnPost (d + 1) n c bn w (.returned (.bool false)) wA) := HFALSE.out wA HG0.out HBC.out (fun h => by have := h.2; have := HCN.out; omega)
  have hcb : ((c : Int) == 0) = true := by rw [hc0]; rfl
  have hci0 : (c : Int) = 0 := by omega
  subst hc0
  go_wp2
  go_ret
  exact HFN.out
 have hcb : ((c : Int) == 0) = false := by rw [beq_eq_false_iff_ne]; omega
 have hci0 : ¬ (c : Int) = 0 := by omega
 go_wp2_with fail
 refine HRC.out.mono ?_
 rintro e w1 ⟨rfl, hw1⟩
 obtain rfl : wA = w1 := hw1.symm
 clear HRC
 obtain ⟨x, hx⟩ : ∃ x, x = rcB op K := ⟨_, rfl⟩
 rw [← hx]
 rw [← hx] at HOK
 cases x with
 | false =>
   have HFN : Hid (RnPost (d + 1) n c bn w (.returned (.bool false)) wA) := HFALSE.out wA HG0.out HBC.out (fun h => by rw [HOK.out] at h; cases h.1)
   clear hx
   go_wp2
   go_ret
   exact HFN.out
 | true =>
   clear hx
   go_wp2_with fail
   refine HRL.out.mono ?_
   rintro e w1 ⟨rfl, hb1⟩
   obtain ⟨y, hy⟩ : ∃ y, y = rclB op n.cl := ⟨_, rfl⟩
   rw [← hy]
   rw [← hy] at HOK
   have HB1 : Hid (Below wA.heap.size wA w1) := hb1
   have HG1 : Hid (w.grownBy w1 (some bn)) := grown_all HG0.out ⟨hb1.os, hb1.tape, hb1.output, hb1.size, fun k hk _ => hb1.block k hk⟩
   have HBC1 : Hid (w1.heap[bn]? = some (.cells #[nI c] 3)) := (hb1.block bn (Array.getElem?_eq_some_iff.1 HBC.out).1).trans HBC.out
   have HBX1 : Hid (w1.heap[H]? = some (.cells #[.int .i64 op, .slice ca cn cc, .slice pa K pc] 46)) := (hb1.block H (Array.getElem?_eq_some_iff.1 HBX.out).1).trans HBX.out
   clear hb1 HRL e0 e1 e2 eb
   cases y with
   | false =>
     have HFN : Hid (RnPost (d + 1) n c bn w (.returned (.bool false)) w1) := HFALSE.out w1 HG1.out HBC1.out (fun h => by rw [HOK.out] at h; cases h.1)
     clear hy
     go_wp2
     go_ret
     exact HFN.out
   | true =>
     clear hy
     have eb : w1.cell? ⟨bn, 0, none⟩ = some (.int .i64 (c : Int)) := cell_of_row w1 bn 0 _ _ _ HBC1.out
     have ef : w1.frozen? ⟨bn, 0, none⟩ = false := Lib.frozen_of_heap HBC1.out 0
     obtain ⟨c1, hc1⟩ : ∃ c1 : Nat, c1 + 1 = c := ⟨c - 1, by omega⟩
     have hcw : IntKind.i64.wrap ((c : Int) - 1) = (c1 : Int) := by rw [IntKind.wrap_i64]; omega
     have hcs : (c : Int) - 1 = (c1 : Int) := by omega
     obtain ⟨w2, hw2⟩ : ∃ w2, w2 = w1.setCell ⟨bn, 0, none⟩ (.int .i64 (c1 : Int)) := ⟨_, rfl⟩
     have HB2 : Hid (w2.heap[bn]? = some (.cells #[nI c1] 3)) := by rw [hw2]; exact heap_setCell_same w1 bn 0 _ _ _ HBC1.out
     have HG12 : Hid (w1.grownBy w2 (some bn)) := by rw [hw2]; exact grown_cell w1 bn 0 _
     have HG2 : Hid (w.grownBy w2 (some bn)) := grown_all HG1.out HG12.out
     have hneH : bn ≠ H := by have := HBB.out; omega
     have HBX2 : Hid (w2.heap[H]? = some (.cells #[.int .i64 op, .slice ca cn cc, .slice pa K pc] 46)) := (HG12.out.block H (Array.getElem?_eq_some_iff.1 HBX1.out).1 (fun e => hneH (Option.some.inj e).symm)).trans HBX1.out
     have HC1 : Hid (c1 + 1 = c) := hc1
     clear hc1
     go_upto_region 4 with fail
     rw [← hw2]
     clear hw2 eb ef hcw hcs
     have f2 : w2.cell? ⟨H, 2, none⟩ = some (.slice pa K pc) := cell_of_row w2 H 2 _ _ _ HBX2.out
     go_wp2
     go_loopw [39] (fun x39 wr => ∃ k ck : Nat, k ≤ K ∧ x39 = .int .i64 k ∧ w.grownBy wr (some bn) ∧ wr.heap[bn]? = some (.cells #[nI ck] 3) ∧ ck + 1 + cntL ((toL n.kids).take k) = c ∧ ((toL n.kids).take k).all (okN d) = true) (fun x39 _ => K - (intOf x39).toNat)
     case atStart => exact ⟨0, c1, by omega, rfl, HG2.out, HB2.out, by have := HC1.out; simp [cntL]; omega, rfl⟩
     case round =>
      obtain ⟨k, ck, hk, hx39, hg, hbk, hck, hall⟩ := hrel
      subst hx39
      have HG : Hid (w.grownBy wr (some bn)) := hg
      have HBK : Hid (wr.heap[bn]? = some (.cells #[nI ck] 3)) := hbk
      have HCK : Hid (ck + 1 + cntL ((toL n.kids).take k) = c) := hck
      have HALL : Hid (((toL n.kids).take k).all (okN d) = true) := hall
      clear hg hbk hck hall f2
      by_cases hlt : k < K
      ·have hkn : k < (toL n.kids).length := by rw [← HK.out]; exact hlt
       have HW0 : Hid (Below w0.heap.size w0 wr) := by
        obtain ⟨q1, q2, q3, q4⟩ := HBB.out
        exact q4.grown HG.out q4.size (fun k hk => by cases hk; exact q1)
       obtain ⟨b, off, xa, xc, ya, yc, d', hpa, hkid, _, c0', c1', c2'⟩ := HIN.out.kid k hkn
       subst hpa
       have c0 := upC HW0.out c0'
       have c1 := upC HW0.out c1'
       have c2 := upC HW0.out c2'
       have HV : Hid (∀ W1 : World, Below wr.heap.size wr W1 → Calls Tryd.prog 31 #[.agg #[.int .i64 (toL n.kids)[k].op, .slice xa (toL n.kids)[k].cl.length xc, .slice ya (toL (toL n.kids)[k].kids).length yc], .int .i64 (T - 1), .pointer (some ⟨bn, 0, none⟩)] W1 (RnPost d (toL n.kids)[k] ck bn W1)) := by
        intro W1 hW1
        rw [HT.out]
        refine HPC.out d' (toL n.kids)[k] xa ya xc yc ck bn w0 W1 hkid (HW0.out.trans (hW1.mono HW0.out.size)) HBB.out.1 ((hW1.block bn (Array.getElem?_eq_some_iff.1 HBK.out).1).trans HBK.out) ?_
        have := HCK.out
        omega
       obtain ⟨xo, hxo⟩ : ∃ xo, xo = (toL n.kids)[k].op := ⟨_, rfl⟩
       obtain ⟨xn, hxn⟩ : ∃ xn, xn = (toL n.kids)[k].cl.length := ⟨_, rfl⟩
       obtain ⟨xk, hxk⟩ : ∃ xk, xk = (toL (toL n.kids)[k].kids).length := ⟨_, rfl⟩
       rw [← hxo] at c0 HV
       rw [← hxn] at c1 HV
       rw [← hxk] at c2 HV
       obtain ⟨W1, hW1⟩ : ∃ W1, W1 = wr.alloc (.cells #[.int .i64 xo, .slice xa xn xc, .slice ya xk yc] 46) := ⟨_, rfl⟩
       have HBW : Hid (Below wr.heap.size wr W1) := by rw [hW1]; exact (Below.refl _ wr).alloc (Nat.le_refl _) _
       have HCC := HV.out W1 HBW.out
       have HC : Hid (Calls Tryd.prog 31 #[.agg #[.int .i64 xo, .slice xa xn xc, .slice ya xk yc], .int .i64 (T - 1), .pointer (some ⟨bn, 0, none⟩)] W1 (RnPost d (toL n.kids)[k] ck bn W1)) := HCC
       clear HCC HV hkid c0' c1' c2' hxo hxn hxk
       go_wp2_with fail
       rw [← hW1]
       clear hW1 c0 c1 c2
       refine HC.out.mono ?_
       rintro e w3 ⟨b3, c3, rfl, hg3, hb3, hc3, hi3, ht3⟩
       have HG3 : Hid (w.grownBy w3 (some bn)) := grown_all (grown_all HG.out ⟨HBW.out.os, HBW.out.tape, HBW.out.output, HBW.out.size, fun k hk _ => HBW.out.block k hk⟩) hg3
       have HB3 : Hid (w3.heap[bn]? = some (.cells #[nI c3] 3)) := hb3
       have HI3 : Hid ((b3 = true ↔ (okN d (toL n.kids)[k] = true ∧ (toL n.kids)[k].cnt ≤ ck)) ∧ (b3 = true → c3 + (toL n.kids)[k].cnt = ck) ∧ c3 ≤ ck) := ⟨hi3, ht3, hc3⟩
       clear hg3 hb3 hc3 hi3 ht3 HC
       cases b3 with
       | false =>
         have HFN : Hid (RnPost (d + 1) n c bn w (.returned (.bool false)) w3) := by
          refine ⟨false, c3, rfl, HG3.out, HB3.out, by have := HI3.out.2.2; have := HCK.out; omega, ⟨fun h => (by cases h), fun h => ?_⟩, fun h => (by cases h)⟩
          exfalso
          have h1 := h.1
          rw [HOK.out] at h1
          simp only [Bool.true_and, List.all_eq_true] at h1
          have h2 := h1 _ (List.getElem_mem hkn)
          have h3 := cntL_take (toL n.kids) k hkn
          have h4 := HCNT.out
          have h5 := HCK.out
          have h6 := h.2
          have h7 := HI3.out.1.2 ⟨h2, by omega⟩
          cases h7
         go_wp2
         go_ret
         exact HFN.out
       | true =>
         have HNX : Hid (c3 + 1 + cntL ((toL n.kids).take (k + 1)) = c ∧ ((toL n.kids).take (k + 1)).all (okN d) = true) := by
          have h1 := HI3.out.2.1 rfl
          have h2 := HCK.out
          refine ⟨?_, ?_⟩
          ·rw [take_snoc _ k hkn, cntL_snoc]; omega
          ·rw [take_snoc _ k hkn, List.all_append, HALL.out]
           simp [(HI3.out.1.1 rfl).1]
         go_wp2
         go_roundw
         case rel => exact ⟨k + 1, c3, by omega, by go_num, HG3.out, HB3.out, HNX.out.1, HNX.out.2⟩
         case measure => simp [intOf]; omega
      ·obtain rfl : k = K := by omega
       have HFN : Hid (RnPost (d + 1) n c bn w (.returned (.bool true)) wr) := by
        have ht : (toL n.kids).take k = toL n.kids := List.take_of_length_le (by rw [← HK.out]; exact Nat.le_refl _)
        have h1 := HCK.out
        have h2 := HALL.out
        rw [ht] at h1 h2
        have h3 := HCNT.out
        refine ⟨true, ck, rfl, HG.out, HBK.out, by omega, ⟨fun _ => ⟨by rw [HOK.out, h2]; rfl, by omega⟩, fun _ => rfl⟩, fun _ => by omega⟩
       go_wp2
       go_ret
       exact HFN.out
theorem rn_zero : RnC 0 := by
 intro D n ca pa cc pc c bn w0 w hin hb0 hbn hbc hc
 have HFN : Hid (∀ V, Below w.heap.size w V → RnPost 0 n c bn w (.returned (.bool false)) V) := fun V hV => ⟨false, c, rfl, ⟨hV.os, hV.tape, hV.output, hV.size, fun k hk _ => hV.block k hk⟩, (hV.block bn (Array.getElem?_eq_some_iff.1 hbc).1).trans hbc, Nat.le_refl _, ⟨fun h => (by cases h), fun h => (by simp [okN] at h)⟩, fun h => (by cases h)⟩
 clear hin hb0 hbn hbc hc
 go_enter Tryd.func31, Tryd.ntmps31
 go_wp2
 go_ret
 exact HFN.out _ ((Below.refl _ w).alloc (Nat.le_refl _) _)
theorem rn_any : (d : Nat) → d ≤ 1000 → RnC d
 | 0, _ => rn_zero
 | d + 1, h => rn_up d (by omega) (rn_any d (by omega))
set_option maxHeartbeats 2000000 in
theorem right_any (D : Nat) (n : Nd) (ca pa : Option Addr) (cc pc : Nat) (w : World) (hin : InV w.heap.size w D n [.int .i64 n.op, .slice ca n.cl.length cc, .slice pa (toL n.kids).length pc]) :
 Calls Tryd.prog 23 #[.agg #[.int .i64 n.op, .slice ca n.cl.length cc, .slice pa (toL n.kids).length pc]] w fun e w' => e = .returned (.bool n.ok) ∧ Below w.heap.size w w' := by
 obtain ⟨op, hop⟩ : ∃ op, op = n.op := ⟨_, rfl⟩
 obtain ⟨cn, hcn⟩ : ∃ cn, cn = n.cl.length := ⟨_, rfl⟩
 obtain ⟨K, hK⟩ : ∃ K, K = (toL n.kids).length := ⟨_, rfl⟩
 obtain ⟨W0, hW0⟩ : ∃ W0, W0 = (w.alloc (.cells #[.int .i64 op, .slice ca cn cc, .slice pa K pc] 46)).alloc (.cells #[.int .i64 400] 3) := ⟨_, rfl⟩
 obtain ⟨H, hH⟩ : ∃ H, H = w.heap.size := ⟨_, rfl⟩
 have HB0 : Hid (Below w.heap.size w W0) := by rw [hW0]; exact ((Below.refl _ w).alloc (Nat.le_refl _) _).alloc (by simp) _
 have hax : W0.heap[H]? = some (.cells #[.int .i64 op, .slice ca cn cc, .slice pa K pc] 46) := by
  rw [hW0, hH]
  exact (((Below.refl _ (w.alloc _)).alloc (Nat.le_refl _) _).block w.heap.size (by simp)).trans (heap_alloc_new w _)
 have hbx : W0.heap[H + 1]? = some (.cells #[nI 400] 3) := by
  have := heap_alloc_new (w.alloc (.cells #[.int .i64 op, .slice ca cn cc, .slice pa K pc] 46)) (.cells #[.int .i64 400] 3)
  rw [show (w.alloc (.cells #[.int .i64 op, .slice ca cn cc, .slice pa K pc] 46)).heap.size = w.heap.size + 1 by simp] at this
  rw [hW0, hH]
  exact this
 have HC : Hid (Calls Tryd.prog 31 #[.agg #[.int .i64 op, .slice ca cn cc, .slice pa K pc], .int .i64 32, .pointer (some ⟨H + 1, 0, none⟩)] W0 (RnPost 32 n 400 (H + 1) W0)) := by
  rw [hop, hcn, hK]
  exact rn_any 32 (by omega) D n ca pa cc pc 400 (H + 1) w W0 hin HB0.out (by omega) hbx (by omega)
 have e0 : W0.cell? ⟨H, 0, none⟩ = some (.int .i64 op) := cell_of_row W0 H 0 _ _ _ hax
 have e1 : W0.cell? ⟨H, 1, none⟩ = some (.slice ca cn cc) := cell_of_row W0 H 1 _ _ _ hax
 have e2 : W0.cell? ⟨H, 2, none⟩ = some (.slice pa K pc) := cell_of_row W0 H 2 _ _ _ hax
 have HFIN : Hid (∀ (b : Bool) (w' : World), W0.grownBy w' (some (H + 1)) → Below w.heap.size w w') := fun b w' hg => HB0.out.grown hg HB0.out.size (fun k hk => by cases hk; omega)
 rw [← hop, ← hcn, ← hK]
 clear hin hop hcn hK hax hbx
 go_enter Tryd.func23, Tryd.ntmps23
 go_upto_region 2 with fail
 rw [← hH, ← hW0]
 clear hH hW0
 go_wp2_with fail
 refine HC.out.mono ?_
 rintro e w1 ⟨b, c', rfl, hg, _, _, hi, _⟩
 have HE : Hid (b = n.ok ∧ Below w.heap.size w w1) := ⟨by rw [Bool.eq_iff_iff, hi]; unfold Nd.ok; simp, HFIN.out b w1 hg⟩
 clear hg hi e0 e1 e2 HC
 go_wp2
 go_ret
 exact ⟨by rw [HE.out.1]; rfl, HE.out.2⟩
end Go.Proofs.YtcafffohnokjgaaDoor

/- The walk of below: are all classes of an expression below a number? -/
namespace Go.Proofs.YtcafffohnokjgaaDoor
open Go.RowKit
set_option linter.unusedVariables false
set_option linter.unusedSimpArgs false

def belF (K : Int) : Fo → Bool
 | .nil => true
 | .node _ _ a k r => (a.2.all (fun c => decide (c < K)) && belF K k) && belF K r
def Nd.bel (K : Int) (n : Nd) : Bool := n.cl.all (fun c => decide (c < K)) && belF K n.kids
theorem belF_all (K : Int) : (f : Fo) → belF K f = (toL f).all (Nd.bel K)
 | .nil => rfl
 | .node _ _ a k r => by simp only [belF, toL, List.all_cons, belF_all K r]; rfl
theorem bel_eq (K : Int) (n : Nd) : n.bel K = (n.cl.all (fun c => decide (c < K)) && (toL n.kids).all (Nd.bel K)) := by
 show (n.cl.all (fun c => decide (c < K)) && belF K n.kids) = _
 rw [belF_all]
def BlC (d : Nat) : Prop := ∀ (n : Nd) (ca pa : Option Addr) (cc pc : Nat) (C : Int) (w0 w : World), InV w0.heap.size w0 d n [.int .i64 n.op, .slice ca n.cl.length cc, .slice pa (toL n.kids).length pc] → Below w0.heap.size w0 w →
 Calls Tryd.prog 49 #[.agg #[.int .i64 n.op, .slice ca n.cl.length cc, .slice pa (toL n.kids).length pc], .int .i64 C] w fun e w' => e = .returned (.bool (n.bel C)) ∧ Below w.heap.size w w'
set_option maxHeartbeats 8000000 in
theorem bl_up (d : Nat) (HP : ∀ d', d' < d → BlC d') : BlC d := by
 intro n ca pa cc pc C w0 w hin hb0
 have HPC : Hid (∀ d', d' < d → BlC d') := HP
 have HIN : Hid (InV w0.heap.size w0 d n [.int .i64 n.op, .slice ca n.cl.length cc, .slice pa (toL n.kids).length pc]) := hin
 have hbd := hin.bounds
 obtain ⟨hrd, hcl⟩ := hin.classes
 obtain ⟨op, hop⟩ : ∃ op, op = n.op := ⟨_, rfl⟩
 obtain ⟨cn, hcn⟩ : ∃ cn, cn = n.cl.length := ⟨_, rfl⟩
 obtain ⟨K, hK⟩ : ∃ K, K = (toL n.kids).length := ⟨_, rfl⟩
 have hKi : (K : Int) ≤ 2600000000000 := by omega
 have hci : (cn : Int) ≤ 140737488355328 := by omega
 obtain ⟨wA, hwA⟩ : ∃ wA, wA = w.alloc (.cells #[.int .i64 op, .slice ca cn cc, .slice pa K pc] 46) := ⟨_, rfl⟩
 obtain ⟨H, hH⟩ : ∃ H, H = w.heap.size := ⟨_, rfl⟩
 have HB : Hid (Below w.heap.size w wA) := by rw [hwA]; exact (Below.refl _ w).alloc (Nat.le_refl _) _
 have HA0 : Hid (Below w0.heap.size w0 wA) := hb0.trans (HB.out.mono hb0.size)
 have hbx : wA.heap[H]? = some (.cells #[.int .i64 op, .slice ca cn cc, .slice pa K pc] 46) := by rw [hwA, hH]; exact heap_alloc_new w _
 have HBX : Hid (wA.heap[H]? = some (.cells #[.int .i64 op, .slice ca cn cc, .slice pa K pc] 46)) := hbx
 have e1 : wA.cell? ⟨H, 1, none⟩ = some (.slice ca cn cc) := cell_of_row wA H 1 _ _ _ hbx
 have e2 : wA.cell? ⟨H, 2, none⟩ = some (.slice pa K pc) := cell_of_row wA H 2 _ _ _ hbx
 have HRD : Hid (Rd .i64 wA ca cn n.cl) := by rw [hcn]; exact hrd.later HA0.out
 obtain ⟨R, hR⟩ : ∃ R, R = n.bel C := ⟨_, rfl⟩
 have HR : Hid (R = (n.cl.all (fun c => decide (c < C)) && (toL n.kids).all (Nd.bel C))) := by show _ = _; rw [hR, bel_eq]
 have HK : Hid (K = (toL n.kids).length) := hK
 have HCN : Hid (cn = n.cl.length) := hcn
 rw [← hop, ← hcn, ← hK, ← hR]
 clear HP hin hbd hrd hcl hop hcn hK hR hbx
 go_enter Tryd.func49, Tryd.ntmps49
 go_upto_region 1 with fail
 rw [← hH, ← hwA]
 clear hH hwA
 go_wp2
 go_loop [12] (fun x12 => ∃ k : Nat, k ≤ cn ∧ x12 = .int .i64 k ∧ (n.cl.take k).all (fun c => decide (c < C)) = true) (fun x12 => cn - (intOf x12).toNat)
 case atStart => exact ⟨0, by omega, rfl, rfl⟩
 case round =>
  obtain ⟨k, hk, hx12, hall⟩ := hrel
  subst hx12
  have HALL : Hid ((n.cl.take k).all (fun c => decide (c < C)) = true) := hall
  clear hall
  by_cases hlt : k < cn
  ·have hkl : k < n.cl.length := by rw [← HCN.out]; exact hlt
   obtain ⟨b, off, rfl, hcl⟩ := HRD.out.2 (by omega)
   have hcc := hcl k hlt
   obtain ⟨x, hx⟩ : ∃ x, x = n.cl.getD k 0 := ⟨_, rfl⟩
   have hxk : x = n.cl[k] := by rw [hx]; simp [hkl]
   rw [← hx] at hcc
   have HX : Hid (x = n.cl[k]) := hxk
   clear hcl hx hxk
   by_cases h2 : C ≤ x
   ·have hR : R = false := by
     rw [HR.out]
     have : n.cl.all (fun c => decide (c < C)) = false := by
      rw [List.all_eq_false]
      exact ⟨n.cl[k], List.getElem_mem hkl, by rw [← HX.out]; simp; omega⟩
     rw [this]; rfl
    subst hR
    go_wp2
    go_ret
    exact ⟨rfl, HB.out⟩
   ·have h2' : x < C := by omega
    have HNX : Hid ((n.cl.take (k + 1)).all (fun c => decide (c < C)) = true) := by
     show _ = _
     rw [take_snoc n.cl k hkl, List.all_append, HALL.out, ← HX.out]
     simp [h2']
    clear h2
    go_wp2
    go_round
    case rel => exact ⟨k + 1, by omega, by go_num, HNX.out⟩
    case measure => simp [intOf]; omega
  ·have HCL : Hid (n.cl.all (fun c => decide (c < C)) = true) := by
    show _ = _
    rw [← HALL.out, List.take_of_length_le (by rw [← HCN.out]; omega)]
   clear HALL
   go_wp2
   go_loopw [23] (fun x23 wr => ∃ k : Nat, k ≤ K ∧ x23 = .int .i64 k ∧ Below w.heap.size w wr ∧ ((toL n.kids).take k).all (Nd.bel C) = true) (fun x23 _ => K - (intOf x23).toNat)
   case atStart => exact ⟨0, by omega, rfl, HB.out, rfl⟩
   case round =>
    obtain ⟨k, hk, hx23, hbw, hall⟩ := hrel
    subst hx23
    have HBW0 : Hid (Below w.heap.size w wr) := hbw
    have HALL : Hid (((toL n.kids).take k).all (Nd.bel C) = true) := hall
    have HW0 : Hid (Below w0.heap.size w0 wr) := hb0.trans (hbw.mono hb0.size)
    clear hbw hall
    by_cases hlt : k < K
    ·have hkn : k < (toL n.kids).length := by rw [← HK.out]; exact hlt
     obtain ⟨b, off, xa, xc, ya, yc, d', hpa, hkid, hd', c0', c1', c2'⟩ := HIN.out.kid k hkn
     subst hpa
     have c0 := upC HW0.out c0'
     have c1 := upC HW0.out c1'
     have c2 := upC HW0.out c2'
     have HV : Hid (∀ W1 : World, Below wr.heap.size wr W1 → Calls Tryd.prog 49 #[.agg #[.int .i64 (toL n.kids)[k].op, .slice xa (toL n.kids)[k].cl.length xc, .slice ya (toL (toL n.kids)[k].kids).length yc], .int .i64 C] W1 fun e w' => e = .returned (.bool ((toL n.kids)[k].bel C)) ∧ Below W1.heap.size W1 w') := by
      intro W1 hW1
      exact HPC.out d' (by omega) (toL n.kids)[k] xa ya xc yc C w0 W1 hkid (HW0.out.trans (hW1.mono HW0.out.size))
     obtain ⟨xo, hxo⟩ : ∃ xo, xo = (toL n.kids)[k].op := ⟨_, rfl⟩
     obtain ⟨xn, hxn⟩ : ∃ xn, xn = (toL n.kids)[k].cl.length := ⟨_, rfl⟩
     obtain ⟨xk, hxk⟩ : ∃ xk, xk = (toL (toL n.kids)[k].kids).length := ⟨_, rfl⟩
     obtain ⟨z, hz⟩ : ∃ z, z = (toL n.kids)[k].bel C := ⟨_, rfl⟩
     rw [← hxo] at c0 HV
     rw [← hxn] at c1 HV
     rw [← hxk] at c2 HV
     rw [← hz] at HV
     have HZ : Hid (z = (toL n.kids)[k].bel C) := hz
     obtain ⟨W1, hW1⟩ : ∃ W1, W1 = wr.alloc (.cells #[.int .i64 xo, .slice xa xn xc, .slice ya xk yc] 46) := ⟨_, rfl⟩
     have HBW : Hid (Below wr.heap.size wr W1) := by rw [hW1]; exact (Below.refl _ wr).alloc (Nat.le_refl _) _
     have HCC := HV.out W1 HBW.out
     have HC : Hid (Calls Tryd.prog 49 #[.agg #[.int .i64 xo, .slice xa xn xc, .slice ya xk yc], .int .i64 C] W1 fun e w' => e = .returned (.bool z) ∧ Below W1.heap.size W1 w') := HCC
     clear HCC HV hkid c0' c1' c2' hxo hxn hxk hz hd'
     go_wp2_with fail
     rw [← hW1]
     clear hW1 c0 c1 c2
     refine HC.out.mono ?_
     rintro e w3 ⟨rfl, hb3⟩
     have HB3 : Hid (Below w.heap.size w w3) := HBW0.out.trans ((HBW.out.trans (hb3.mono HBW.out.size)).mono HBW0.out.size)
     clear hb3 HC
     cases z with
     | false =>
       have hR : R = false := by
        rw [HR.out]
        have : (toL n.kids).all (Nd.bel C) = false := by
         rw [List.all_eq_false]
         exact ⟨(toL n.kids)[k], List.getElem_mem hkn, by rw [← HZ.out]; simp⟩
        rw [this, Bool.and_false]
       subst hR
       go_wp2
       go_ret
       exact ⟨rfl, HB3.out⟩
     | true =>
       have HNX : Hid (((toL n.kids).take (k + 1)).all (Nd.bel C) = true) := by
        show _ = _
        rw [take_snoc _ k hkn, List.all_append, HALL.out]
        simp [← HZ.out]
       go_wp2
       go_roundw
       case rel => exact ⟨k + 1, by omega, by go_num, HB3.out, HNX.out⟩
       case measure => simp [intOf]; omega
    ·have hR : R = true := by
      have h1 := HALL.out
      rw [List.take_of_length_le (by rw [← HK.out]; omega)] at h1
      rw [HR.out, HCL.out, h1]; rfl
     subst hR
     go_wp2
     go_ret
     exact ⟨rfl, HBW0.out⟩
theorem bl_any : (d : Nat) → BlC d := fun d => Nat.strongRecOn d fun d ih => bl_up d ih
theorem below_any (D : Nat) (n : Nd) (ca pa : Option Addr) (cc pc : Nat) (C : Int) (w : World) (hin : InV w.heap.size w D n [.int .i64 n.op, .slice ca n.cl.length cc, .slice pa (toL n.kids).length pc]) :
 Calls Tryd.prog 49 #[.agg #[.int .i64 n.op, .slice ca n.cl.length cc, .slice pa (toL n.kids).length pc], .int .i64 C] w fun e w' => e = .returned (.bool (n.bel C)) ∧ Below w.heap.size w w' :=
 bl_any D n ca pa cc pc C w w hin (Below.refl _ w)
end Go.Proofs.YtcafffohnokjgaaDoor

/- The walk of allowed: may there be a machine of these? -/
namespace Go.Proofs.YtcafffohnokjgaaDoor
open Go.RowKit
set_option linter.unusedVariables false
set_option linter.unusedSimpArgs false

def XRow (B : Nat) (w : World) (D : Nat) (a : Option Addr) (xs : List (Nd × Bool)) : Prop := 0 < xs.length → ∃ b off, a = some ⟨b, off, none⟩ ∧ ∀ i (hi : i < xs.length), ∃ us, InV B w D xs[i].1 us ∧ (∀ j v, us[j]? = some v → w.cell? ⟨b, off + i * 4 + j, none⟩ = some v) ∧ w.cell? ⟨b, off + i * 4 + 3, none⟩ = some (.bool xs[i].2)
theorem XRow.later {B : Nat} {w w' : World} {D : Nat} {a : Option Addr} {xs : List (Nd × Bool)} (h : XRow B w D a xs) (hb : Below w.heap.size w w') : XRow B w' D a xs := by
 intro hp
 obtain ⟨b, off, e, hk⟩ := h hp
 refine ⟨b, off, e, fun i hi => ?_⟩
 obtain ⟨us, h1, h2, h3⟩ := hk i hi
 exact ⟨us, h1.later hb D, fun j v hv => upC hb (h2 j v hv), upC hb h3⟩
def alwB (K : Int) (xs : List (Nd × Bool)) : Bool := decide (1 ≤ K) && decide (K ≤ 24) && decide (xs.length ≤ 64) && xs.all (fun x => x.1.ok && x.1.bel K)
set_option maxHeartbeats 8000000 in
theorem allowed_any (D : Nat) (K : Int) (xs : List (Nd × Bool)) (a : Option Addr) (cap : Nat) (w : World) (hx : XRow w.heap.size w D a xs) (hl : xs.length ≤ 2600000000000) :
 Calls Tryd.prog 34 #[.int .i64 K, .slice a xs.length cap] w fun e w' => e = .returned (.bool (alwB K xs)) ∧ Below w.heap.size w w' := by
 obtain ⟨n, hn⟩ : ∃ n, n = xs.length := ⟨_, rfl⟩
 have HN : Hid (n = xs.length) := hn
 have HX : Hid (XRow w.heap.size w D a xs) := hx
 have hni : (n : Int) ≤ 2600000000000 := by omega
 obtain ⟨R, hR⟩ : ∃ R, R = alwB K xs := ⟨_, rfl⟩
 have HR : Hid (R = (decide (1 ≤ K) && decide (K ≤ 24) && decide (n ≤ 64) && xs.all (fun x => x.1.ok && x.1.bel K))) := by show _ = _; rw [hR, hn]; rfl
 rw [← hn, ← hR]
 clear hn hx hl hR
 by_cases h1 : K < 1
 ·have hR : R = false := by rw [HR.out, decide_eq_false (by omega : ¬ 1 ≤ K)]; rfl
  subst hR
  go_enter Tryd.func34, Tryd.ntmps34
  go_wp2
  go_ret
  exact ⟨rfl, Below.refl _ w⟩
 by_cases h2 : 24 < K
 ·have hR : R = false := by rw [HR.out, decide_eq_false (by omega : ¬ K ≤ 24)]; simp
  subst hR
  have h1' : 1 ≤ K := by omega
  clear h1
  go_enter Tryd.func34, Tryd.ntmps34
  go_wp2
  go_ret
  exact ⟨rfl, Below.refl _ w⟩
 have h1' : 1 ≤ K := by omega
 have h2' : K ≤ 24 := by omega
 clear h1 h2
 by_cases h3 : 64 < n
 ·have hR : R = false := by rw [HR.out, decide_eq_false (by omega : ¬ n ≤ 64)]; simp
  subst hR
  go_enter Tryd.func34, Tryd.ntmps34
  go_wp2
  go_ret
  exact ⟨rfl, Below.refl _ w⟩
 have h3' : n ≤ 64 := by omega
 have HR' : Hid (R = xs.all (fun x => x.1.ok && x.1.bel K)) := by show _ = _; rw [HR.out]; simp [h1', h2', h3']
 clear h3 HR
 go_enter Tryd.func34, Tryd.ntmps34
 go_wp2
 go_loopw [20] (fun x20 wr => ∃ k : Nat, k ≤ n ∧ x20 = .int .i64 k ∧ Below w.heap.size w wr ∧ (xs.take k).all (fun x => x.1.ok && x.1.bel K) = true) (fun x20 _ => n - (intOf x20).toNat)
 case atStart => exact ⟨0, by omega, rfl, Below.refl _ w, rfl⟩
 case round =>
  obtain ⟨k, hk, hx20, hbw, hall⟩ := hrel
  subst hx20
  have HBW0 : Hid (Below w.heap.size w wr) := hbw
  have HALL : Hid ((xs.take k).all (fun x => x.1.ok && x.1.bel K) = true) := hall
  clear hbw hall
  by_cases hlt : k < n
  ·have hkn : k < xs.length := by rw [← HN.out]; exact hlt
   obtain ⟨b, off, hpa, hks⟩ := HX.out (by omega)
   obtain ⟨us, hin, hcs, hcb⟩ := hks k hkn
   subst hpa
   obtain ⟨xa, xc, ya, yc, rfl⟩ := hin.three
   have c0 := upC HBW0.out (hcs 0 _ rfl)
   have c1 := upC HBW0.out (hcs 1 _ rfl)
   have c2 := upC HBW0.out (hcs 2 _ rfl)
   have c3 := upC HBW0.out hcb
   rw [Nat.add_zero] at c0
   obtain ⟨X, hX⟩ : ∃ X, X = xs[k] := ⟨_, rfl⟩
   have HXK : Hid (X = xs[k]) := hX
   rw [← hX] at hin c0 c1 c2 c3
   obtain ⟨xo, hxo⟩ : ∃ xo, xo = X.1.op := ⟨_, rfl⟩
   obtain ⟨xn, hxn⟩ : ∃ xn, xn = X.1.cl.length := ⟨_, rfl⟩
   obtain ⟨xk, hxk⟩ : ∃ xk, xk = (toL X.1.kids).length := ⟨_, rfl⟩
   obtain ⟨xw, hxw⟩ : ∃ xw, xw = X.2 := ⟨_, rfl⟩
   obtain ⟨W1, hW1⟩ : ∃ W1, W1 = wr.alloc (.cells #[.int .i64 xo, .slice xa xn xc, .slice ya xk yc, .bool xw] 55) := ⟨_, rfl⟩
   obtain ⟨H, hH⟩ : ∃ H, H = wr.heap.size := ⟨_, rfl⟩
   have HBW : Hid (Below wr.heap.size wr W1) := by rw [hW1]; exact (Below.refl _ wr).alloc (Nat.le_refl _) _
   have hbx : W1.heap[H]? = some (.cells #[.int .i64 xo, .slice xa xn xc, .slice ya xk yc, .bool xw] 55) := by rw [hW1, hH]; exact heap_alloc_new wr _
   have HBX : Hid (W1.heap[H]? = some (.cells #[.int .i64 xo, .slice xa xn xc, .slice ya xk yc, .bool xw] 55)) := hbx
   have HB1 : Hid (Below w.heap.size w W1) := HBW0.out.trans (HBW.out.mono HBW0.out.size)
   have HRT : Hid (Calls Tryd.prog 23 #[.agg #[.int .i64 xo, .slice xa xn xc, .slice ya xk yc]] W1 fun e w' => e = .returned (.bool X.1.ok) ∧ Below W1.heap.size W1 w') := by
    rw [hxo, hxn, hxk]
    exact right_any D X.1 xa ya xc yc W1 ((hin.later HB1.out D).base HB1.out.size D)
   have HBL : Hid (∀ W2 : World, Below W1.heap.size W1 W2 → Calls Tryd.prog 49 #[.agg #[.int .i64 xo, .slice xa xn xc, .slice ya xk yc], .int .i64 K] W2 fun e w' => e = .returned (.bool (X.1.bel K)) ∧ Below W2.heap.size W2 w') := by
    intro W2 hW2
    have h := HB1.out.trans (hW2.mono HB1.out.size)
    rw [hxo, hxn, hxk]
    exact below_any D X.1 xa ya xc yc K W2 ((hin.later h D).base h.size D)
   rw [← hxo] at c0
   rw [← hxn] at c1
   rw [← hxk] at c2
   rw [← hxw] at c3
   have e0 : W1.cell? ⟨H, 0, none⟩ = some (.int .i64 xo) := cell_of_row W1 H 0 _ _ _ hbx
   have e1 : W1.cell? ⟨H, 1, none⟩ = some (.slice xa xn xc) := cell_of_row W1 H 1 _ _ _ hbx
   have e2 : W1.cell? ⟨H, 2, none⟩ = some (.slice ya xk yc) := cell_of_row W1 H 2 _ _ _ hbx
   clear hks hcs hcb hin hX hxo hxn hxk hxw hbx
   go_upto_region 6 with fail
   rw [← hH, ← hW1]
   clear hH hW1 c0 c1 c2 c3
   go_wp2_with fail
   refine HRT.out.mono ?_
   rintro e w2 ⟨rfl, hb2⟩
   have HB2 : Hid (Below W1.heap.size W1 w2) := hb2
   have HBW2 : Hid (Below w.heap.size w w2) := HB1.out.trans (hb2.mono HB1.out.size)
   have hbx2 : w2.heap[H]? = some (.cells #[.int .i64 xo, .slice xa xn xc, .slice ya xk yc, .bool xw] 55) := (hb2.block H (Array.getElem?_eq_some_iff.1 HBX.out).1).trans HBX.out
   have f0 : w2.cell? ⟨H, 0, none⟩ = some (.int .i64 xo) := cell_of_row w2 H 0 _ _ _ hbx2
   have f1 : w2.cell? ⟨H, 1, none⟩ = some (.slice xa xn xc) := cell_of_row w2 H 1 _ _ _ hbx2
   have f2 : w2.cell? ⟨H, 2, none⟩ = some (.slice ya xk yc) := cell_of_row w2 H 2 _ _ _ hbx2
   obtain ⟨z, hz⟩ : ∃ z, z = X.1.ok := ⟨_, rfl⟩
   have HZ : Hid (z = X.1.ok) := hz
   rw [← hz]
   clear HRT hb2 hbx2 e0 e1 e2 hz
   cases z with
   | false =>
     have hR : R = false := by
      rw [HR'.out, List.all_eq_false]
      exact ⟨xs[k], List.getElem_mem hkn, by rw [← HXK.out, ← HZ.out]; simp⟩
     subst hR
     go_wp2
     go_ret
     exact ⟨rfl, HBW2.out⟩
   | true =>
     have HC : Hid (Calls Tryd.prog 49 #[.agg #[.int .i64 xo, .slice xa xn xc, .slice ya xk yc], .int .i64 K] w2 fun e w' => e = .returned (.bool (X.1.bel K)) ∧ Below w2.heap.size w2 w') := HBL.out w2 HB2.out
     clear HBL
     go_wp2_with fail
     refine HC.out.mono ?_
     rintro e w3 ⟨rfl, hb3⟩
     have HB3 : Hid (Below w.heap.size w w3) := HBW2.out.trans (hb3.mono HBW2.out.size)
     obtain ⟨y, hy⟩ : ∃ y, y = X.1.bel K := ⟨_, rfl⟩
     have HY : Hid (y = X.1.bel K) := hy
     rw [← hy]
     clear HC hb3 f0 f1 f2 hy
     cases y with
     | false =>
       have hR : R = false := by
        rw [HR'.out, List.all_eq_false]
        exact ⟨xs[k], List.getElem_mem hkn, by rw [← HXK.out, ← HY.out]; simp⟩
       subst hR
       go_wp2
       go_ret
       exact ⟨rfl, HB3.out⟩
     | true =>
       have HNX : Hid ((xs.take (k + 1)).all (fun x => x.1.ok && x.1.bel K) = true) := by
        show _ = _
        rw [take_snoc _ k hkn, List.all_append, HALL.out, ← HXK.out]
        simp [← HZ.out, ← HY.out]
       go_wp2
       go_roundw
       case rel => exact ⟨k + 1, by omega, by go_num, HB3.out, HNX.out⟩
       case measure => simp [intOf]; omega
  ·have hR : R = true := by
    have h1 := HALL.out
    rw [List.take_of_length_le (by rw [← HN.out]; omega)] at h1
    rw [HR'.out, h1]
   subst hR
   go_wp2
   go_ret
   exact ⟨rfl, HBW0.out⟩
end Go.Proofs.YtcafffohnokjgaaDoor

/- Sets of nodes in memory: the walks of only, and, join. -/
namespace Go.Proofs.YtcafffohnokjgaaDoor
open Go.RowKit
set_option linter.unusedVariables false
set_option linter.unusedSimpArgs false

def nw (S i : Nat) : Nat := S / 2 ^ (64 * i) % 2 ^ 64
def nwV (S i : Nat) : Value := .int .u64 (nw S i : Int)
def nsA (S : Nat) : Array Value := #[nwV S 0, nwV S 1, nwV S 2, nwV S 3, nwV S 4, nwV S 5, nwV S 6]
def mixA (f : Nat → Value) : Array Value := #[f 0, f 1, f 2, f 3, f 4, f 5, f 6]
theorem mixA_get (f : Nat → Value) {i : Nat} (h : i < 7) : (mixA f)[i]? = some (f i) := by
 match i, h with
 | 0, _ => rfl
 | 1, _ => rfl
 | 2, _ => rfl
 | 3, _ => rfl
 | 4, _ => rfl
 | 5, _ => rfl
 | 6, _ => rfl
theorem mixA_set (f : Nat → Value) (v : Value) {i : Nat} (h : i < 7) : (mixA f).setIfInBounds i v = mixA fun j => if j = i then v else f j := by
 match i, h with
 | 0, _ => rfl
 | 1, _ => rfl
 | 2, _ => rfl
 | 3, _ => rfl
 | 4, _ => rfl
 | 5, _ => rfl
 | 6, _ => rfl
theorem nsA_mix (S : Nat) : nsA S = mixA (nwV S) := rfl
theorem nw_lt (S i : Nat) : nw S i < 18446744073709551616 := by
 unfold nw
 exact Nat.mod_lt _ (by decide)
theorem nw_bit (S i p : Nat) : (nw S i).testBit p = (decide (p < 64) && S.testBit (64 * i + p)) := by
 unfold nw
 rw [Nat.testBit_mod_two_pow, Nat.testBit_div_two_pow, Nat.add_comm]
theorem nw_and (S T i : Nat) : nw (S &&& T) i = nw S i &&& nw T i := by
 apply Nat.eq_of_testBit_eq
 intro p
 simp only [nw_bit, Nat.testBit_and]
 cases decide (p < 64) <;> simp
theorem nw_or (S T i : Nat) : nw (S ||| T) i = nw S i ||| nw T i := by
 apply Nat.eq_of_testBit_eq
 intro p
 simp only [nw_bit, Nat.testBit_or]
 cases decide (p < 64) <;> simp
theorem nw_one (k i : Nat) : nw (2 ^ k) i = if i = k / 64 then 2 ^ (k % 64) else 0 := by
 apply Nat.eq_of_testBit_eq
 intro p
 rw [nw_bit, Nat.testBit_two_pow]
 split
 ·rename_i h
  rw [Nat.testBit_two_pow, Bool.eq_iff_iff]
  simp
  omega
 ·rename_i h
  rw [Nat.zero_testBit, Bool.eq_false_iff]
  simp
  omega
theorem below_put {w wr : World} {H i : Nat} (v : Value) (h : Below w.heap.size w wr) (hH : w.heap.size ≤ H) : Below w.heap.size w (wr.setCell ⟨H, i, none⟩ v) := h.grown (grown_cell wr H i v) h.size (fun b hb => by cases hb; exact hH)
set_option maxHeartbeats 2000000 in
theorem and_any (S T : Nat) (w : World) : Calls Tryd.prog 70 #[.agg (nsA S), .agg (nsA T)] w fun e w' => e = .returned (.agg (nsA (S &&& T))) ∧ Below w.heap.size w w' := by
 obtain ⟨wA, hwA⟩ : ∃ wA, wA = ((w.alloc (.cells (nsA S) 100)).alloc (.cells (nsA T) 100)).alloc (.cells (mixA fun _ => .int .u64 0) 100) := ⟨_, rfl⟩
 obtain ⟨H, hH⟩ : ∃ H, H = w.heap.size := ⟨_, rfl⟩
 have HB : Hid (Below w.heap.size w wA) := by rw [hwA]; exact (((Below.refl _ w).alloc (Nat.le_refl _) _).alloc (by simp) _).alloc (by simp; omega) _
 have HH : Hid (H = w.heap.size) := hH
 have HA0 : Hid (wA.heap[H]? = some (.cells (nsA S) 100)) := by
  show _ = _
  rw [hwA, hH]
  exact ((((Below.refl _ (w.alloc _)).alloc (Nat.le_refl _) _).alloc (by simp) _).block w.heap.size (by simp)).trans (heap_alloc_new w _)
 have HA1 : Hid (wA.heap[H + 1]? = some (.cells (nsA T) 100)) := by
  show _ = _
  rw [hwA, hH]
  have := heap_alloc_new (w.alloc (.cells (nsA S) 100)) (.cells (nsA T) 100)
  rw [show (w.alloc (.cells (nsA S) 100)).heap.size = w.heap.size + 1 by simp] at this
  exact (((Below.refl _ ((w.alloc _).alloc _)).alloc (Nat.le_refl _) _).block (w.heap.size + 1) (by simp)).trans this
 have HA2 : Hid (wA.heap[H + 1 + 1]? = some (.cells (mixA fun _ => .int .u64 0) 100)) := by
  show _ = _
  rw [hwA, hH]
  have := heap_alloc_new ((w.alloc (.cells (nsA S) 100)).alloc (.cells (nsA T) 100)) (.cells (mixA fun _ => .int .u64 0) 100)
  rw [show ((w.alloc (.cells (nsA S) 100)).alloc (.cells (nsA T) 100)).heap.size = w.heap.size + 1 + 1 by simp] at this
  exact this
 obtain ⟨VS, hVS⟩ : ∃ VS, VS = Value.agg (nsA S) := ⟨_, rfl⟩
 obtain ⟨VT, hVT⟩ : ∃ VT, VT = Value.agg (nsA T) := ⟨_, rfl⟩
 go_enter Tryd.func70, Tryd.ntmps70
 go_upto_region 1 with fail
 rw [← hH, ← hVS, ← hVT]
 show Code.wp _ _ _ _ (((w.alloc (.cells (nsA S) 100)).alloc (.cells (nsA T) 100)).alloc (.cells (mixA fun _ => .int .u64 0) 100))
 rw [← hwA]
 clear hwA hH hVS hVT
 go_wp2
 go_loopw [6] (fun x6 wr => ∃ k : Nat, k ≤ 7 ∧ x6 = .int .i64 k ∧ Below w.heap.size w wr ∧ wr.heap[H]? = some (.cells (mixA fun j => if j < k then nwV (S &&& T) j else nwV S j) 100) ∧ wr.heap[H + 1]? = some (.cells (nsA T) 100) ∧ wr.heap[H + 1 + 1]? = some (.cells (mixA fun _ => .int .u64 0) 100)) (fun x6 _ => 7 - (intOf x6).toNat)
 case atStart => exact ⟨0, by omega, rfl, HB.out, HA0.out, HA1.out, HA2.out⟩
 case round =>
  obtain ⟨k, hk, hx6, hbw, h0, h1, h2⟩ := hrel
  subst hx6
  have HBW : Hid (Below w.heap.size w wr) := hbw
  have HW0 : Hid (wr.heap[H]? = some (.cells (mixA fun j => if j < k then nwV (S &&& T) j else nwV S j) 100)) := h0
  have HW1 : Hid (wr.heap[H + 1]? = some (.cells (nsA T) 100)) := h1
  have HW2 : Hid (wr.heap[H + 1 + 1]? = some (.cells (mixA fun _ => .int .u64 0) 100)) := h2
  clear hbw h0 h1 h2
  by_cases hlt : k < 7
  ·have c0 : wr.cell? ⟨H, k, none⟩ = some (.int .u64 (nw S k : Int)) := by
    rw [cell_of_row wr H k _ _ _ HW0.out, mixA_get _ hlt]; simp [nwV]
   have c1 : wr.cell? ⟨H + 1, k, none⟩ = some (.int .u64 (nw T k : Int)) := by
    rw [cell_of_row wr (H + 1) k _ _ _ HW1.out, nsA_mix, mixA_get _ hlt]; rfl
   have hf : wr.frozen? ⟨H, k, none⟩ = false := Lib.frozen_of_heap HW0.out k
   have hki : (k : Int) < 7 := by omega
   have hbt : bits .and .u64 (nw S k : Int) (nw T k : Int) = (nw (S &&& T) k : Int) := by rw [u64_and_nat _ _ (nw_lt S k) (nw_lt T k), nw_and]
   obtain ⟨w2, hw2⟩ : ∃ w2, w2 = (wr.setCell ⟨H, k, none⟩ (.int .u64 (nw (S &&& T) k : Int))).drew := ⟨_, rfl⟩
   have HB2 : Hid (Below w.heap.size w w2) := by
    rw [hw2]
    exact (HBW.out.grown (grown_cell wr H k _) HBW.out.size (fun b hb => by cases hb; rw [HH.out]; exact Nat.le_refl _)).drew
   have HX0 : Hid (w2.heap[H]? = some (.cells (mixA fun j => if j < k + 1 then nwV (S &&& T) j else nwV S j) 100)) := by
    show _ = _
    rw [hw2]
    refine (heap_setCell_same wr H k _ _ _ HW0.out).trans ?_
    congr 2
    rw [mixA_set _ _ hlt]
    congr 1
    funext j
    by_cases h1 : j = k
    ·rw [if_pos h1, if_pos (by omega), h1]; rfl
    ·rw [if_neg h1]
     by_cases h2 : j < k
     ·rw [if_pos h2, if_pos (by omega)]
     ·rw [if_neg h2, if_neg (by omega)]
   have HX1 : Hid (w2.heap[H + 1]? = some (.cells (nsA T) 100)) := by
    show _ = _
    rw [hw2]
    exact ((grown_cell wr H k (.int .u64 (nw (S &&& T) k : Int))).block (H + 1) (Array.getElem?_eq_some_iff.1 HW1.out).1 (fun e => by have := Option.some.inj e; omega)).trans HW1.out
   have HX2 : Hid (w2.heap[H + 1 + 1]? = some (.cells (mixA fun _ => .int .u64 0) 100)) := by
    show _ = _
    rw [hw2]
    exact ((grown_cell wr H k (.int .u64 (nw (S &&& T) k : Int))).block (H + 1 + 1) (Array.getElem?_eq_some_iff.1 HW2.out).1 (fun e => by have := Option.some.inj e; omega)).trans HW2.out
   go_wp2_with fail
   go_region
   rw [← hw2]
   clear hw2 hbt c0 c1 hf
   go_wp2
   go_roundw
   case rel => exact ⟨k + 1, by omega, by go_num, HB2.out, HX0.out, HX1.out, HX2.out⟩
   case measure => simp [intOf]; omega
  ·obtain rfl : k = 7 := by omega
   have g0 : wr.heap[H]? = some (.cells (nsA (S &&& T)) 100) := HW0.out
   have c0 : wr.cell? ⟨H, 0, none⟩ = some (.int .u64 (nw (S &&& T) 0 : Int)) := cell_of_row wr H 0 _ _ _ g0
   have c1 : wr.cell? ⟨H, 1, none⟩ = some (.int .u64 (nw (S &&& T) 1 : Int)) := cell_of_row wr H 1 _ _ _ g0
   have c2 : wr.cell? ⟨H, 2, none⟩ = some (.int .u64 (nw (S &&& T) 2 : Int)) := cell_of_row wr H 2 _ _ _ g0
   have c3 : wr.cell? ⟨H, 3, none⟩ = some (.int .u64 (nw (S &&& T) 3 : Int)) := cell_of_row wr H 3 _ _ _ g0
   have c4 : wr.cell? ⟨H, 4, none⟩ = some (.int .u64 (nw (S &&& T) 4 : Int)) := cell_of_row wr H 4 _ _ _ g0
   have c5 : wr.cell? ⟨H, 5, none⟩ = some (.int .u64 (nw (S &&& T) 5 : Int)) := cell_of_row wr H 5 _ _ _ g0
   have c6 : wr.cell? ⟨H, 6, none⟩ = some (.int .u64 (nw (S &&& T) 6 : Int)) := cell_of_row wr H 6 _ _ _ g0
   clear g0
   have d0 : wr.cell? ⟨H + 1 + 1, 0, none⟩ = some (.int .u64 0) := cell_of_row wr (H + 1 + 1) 0 _ _ _ HW2.out
   have f0 : wr.frozen? ⟨H + 1 + 1, 0, none⟩ = false := Lib.frozen_of_heap HW2.out 0
   have d1 : wr.cell? ⟨H + 1 + 1, 1, none⟩ = some (.int .u64 0) := cell_of_row wr (H + 1 + 1) 1 _ _ _ HW2.out
   have f1 : wr.frozen? ⟨H + 1 + 1, 1, none⟩ = false := Lib.frozen_of_heap HW2.out 1
   have d2 : wr.cell? ⟨H + 1 + 1, 2, none⟩ = some (.int .u64 0) := cell_of_row wr (H + 1 + 1) 2 _ _ _ HW2.out
   have f2 : wr.frozen? ⟨H + 1 + 1, 2, none⟩ = false := Lib.frozen_of_heap HW2.out 2
   have d3 : wr.cell? ⟨H + 1 + 1, 3, none⟩ = some (.int .u64 0) := cell_of_row wr (H + 1 + 1) 3 _ _ _ HW2.out
   have f3 : wr.frozen? ⟨H + 1 + 1, 3, none⟩ = false := Lib.frozen_of_heap HW2.out 3
   have d4 : wr.cell? ⟨H + 1 + 1, 4, none⟩ = some (.int .u64 0) := cell_of_row wr (H + 1 + 1) 4 _ _ _ HW2.out
   have f4 : wr.frozen? ⟨H + 1 + 1, 4, none⟩ = false := Lib.frozen_of_heap HW2.out 4
   have d5 : wr.cell? ⟨H + 1 + 1, 5, none⟩ = some (.int .u64 0) := cell_of_row wr (H + 1 + 1) 5 _ _ _ HW2.out
   have f5 : wr.frozen? ⟨H + 1 + 1, 5, none⟩ = false := Lib.frozen_of_heap HW2.out 5
   have d6 : wr.cell? ⟨H + 1 + 1, 6, none⟩ = some (.int .u64 0) := cell_of_row wr (H + 1 + 1) 6 _ _ _ HW2.out
   have f6 : wr.frozen? ⟨H + 1 + 1, 6, none⟩ = false := Lib.frozen_of_heap HW2.out 6
   have hHw : w.heap.size ≤ H + 1 + 1 := by rw [HH.out]; omega
   have HFIN := fun v0 v1 v2 v3 v4 v5 v6 => below_put (i := 6) v6 (below_put (i := 5) v5 (below_put (i := 4) v4 (below_put (i := 3) v3 (below_put (i := 2) v2 (below_put (i := 1) v1 (below_put (i := 0) v0 HBW.out hHw) hHw) hHw) hHw) hHw) hHw) hHw
   clear hHw
   go_wp2_with fail
   refine bodyPost_ret (v := .agg (nsA (S &&& T))) ?_ rfl ⟨rfl, HFIN _ _ _ _ _ _ _⟩
   rw [results_cell_one rfl]
   go_simp
   rfl
end Go.Proofs.YtcafffohnokjgaaDoor
