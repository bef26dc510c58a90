/- In one text: NfaR, NfaQ, NfaS, NfaT. -/
import Derived.Test.YtclogekfdmikpaaDoorJ01
/- Rows of nodes as values; the walks of the library's Reverse and Clone of them. -/
namespace Go.Proofs.YtclogekfdmikpaaDoor
open Go.RowKit
set_option linter.unusedVariables false
set_option linter.unusedSimpArgs false
theorem grown_drew3 (w : World) (row : Option Nat) : w.grownBy w.drew row := ⟨rfl, rfl, rfl, Nat.le_refl _, fun _ _ _ => rfl⟩

structure Nk where
 op : Int
 ca : Option Addr
 cn : Nat
 cc : Nat
 pa : Option Addr
 pn : Nat
 pc : Nat
def Nk.zero : Nk := ⟨0, none, 0, 0, none, 0, 0⟩
def Nk.vals (x : Nk) : List Value := [.int .i64 x.op, .slice x.ca x.cn x.cc, .slice x.pa x.pn x.pc]
def flatN (xs : List Nk) : List Value := xs.flatMap Nk.vals
theorem flatN_len : (xs : List Nk) → (flatN xs).length = xs.length * 3
 | [] => rfl
 | x :: r => by
   show (x.vals ++ flatN r).length = _
   rw [List.length_append, flatN_len r]
   simp [Nk.vals]
   omega
theorem flatN_get : (xs : List Nk) → (i j : Nat) → j < 3 → (flatN xs)[i * 3 + j]? = (xs[i]?).bind fun x => x.vals[j]?
 | [], i, j, _ => by simp [flatN]
 | x :: r, 0, j, hj => by
   show (x.vals ++ flatN r)[0 * 3 + j]? = _
   rw [List.getElem?_append_left (by simp [Nk.vals]; omega)]
   simp
 | x :: r, i + 1, j, hj => by
   show (x.vals ++ flatN r)[(i + 1) * 3 + j]? = _
   rw [List.getElem?_append_right (by simp [Nk.vals]; omega), show (i + 1) * 3 + j - x.vals.length = i * 3 + j by simp [Nk.vals]; omega, flatN_get r i j hj]
   simp
def F3 (W : World) (g o : Nat) (x : Nk) : World := ((W.setCell ⟨g, o, none⟩ (.int .i64 x.op)).setCell ⟨g, o + 1, none⟩ (.slice x.ca x.cn x.cc)).setCell ⟨g, o + 2, none⟩ (.slice x.pa x.pn x.pc)
def A3 (cur : Array Value) (o : Nat) (x : Nk) : Array Value := ((cur.setIfInBounds o (.int .i64 x.op)).setIfInBounds (o + 1) (.slice x.ca x.cn x.cc)).setIfInBounds (o + 2) (.slice x.pa x.pn x.pc)
theorem f3_grown (W : World) (g o : Nat) (x : Nk) : W.grownBy (F3 W g o x) (some g) :=
 grown_all (grown_all (grown_cell W g o _) (grown_cell _ g _ _)) (grown_cell _ g _ _)
theorem f3_heap {W : World} {g : Nat} {cur : Array Value} {t : TypeId} (o : Nat) (x : Nk) (h : W.heap[g]? = some (.cells cur t (0, 0))) : (F3 W g o x).heap[g]? = some (.cells (A3 cur o x) t (0, 0)) :=
 heap_setCell_same _ g _ _ _ _ (heap_setCell_same _ g _ _ _ _ (heap_setCell_same _ g _ _ _ _ h))
theorem a3_size (cur : Array Value) (o : Nat) (x : Nk) : (A3 cur o x).size = cur.size := by simp [A3]
theorem a3_get (cur : Array Value) (o : Nat) (x : Nk) (h : o + 2 < cur.size) (q : Nat) : (A3 cur o x)[q]? = if o ≤ q ∧ q < o + 3 then x.vals[q - o]? else cur[q]? := by
 unfold A3
 by_cases hq : o ≤ q ∧ q < o + 3
 ·rw [if_pos hq]
  obtain ⟨j, rfl⟩ : ∃ j, q = o + j := ⟨q - o, by omega⟩
  rw [show o + j - o = j by omega]
  rcases (by omega : j = 0 ∨ j = 1 ∨ j = 2) with rfl | rfl | rfl
  ·rw [Array.getElem?_setIfInBounds_ne (by omega), Array.getElem?_setIfInBounds_ne (by omega)]
   rw [Nat.add_zero, Array.getElem?_setIfInBounds_self_of_lt (by omega)]; rfl
  ·rw [Array.getElem?_setIfInBounds_ne (by omega), Array.getElem?_setIfInBounds_self_of_lt (by simp; omega)]; rfl
  ·rw [Array.getElem?_setIfInBounds_self_of_lt (by simp; omega)]; rfl
 ·rw [if_neg hq, Array.getElem?_setIfInBounds_ne (by omega), Array.getElem?_setIfInBounds_ne (by omega), Array.getElem?_setIfInBounds_ne (by omega)]
theorem own_cells3 {w : World} {B : Nat} {e : TypeId} {n : Nat} {a : Option Addr} {cap : Nat} {xs : List Nk} (h : w.ownsRow B e 3 (.slice a n cap) n (flatN xs)) (hn : 0 < n) : ∃ g, a = some ⟨g, 0, none⟩ ∧ B ≤ g ∧ ∃ cur, w.heap[g]? = some (.cells cur e (0, 0)) ∧ n * 3 ≤ cur.size ∧ (cur.toList.take (n * 3) = flatN xs) ∧ ∀ i (hi : i < xs.length), w.cell? ⟨g, i * 3, none⟩ = some (.int .i64 xs[i].op) ∧ w.cell? ⟨g, i * 3 + 1, none⟩ = some (.slice xs[i].ca xs[i].cn xs[i].cc) ∧ w.cell? ⟨g, i * 3 + 2, none⟩ = some (.slice xs[i].pa xs[i].pn xs[i].pc) := by
 rcases h.2 with ⟨hv, h0⟩ | ⟨g, cap', cur, hv, hb, hg, hnc, hm, hs, ht⟩
 ·omega
 ·cases hv
  have hle : n * 3 ≤ cur.size := by rw [hs]; exact Nat.mul_le_mul_right 3 hnc
  refine ⟨g, rfl, hb, cur, hg, hle, ht, fun i hi => ?_⟩
  have hxl : xs.length * 3 = n * 3 := by rw [← flatN_len]; exact h.1
  have key : ∀ j, j < 3 → w.cell? ⟨g, i * 3 + j, none⟩ = xs[i].vals[j]? := by
   intro j hj
   have h2 := flatN_get xs i j hj
   rw [← ht, List.getElem?_take, if_pos (by omega), List.getElem?_eq_getElem hi] at h2
   rw [cell_of_row w g _ _ _ _ hg]
   simpa using h2
  exact ⟨key 0 (by omega), key 1 (by omega), key 2 (by omega)⟩
theorem own_set3 {w : World} {B : Nat} {e : TypeId} {n : Nat} {g cap : Nat} {xs : List Nk} (h : w.ownsRow B e 3 (.slice (some ⟨g, 0, none⟩) n cap) n (flatN xs)) (i : Nat) (hi : i < xs.length) (x : Nk) : (F3 w g (i * 3) x).ownsRow B e 3 (.slice (some ⟨g, 0, none⟩) n cap) n (flatN (xs.set i x)) := by
 refine ⟨by rw [flatN_len, List.length_set, ← flatN_len]; exact h.1, ?_⟩
 rcases h.2 with ⟨hv, h0⟩ | ⟨g', cap', cur, hv, hb, hg, hnc, hm, hs, ht⟩
 ·cases hv
 ·cases hv
  have hle : n * 3 ≤ cur.size := by rw [hs]; exact Nat.mul_le_mul_right 3 hnc
  have hxl : xs.length * 3 = n * 3 := by rw [← flatN_len]; exact h.1
  refine .inr ⟨g, cap, A3 cur (i * 3) x, rfl, hb, f3_heap _ _ hg, hnc, hm, by rw [a3_size]; exact hs, ?_⟩
  apply List.ext_getElem?
  intro q
  obtain ⟨p, j, hj, rfl⟩ : ∃ p j, j < 3 ∧ q = p * 3 + j := ⟨q / 3, q % 3, Nat.mod_lt _ (by omega), by omega⟩
  rw [flatN_get _ p j hj, List.getElem?_take]
  have hold := flatN_get xs p j hj
  rw [← ht, List.getElem?_take] at hold
  by_cases hp : p < n
  ·rw [if_pos (by omega)] at hold ⊢
   rw [Array.getElem?_toList, a3_get cur (i * 3) x (by omega)]
   rw [Array.getElem?_toList] at hold
   by_cases hpi : p = i
   ·subst hpi
    rw [if_pos (by omega), List.getElem?_set_self hi]
    show _ = x.vals[j]?
    congr 1
    omega
   ·rw [if_neg (by omega), List.getElem?_set_ne (fun e => hpi e.symm)]
    exact hold
  ·rw [if_neg (by omega), List.getElem?_eq_none (by simp; omega)]
   rfl

set_option maxHeartbeats 4000000 in
theorem revN_any (xs : List Nk) (v : Value) (B : Nat) (w : World) (ho : w.ownsRow B 56 3 v xs.length (flatN xs)) (hm : xs.length ≤ 9223372036854775806) :
 Calls Tryd.prog 60 #[v] w fun e w' => e = .returned (.tuple #[]) ∧ w.grownBy w' v.ownBlock ∧ w'.ownsRow B 56 3 v xs.length (flatN xs.reverse) := by
 obtain ⟨a, cap, rfl⟩ := own_sl1 ho
 obtain ⟨N, hN⟩ : ∃ N, N = xs.length := ⟨_, rfl⟩
 have hNi : (N : Int) ≤ 9223372036854775806 := by omega
 rw [← hN]
 rw [← hN] at ho
 have HO : Hid (w.ownsRow B 56 3 (.slice a N cap) N (flatN xs)) := ho
 have HN : Hid (N = xs.length) := hN
 clear ho hm hN
 go_enter Tryd.func60, Tryd.ntmps60
 go_wp2
 go_loopw [2, 3] (fun x2 x3 wr => ∃ i : Nat, x2 = .int .i64 i ∧ x3 = .int .i64 ((N : Int) - 1 - i) ∧ 2 * i ≤ N ∧ ∃ ys : List Nk, ys.length = N ∧ (∀ p, p < N → ys.getD p Nk.zero = if p < i ∨ N - i ≤ p then xs.getD (N - 1 - p) Nk.zero else xs.getD p Nk.zero) ∧ wr.ownsRow B 56 3 (.slice a N cap) N (flatN ys) ∧ w.grownBy wr (Value.slice a N cap).ownBlock) (fun x2 _ _ => N - (intOf x2).toNat)
 case atStart => exact ⟨0, rfl, by go_num, by omega, xs, HN.out.symm, fun p hp => by rw [if_neg (by omega)], HO.out, ⟨rfl, rfl, rfl, Nat.le_refl _, fun _ _ _ => rfl⟩⟩
 case round =>
  obtain ⟨i, hx2, hx3, hi, ys, hyl, hy, hown, hgr⟩ := hrel
  subst hx2
  subst hx3
  have HY : Hid (∀ p, p < N → ys.getD p Nk.zero = if p < i ∨ N - i ≤ p then xs.getD (N - 1 - p) Nk.zero else xs.getD p Nk.zero) := hy
  have HYL : Hid (ys.length = N) := hyl
  have HOW : Hid (wr.ownsRow B 56 3 (.slice a N cap) N (flatN ys)) := hown
  have HGR : Hid (w.grownBy wr (Value.slice a N cap).ownBlock) := hgr
  clear hyl hy hgr
  by_cases hlt : (i : Int) < (N : Int) - 1 - i
  ·obtain ⟨g, rfl, hBg, cur, hg, hsz, htk, hlc⟩ := own_cells3 hown (by omega)
   obtain ⟨j, hj⟩ : ∃ j : Nat, (j : Int) = (N : Int) - 1 - i := ⟨N - 1 - i, by omega⟩
   have hjN : j < N := by omega
   have hiN : i < N := by omega
   have hij : i < j := by omega
   rw [← hj] at hlt ⊢
   have HJ : Hid (j = N - 1 - i) := by show j = N - 1 - i; omega
   clear hj
   obtain ⟨yi, hyi⟩ : ∃ yi, yi = ys.getD i Nk.zero := ⟨_, rfl⟩
   obtain ⟨yj, hyj⟩ : ∃ yj, yj = ys.getD j Nk.zero := ⟨_, rfl⟩
   have hyi2 : ys[i]'(by rw [HYL.out]; exact hiN) = yi := by rw [hyi]; simp [HYL.out, hiN]
   have hyj2 : ys[j]'(by rw [HYL.out]; exact hjN) = yj := by rw [hyj]; simp [HYL.out, hjN]
   obtain ⟨i0, i1, i2⟩ := hlc i (by rw [HYL.out]; exact hiN)
   obtain ⟨j0, j1, j2⟩ := hlc j (by rw [HYL.out]; exact hjN)
   rw [hyi2] at i0 i1 i2
   rw [hyj2] at j0 j1 j2
   have HFZ : ∀ q, wr.frozen? ⟨g, q, none⟩ = false := fun q => Lib.frozen_of_heap hg _
   have fi0 := HFZ (i * 3)
   have fi1 := HFZ (i * 3 + 1)
   have fi2 := HFZ (i * 3 + 2)
   have fj0 := HFZ (j * 3)
   have fj1 := HFZ (j * 3 + 1)
   have fj2 := HFZ (j * 3 + 2)
   have hapart : i * 3 + 3 ≤ j * 3 := by omega
   have HNEW : Hid (∃ zs : List Nk, zs.length = N ∧ (∀ p, p < N → zs.getD p Nk.zero = if p < i + 1 ∨ N - (i + 1) ≤ p then xs.getD (N - 1 - p) Nk.zero else xs.getD p Nk.zero) ∧ (F3 (F3 wr g (i * 3) yj) g (j * 3) yi).drew.ownsRow B 56 3 (.slice (some ⟨g, 0, none⟩) N cap) N (flatN zs) ∧ w.grownBy (F3 (F3 wr g (i * 3) yj) g (j * 3) yi).drew (Value.slice (some ⟨g, 0, none⟩) N cap).ownBlock) := by
    refine ⟨(ys.set i yj).set j yi, by simp [HYL.out], fun p hp => ?_, ?_, ?_⟩
    ·rw [List.getD_eq_getElem?_getD]
     have hyl := HYL.out
     have hjj := HJ.out
     by_cases h1 : p = j
     ·subst h1
      rw [List.getElem?_set_self (by simp; omega), if_pos (by omega)]
      show yi = _
      rw [hyi, HY.out i hiN, if_neg (by omega), show N - 1 - p = i by omega]
     ·rw [List.getElem?_set_ne (fun e => h1 e.symm)]
      by_cases h2 : p = i
      ·subst h2
       rw [List.getElem?_set_self (by omega), if_pos (by omega)]
       show yj = _
       rw [hyj, HY.out j hjN, if_neg (by omega), hjj]
      ·rw [List.getElem?_set_ne (fun e => h2 e.symm), ← List.getD_eq_getElem?_getD, HY.out p hp]
       by_cases h3 : p < i ∨ N - i ≤ p
       ·rw [if_pos h3, if_pos (by omega)]
       ·rw [if_neg h3, if_neg (by omega)]
    ·exact own_later5 (own_set3 (own_set3 HOW.out i (by rw [HYL.out]; exact hiN) _) j (by rw [List.length_set, HYL.out]; exact hjN) _) (Below.refl _ _).drew
    ·exact grown_all HGR.out (grown_all (grown_all (f3_grown wr g _ _) (f3_grown _ g _ _)) (grown_drew3 _ _))
   clear hown hg hsz htk hlc hyi hyj hyi2 hyj2 HY HYL HOW HGR HFZ
   go_wp2_with fail
   go_region
   go_wp2
   go_roundw
   case rel =>
    have hj1 := HJ.out
    refine ⟨i + 1, by go_num, ?_, by omega, HNEW.out⟩
    congr 1
    omega
   case measure => simp [intOf]; omega
  ·have HFIN : Hid (w.grownBy wr (Value.slice a N cap).ownBlock ∧ wr.ownsRow B 56 3 (.slice a N cap) N (flatN xs.reverse)) := by
    refine ⟨HGR.out, ?_⟩
    have : ys = xs.reverse := by
     apply List.ext_getElem
     ·rw [List.length_reverse, HYL.out, HN.out]
     ·intro p h1 h2
      have h3 := HY.out p (by rw [← HYL.out]; exact h1)
      have h4 := HN.out
      have h5 := HYL.out
      rw [List.getElem_reverse]
      rw [List.getD_eq_getElem?_getD, List.getElem?_eq_getElem h1] at h3
      by_cases hc : p < i ∨ N - i ≤ p
      ·rw [if_pos hc, List.getD_eq_getElem?_getD, List.getElem?_eq_getElem (by omega)] at h3
       simp only [Option.getD_some] at h3
       rw [h3]
       congr 1
       omega
      ·rw [if_neg hc, List.getD_eq_getElem?_getD, List.getElem?_eq_getElem (by omega)] at h3
       simp only [Option.getD_some] at h3
       rw [h3]
       congr 1
       omega
    rw [← this]
    exact HOW.out
   clear hown HY HYL HOW HGR
   go_wp2
   go_end0
   exact ⟨rfl, HFIN.out⟩
theorem info_Nd3 : (Tryd.prog.info? 56).map (fun i => (i.zero, i.size, i.bytes)) = some (some (.agg #[.int .i64 0, .slice none 0 0, .slice none 0 0]), 3, 56) := by kernel_rfl
theorem one_flatN (xs : List Nk) : ∀ u ∈ flatN xs, u.oneCell' = true := by
 intro u hu
 obtain ⟨x, _, hx⟩ := List.mem_flatMap.1 hu
 simp only [Nk.vals, List.mem_cons, List.not_mem_nil, or_false] at hx
 rcases hx with rfl | rfl | rfl <;> rfl
set_option maxHeartbeats 1000000 in
theorem cloneN_any (xs : List Nk) (a : Option Addr) (len cap : Nat) (w : World) (hlen : xs.length = len) (hnone : a = none → len = 0) (hnews : ∀ b, a = some b → ∀ j u, (flatN xs)[j]? = some u → w.cell? (b.add j) = some u) (hl : len ≤ 100000) :
 Calls Tryd.prog 59 #[.slice a len cap] w fun e w' => ∃ v, e = .returned v ∧ w'.ownsRow w.heap.size 56 3 v len (flatN xs) ∧ Below w.heap.size w w' := by
 have q22 : ∀ (w : World) (a : Option Addr) (n c n' c' : Nat), (binOp .eql 54 (.slice a n c) (.slice none n' c')).run Tryd.prog w = .ok (.bool a.isNone) w := fun w a n c n' c' => Lib.run_eql_slice_nil w _ _ a n c n' c' Tryd.underlying54
 cases a with
 | none =>
   have h0 := hnone rfl
   subst h0
   have hr : xs = [] := List.eq_nil_of_length_eq_zero (by omega)
   subst hr
   clear hnone hnews hlen hl
   go_enter Tryd.func59, Tryd.ntmps59
   go_wp2
   go_ret
   exact ⟨_, rfl, World.ownsRow_nil _ _ _ _, Below.refl _ _⟩
 | some x =>
   obtain ⟨i0, hi, hz0, hz1, hz2⟩ := info_parts info_Nd3
   have HI : Hid (Tryd.prog.info? 56 = some i0 ∧ i0.zero = some (.agg #[.int .i64 0, .slice none 0 0, .slice none 0 0]) ∧ i0.size = 3 ∧ i0.bytes = 56) := ⟨hi, hz0, hz1, hz2⟩
   have hown0 : (w.alloc (.cells #[] 56)).ownsRow w.heap.size 56 3 (.slice (some ⟨w.heap.size, 0, none⟩) 0 0) 0 [] := World.ownsRow_made w #[] 0 (Nat.le_refl _) (by simp [maxLen]) rfl
   have HO : Hid ((w.alloc (.cells #[] 56)).ownsRow w.heap.size 56 3 (.slice (some ⟨w.heap.size, 0, none⟩) 0 0) 0 []) := hown0
   have HR : Hid ((flatN xs).length = len * 3 ∧ (∀ j u, (flatN xs)[j]? = some u → (w.alloc (.cells #[] 56)).cell? (x.add j) = some u) ∧ ∀ u ∈ flatN xs, u.oneCell' = true) := ⟨by rw [flatN_len, hlen], fun j u hu => upC ((Below.refl _ w).alloc (Nat.le_refl _) _) (hnews x rfl j u hu), one_flatN xs⟩
   have HFIN : Hid (∀ v' w', w'.ownsRow w.heap.size 56 3 v' (0 + len) ([] ++ flatN xs) → (w.alloc (.cells #[] 56)).grownBy w' (some w.heap.size) → ∃ v, Ending.returned v' = .returned v ∧ w'.ownsRow w.heap.size 56 3 v len (flatN xs) ∧ Below w.heap.size w w') := by
    intro v' w' h1 h2
    refine ⟨v', rfl, by rw [Nat.zero_add, List.nil_append] at h1; exact h1, ?_⟩
    exact ((Below.refl _ w).alloc (Nat.le_refl _) _).grown h2 (by simp) (fun k hk => by cases hk; exact Nat.le_refl _)
   have HLL : Hid (len ≤ 100000) := hl
   clear hi hz0 hz1 hz2 hown0 hnews hnone hlen hl
   go_enter Tryd.func59, Tryd.ntmps59
   go_wp2_with (at_builtin; refine wpList_append_own _ rfl _ _ 54 rfl w.heap.size 56 i0 _ 3 56 Tryd.underlying54 HI.out.1 HI.out.2.1 HI.out.2.2.1 HI.out.2.2.2 rfl (by decide) _ 0 [] rfl HO.out x len cap (flatN xs) rfl HR.out.1 HR.out.2.1 HR.out.2.2 (by have := HLL.out; unfold maxLen; omega) (by have := HLL.out; omega) (by simp) (fun v' w' h1 h2 _ => ?_); have HF := HFIN.out v' w' h1 h2; have HFF : Hid _ := HF; clear HF h1 h2)
   go_ret
   exact HFF.out
end Go.Proofs.YtclogekfdmikpaaDoor

/- Mathematics of expressions that are turned round. -/
namespace Go.Proofs.YtclogekfdmikpaaDoor
set_option linter.unusedVariables false
set_option linter.unusedSimpArgs false

def turnK {α : Type} (op : Int) (l : List α) : List α := if op = 2 then l.reverse else l
theorem turnK_len {α : Type} (op : Int) (l : List α) : (turnK op l).length = l.length := by unfold turnK; split <;> simp
def tuL : Fo → List Nd
 | .nil => []
 | .node _ _ a k r => ⟨a.1, a.2, ofL (turnK a.1 (tuL k))⟩ :: tuL r
def Nd.rev (n : Nd) : Nd := ⟨n.op, n.cl, ofL (turnK n.op (tuL n.kids))⟩
theorem tuL_map : (f : Fo) → tuL f = (toL f).map Nd.rev
 | .nil => rfl
 | .node _ _ a k r => by simp only [tuL, toL, List.map_cons, tuL_map r]; rfl
theorem rev_kids (n : Nd) : toL n.rev.kids = turnK n.op ((toL n.kids).map Nd.rev) := by
 show toL (ofL (turnK n.op (tuL n.kids))) = _
 rw [toL_ofL, tuL_map]
theorem tuN_len (n : Nd) : (toL n.rev.kids).length = (toL n.kids).length := by rw [rev_kids, turnK_len, List.length_map]
/-! What it fits. -/
theorem okN_op (d : Nat) (n : Nd) (h : okN d n = true) : 0 ≤ n.op ∧ n.op ≤ 5 ∧ (n.op = 0 → (toL n.kids).length = 0) ∧ (n.op = 4 ∨ n.op = 5 → (toL n.kids).length = 1) ∧ n.cl.length ≤ 24 := by
 cases d with
 | zero => simp [okN] at h
 | succ d =>
   simp only [okN, Bool.and_eq_true] at h
   obtain ⟨⟨h1, h2⟩, _⟩ := h
   unfold rcB at h1
   have hc : n.cl.length ≤ 24 := by
    unfold rclB at h2
    split at h2
    ·have := risB_len n.cl (-1) (by omega) h2
     omega
    ·simp at h2; simp [h2]
   split at h1
   ·simp at h1; exact ⟨by omega, by omega, fun _ => by simpa using h1, by omega, hc⟩
   ·split at h1
    ·exact ⟨by omega, by omega, by omega, by omega, hc⟩
    ·split at h1
     ·simp at h1; exact ⟨by omega, by omega, by omega, fun _ => by simpa using h1, hc⟩
     ·cases h1
def wdsF : Fo → Nat
 | .nil => 0
 | .node _ _ a k r => 7 + a.2.length + wdsF k + wdsF r
def Nd.wds (n : Nd) : Nat := 7 + n.cl.length + wdsF n.kids
def wdsL (l : List Nd) : Nat := (l.map Nd.wds).sum
theorem wdsF_sum : (f : Fo) → wdsF f = wdsL (toL f)
 | .nil => rfl
 | .node _ _ a k r => by
   have ih := wdsF_sum r
   simp only [wdsF, wdsL, toL, List.map_cons, List.sum_cons] at ih ⊢
   rw [ih]
   rfl
theorem wds_eq (n : Nd) : n.wds = 7 + n.cl.length + wdsL (toL n.kids) := by unfold Nd.wds; rw [wdsF_sum]
theorem wdsL_snoc (l : List Nd) (x : Nd) : wdsL (l ++ [x]) = wdsL l + x.wds := by simp [wdsL]
theorem wdsL_take (l : List Nd) (k : Nat) (hk : k < l.length) : wdsL (l.take k) + l[k].wds ≤ wdsL l := by
 have h : wdsL l = wdsL (l.take (k + 1)) + wdsL (l.drop (k + 1)) := by
  unfold wdsL
  rw [← List.sum_append, ← List.map_append, List.take_append_drop]
 rw [h, take_snoc l k hk, wdsL_snoc]
 omega
theorem wds_le : (d : Nat) → (n : Nd) → okN d n = true → n.wds ≤ 31 * n.cnt
 | 0, _, h => by simp [okN] at h
 | d + 1, n, h => by
   obtain ⟨_, _, _, _, hc⟩ := okN_op _ n h
   have hall : ∀ x ∈ toL n.kids, okN d x = true := by
    simp only [okN, Bool.and_eq_true, List.all_eq_true] at h
    exact h.2
   have key : ∀ l : List Nd, (∀ x ∈ l, okN d x = true) → wdsL l ≤ 31 * cntL l := by
    intro l
    induction l with
    | nil => intro _; simp [wdsL, cntL]
    | cons x r ih =>
      intro hl
      have h1 := wds_le d x (hl x (by simp))
      have h2 := ih (fun y hy => hl y (by simp [hy]))
      simp only [wdsL, cntL, List.map_cons, List.sum_cons] at h2 ⊢
      omega
   have := key _ hall
   rw [wds_eq, cnt_eq]
   omega
end Go.Proofs.YtclogekfdmikpaaDoor

/- The walk of bounded. -/
namespace Go.Proofs.YtclogekfdmikpaaDoor
open Go.RowKit
set_option linter.unusedVariables false
set_option linter.unusedSimpArgs false

def BdPost (n : Nd) (c bn : Nat) (w : World) (e : Ending) (w' : World) : Prop :=
 ∃ c' : Nat, e = .returned (.bool true) ∧ w.grownBy w' (some bn) ∧ w'.heap[bn]? = some (.cells #[nI c'] 3) ∧ c' + n.wds = c
def BdC (d : Nat) : Prop := ∀ (D : Nat) (n : Nd) (ca pa : Option Addr) (cc pc c bn : Nat) (N : Int) (w0 w : World), InV w0.heap.size w0 D n [.int .i64 n.op, .slice ca n.cl.length cc, .slice pa (toL n.kids).length pc] → Below w0.heap.size w0 w → w0.heap.size ≤ bn → w.heap[bn]? = some (.cells #[nI c] 3) → okN d n = true → (d : Int) ≤ N → N ≤ 131072 → n.wds ≤ c → c ≤ 268435456 →
 Calls Tryd.prog 40 #[.agg #[.int .i64 n.op, .slice ca n.cl.length cc, .slice pa (toL n.kids).length pc], .int .i64 N, .pointer (some ⟨bn, 0, none⟩)] w (BdPost n c bn w)
set_option maxHeartbeats 8000000 in
theorem bd_up (d : Nat) (HP : BdC d) : BdC (d + 1) := by
 intro D n ca pa cc pc c bn N w0 w hin hb0 hbn hbc hok hN hN2 hwc hc
 have HPC : Hid (BdC d) := HP
 have HIN : Hid (InV w0.heap.size w0 D n [.int .i64 n.op, .slice ca n.cl.length cc, .slice pa (toL n.kids).length pc]) := hin
 obtain ⟨_, _, _, _, hcl⟩ := okN_op _ n hok
 have HALL : Hid (∀ x ∈ toL n.kids, okN d x = true) := by
  simp only [okN, Bool.and_eq_true, List.all_eq_true] at hok
  exact hok.2
 have hbd := hin.bounds
 obtain ⟨op, hop⟩ : ∃ op, op = n.op := ⟨_, rfl⟩
 obtain ⟨cn, hcn⟩ : ∃ cn, cn = n.cl.length := ⟨_, rfl⟩
 obtain ⟨K, hK⟩ : ∃ K, K = (toL n.kids).length := ⟨_, rfl⟩
 obtain ⟨c1, hc1⟩ : ∃ c1 : Nat, c1 + 7 + cn = c := ⟨c - 7 - cn, by have := wds_eq n; omega⟩
 have HC1 : Hid (c1 + 7 + cn = c ∧ n.wds = 7 + cn + wdsL (toL n.kids) ∧ n.wds ≤ c ∧ c ≤ 268435456) := ⟨hc1, by rw [hcn]; exact wds_eq n, hwc, hc⟩
 have hKi : (K : Int) ≤ 2600000000000 := by omega
 have hc1i : (c1 : Int) ≤ 268435456 := by omega
 have hcni : (cn : Int) ≤ 24 := by omega
 have hs1 : IntKind.i64.wrap (7 + (cn : Int)) = 7 + (cn : Int) := by rw [IntKind.wrap_i64]; omega
 have hs2 : IntKind.i64.wrap ((c : Int) - (7 + (cn : Int))) = (c1 : Int) := by rw [IntKind.wrap_i64]; omega
 have hs3 : (c : Int) - (7 + (cn : Int)) = (c1 : Int) := by omega
 have hNn : decide (N < 0) = false := by simp; omega
 have hNw : IntKind.i64.wrap (N - 1) = N - 1 := by rw [IntKind.wrap_i64]; omega
 have HNN : Hid ((d : Int) ≤ N - 1 ∧ N - 1 ≤ 131072) := by refine ⟨?_, ?_⟩ <;> omega
 have hc1n : decide ((c1 : Int) < 0) = false := by simp
 obtain ⟨wA, hwA⟩ : ∃ wA, wA = w.alloc (.cells #[.int .i64 op, .slice ca cn cc, .slice pa K pc] 56) := ⟨_, rfl⟩
 obtain ⟨H, hH⟩ : ∃ H, H = w.heap.size := ⟨_, rfl⟩
 have HB : Hid (Below w.heap.size w wA) := by rw [hwA]; exact (Below.refl _ w).alloc (Nat.le_refl _) _
 have hbx : wA.heap[H]? = some (.cells #[.int .i64 op, .slice ca cn cc, .slice pa K pc] 56) := by rw [hwA, hH]; exact heap_alloc_new w _
 have HBX : Hid (wA.heap[H]? = some (.cells #[.int .i64 op, .slice ca cn cc, .slice pa K pc] 56)) := hbx
 have hbcA : wA.heap[bn]? = some (.cells #[nI c] 3) := (HB.out.block bn (Array.getElem?_eq_some_iff.1 hbc).1).trans hbc
 have HBC : Hid (wA.heap[bn]? = some (.cells #[nI c] 3)) := hbcA
 have hbl : bn < w.heap.size := (Array.getElem?_eq_some_iff.1 hbc).1
 have HG0 : Hid (w.grownBy wA (some bn)) := ⟨HB.out.os, HB.out.tape, HB.out.output, HB.out.size, fun k hk _ => HB.out.block k hk⟩
 have e1 : wA.cell? ⟨H, 1, none⟩ = some (.slice ca cn cc) := cell_of_row wA H 1 _ _ _ hbx
 have eb : wA.cell? ⟨bn, 0, none⟩ = some (.int .i64 (c : Int)) := cell_of_row wA bn 0 _ _ _ hbcA
 have ef : wA.frozen? ⟨bn, 0, none⟩ = false := Lib.frozen_of_heap hbcA 0
 obtain ⟨w2, hw2⟩ : ∃ w2, w2 = (wA.setCell ⟨bn, 0, none⟩ (.int .i64 (c1 : Int))).drew := ⟨_, rfl⟩
 have HB2 : Hid (w2.heap[bn]? = some (.cells #[nI c1] 3)) := by rw [hw2]; exact heap_setCell_same wA bn 0 _ _ _ HBC.out
 have HG12 : Hid (wA.grownBy w2 (some bn)) := by rw [hw2]; exact grown_all (grown_cell wA bn 0 _) (grown_drew3 _ _)
 have HG2 : Hid (w.grownBy w2 (some bn)) := grown_all HG0.out HG12.out
 have hneH : bn ≠ H := by omega
 have HBX2 : Hid (w2.heap[H]? = some (.cells #[.int .i64 op, .slice ca cn cc, .slice pa K pc] 56)) := (HG12.out.block H (Array.getElem?_eq_some_iff.1 HBX.out).1 (fun e => hneH (Option.some.inj e).symm)).trans HBX.out
 rw [← hop, ← hcn, ← hK]
 have HK : Hid (K = (toL n.kids).length) := hK
 have HBB : Hid (w0.heap.size ≤ bn ∧ bn < w.heap.size ∧ H = w.heap.size ∧ Below w0.heap.size w0 w) := ⟨hbn, hbl, hH, hb0⟩
 clear HP hin hb0 hbn hbc hbd hcl hop hcn hK hbx hbcA hbl hok hN hN2 hwc hc hc1
 go_enter Tryd.func40, Tryd.ntmps40
 go_upto_region 1 with fail
 rw [← hH, ← hwA]
 clear hH hwA
 go_region
 rw [← hw2]
 clear hw2 e1 eb ef hs1 hs2 hs3 hneH
 have eb2 : w2.cell? ⟨bn, 0, none⟩ = some (.int .i64 (c1 : Int)) := cell_of_row w2 bn 0 _ _ _ HB2.out
 have f2 : w2.cell? ⟨H, 2, none⟩ = some (.slice pa K pc) := cell_of_row w2 H 2 _ _ _ HBX2.out
 go_wp2
 go_loopw [29] (fun x29 wr => ∃ k ck : Nat, k ≤ K ∧ x29 = .int .i64 k ∧ w.grownBy wr (some bn) ∧ wr.heap[bn]? = some (.cells #[nI ck] 3) ∧ ck + wdsL ((toL n.kids).take k) = c1) (fun x29 _ => K - (intOf x29).toNat)
 case atStart => exact ⟨0, c1, by omega, rfl, HG2.out, HB2.out, by simp [wdsL]⟩
 case round =>
  obtain ⟨k, ck, hk, hx29, hg, hbk, hck⟩ := hrel
  subst hx29
  have HG : Hid (w.grownBy wr (some bn)) := hg
  have HBK : Hid (wr.heap[bn]? = some (.cells #[nI ck] 3)) := hbk
  have HCK : Hid (ck + wdsL ((toL n.kids).take k) = c1) := hck
  clear hg hbk hck f2 eb2
  by_cases hlt : k < K
  ·have hkn : k < (toL n.kids).length := by rw [← HK.out]; exact hlt
   have HW0 : Hid (Below w0.heap.size w0 wr) := by
    obtain ⟨q1, q2, q3, q4⟩ := HBB.out
    exact q4.grown HG.out q4.size (fun k hk => by cases hk; exact q1)
   obtain ⟨b, off, xa, xc, ya, yc, d', hpa, hkid, _, c0', c1', c2'⟩ := HIN.out.kid k hkn
   subst hpa
   have k0 := upC HW0.out c0'
   have k1 := upC HW0.out c1'
   have k2 := upC HW0.out c2'
   have HV : Hid (∀ W1 : World, Below wr.heap.size wr W1 → Calls Tryd.prog 40 #[.agg #[.int .i64 (toL n.kids)[k].op, .slice xa (toL n.kids)[k].cl.length xc, .slice ya (toL (toL n.kids)[k].kids).length yc], .int .i64 (N - 1), .pointer (some ⟨bn, 0, none⟩)] W1 (BdPost (toL n.kids)[k] ck bn W1)) := by
    intro W1 hW1
    have h1 := HC1.out
    have h2 := HCK.out
    have h3 := wdsL_take (toL n.kids) k hkn
    exact HPC.out d' (toL n.kids)[k] xa ya xc yc ck bn (N - 1) w0 W1 hkid (HW0.out.trans (hW1.mono HW0.out.size)) HBB.out.1 ((hW1.block bn (Array.getElem?_eq_some_iff.1 HBK.out).1).trans HBK.out) (HALL.out _ (List.getElem_mem hkn)) HNN.out.1 HNN.out.2 (by omega) (by omega)
   obtain ⟨xo, hxo⟩ : ∃ xo, xo = (toL n.kids)[k].op := ⟨_, rfl⟩
   obtain ⟨xn, hxn⟩ : ∃ xn, xn = (toL n.kids)[k].cl.length := ⟨_, rfl⟩
   obtain ⟨xk, hxk⟩ : ∃ xk, xk = (toL (toL n.kids)[k].kids).length := ⟨_, rfl⟩
   rw [← hxo] at k0 HV
   rw [← hxn] at k1 HV
   rw [← hxk] at k2 HV
   obtain ⟨W1, hW1⟩ : ∃ W1, W1 = wr.alloc (.cells #[.int .i64 xo, .slice xa xn xc, .slice ya xk yc] 56) := ⟨_, rfl⟩
   have HBW : Hid (Below wr.heap.size wr W1) := by rw [hW1]; exact (Below.refl _ wr).alloc (Nat.le_refl _) _
   have HCC := HV.out W1 HBW.out
   have HC : Hid (Calls Tryd.prog 40 #[.agg #[.int .i64 xo, .slice xa xn xc, .slice ya xk yc], .int .i64 (N - 1), .pointer (some ⟨bn, 0, none⟩)] W1 (BdPost (toL n.kids)[k] ck bn W1)) := HCC
   clear HCC HV hkid c0' c1' c2' hxo hxn hxk
   go_wp2_with fail
   rw [← hW1]
   clear hW1 k0 k1 k2
   refine HC.out.mono ?_
   rintro e w3 ⟨c3, rfl, hg3, hb3, hc3⟩
   have HG3 : Hid (w.grownBy w3 (some bn)) := grown_all (grown_all HG.out ⟨HBW.out.os, HBW.out.tape, HBW.out.output, HBW.out.size, fun k hk _ => HBW.out.block k hk⟩) hg3
   have HB3 : Hid (w3.heap[bn]? = some (.cells #[nI c3] 3)) := hb3
   have HNX : Hid (c3 + wdsL ((toL n.kids).take (k + 1)) = c1) := by
    have h2 := HCK.out
    show _ = _
    rw [take_snoc _ k hkn, wdsL_snoc]; omega
   clear hg3 hb3 hc3 HC
   go_wp2
   go_roundw
   case rel => exact ⟨k + 1, c3, by omega, by go_num, HG3.out, HB3.out, HNX.out⟩
   case measure => simp [intOf]; omega
  ·obtain rfl : k = K := by omega
   have HFN : Hid (BdPost n c bn w (.returned (.bool true)) wr) := by
    have ht : (toL n.kids).take k = toL n.kids := List.take_of_length_le (by rw [← HK.out]; exact Nat.le_refl _)
    have h1 := HCK.out
    rw [ht] at h1
    have h3 := HC1.out
    exact ⟨ck, rfl, HG.out, HBK.out, by omega⟩
   go_wp2
   go_ret
   exact HFN.out
theorem bd_any : (d : Nat) → BdC d
 | 0 => fun D n ca pa cc pc c bn N w0 w hin hb0 hbn hbc hok => by simp [okN] at hok
 | d + 1 => bd_up d (bd_any d)
end Go.Proofs.YtclogekfdmikpaaDoor

/- Nodes that are new: the memory that turned leaves. -/
namespace Go.Proofs.YtclogekfdmikpaaDoor
open Go.RowKit
set_option linter.unusedVariables false
set_option linter.unusedSimpArgs false

def NwV (A : Nat) (w : World) : Nat → Nd → List Value → Prop
 | 0, _, _ => False
 | d + 1, n, vs => ∃ ca cc pa pc, vs = [.int .i64 n.op, .slice ca n.cl.length cc, .slice pa (toL n.kids).length pc] ∧ Rd .i64 w ca n.cl.length n.cl ∧ (0 < n.cl.length → ∀ x, ca = some x → A ≤ x.block) ∧ (n.cl.length ≤ 24 ∧ (ca = none → cc = 0)) ∧ (toL n.kids).length ≤ 400 ∧
     (0 < (toL n.kids).length → ∃ b off, pa = some ⟨b, off, none⟩ ∧ A ≤ b ∧ ∀ i (hi : i < (toL n.kids).length), ∃ us, NwV A w d (toL n.kids)[i] us ∧ ∀ j v, us[j]? = some v → w.cell? ⟨b, off + i * 3 + j, none⟩ = some v)
theorem NwV.in {A : Nat} {w : World} : (d : Nat) → {n : Nd} → {vs : List Value} → NwV A w d n vs → InV w.heap.size w d n vs
 | 0, _, _, h => h.elim
 | d + 1, n, vs, h => by
   obtain ⟨ca, cc, pa, pc, h1, h2, h3, h4, h5, h6⟩ := h
   refine ⟨ca, cc, pa, pc, h1, h2, h2.lt, ⟨by omega, h4.2⟩, by omega, fun hp => ?_⟩
   obtain ⟨b, off, e, _, hk⟩ := h6 hp
   refine ⟨b, off, e, fun i hi => ?_⟩
   obtain ⟨us, k1, k2⟩ := hk i hi
   exact ⟨us, k1.in d, k2⟩
theorem cell_grown {w w' : World} {row : Option Nat} (hg : w.grownBy w' row) {a : Addr} {v : Value} (h : w.cell? a = some v) (hne : some a.block ≠ row) : w'.cell? a = some v :=
 (hg.cell_far a (World.block_lt_of_cell? w _ h) hne).trans h
theorem NwV.grown {A : Nat} {w w' : World} {row : Option Nat} (hg : w.grownBy w' row) (hr : ∀ g, row = some g → g < A) : (d : Nat) → {n : Nd} → {vs : List Value} → NwV A w d n vs → NwV A w' d n vs
 | 0, _, _, h => h.elim
 | d + 1, n, vs, h => by
   obtain ⟨ca, cc, pa, pc, h1, h2, h3, h4, h5, h6⟩ := h
   refine ⟨ca, cc, pa, pc, h1, ⟨h2.1, fun hp => ?_⟩, h3, h4, h5, fun hp => ?_⟩
   ·obtain ⟨b, off, e, hc⟩ := h2.2 hp
    refine ⟨b, off, e, fun t ht => cell_grown hg (hc t ht) (fun e' => ?_)⟩
    have := h3 hp _ e
    have := hr b e'.symm
    simp at *
    omega
   ·obtain ⟨b, off, e, hb, hk⟩ := h6 hp
    refine ⟨b, off, e, hb, fun i hi => ?_⟩
    obtain ⟨us, k1, k2⟩ := hk i hi
    refine ⟨us, k1.grown hg hr d, fun j v hv => cell_grown hg (k2 j v hv) (fun e' => ?_)⟩
    have := hr b e'.symm
    omega
theorem grown_below {w w' : World} (hb : Below w.heap.size w w') (row : Option Nat) : w.grownBy w' row := ⟨hb.os, hb.tape, hb.output, hb.size, fun k hk _ => hb.block k hk⟩
theorem NwV.later {A : Nat} {w w' : World} (hb : Below w.heap.size w w') (d : Nat) {n : Nd} {vs : List Value} (h : NwV A w d n vs) : NwV A w' d n vs := h.grown (row := none) (grown_below hb none) (fun g hg => by cases hg) d
theorem NwV.mono {A A' : Nat} {w : World} (hA : A' ≤ A) : (d : Nat) → {n : Nd} → {vs : List Value} → NwV A w d n vs → NwV A' w d n vs
 | 0, _, _, h => h.elim
 | d + 1, n, vs, h => by
   obtain ⟨ca, cc, pa, pc, h1, h2, h3, h4, h5, h6⟩ := h
   refine ⟨ca, cc, pa, pc, h1, h2, fun hp x hx => Nat.le_trans hA (h3 hp x hx), h4, h5, fun hp => ?_⟩
   obtain ⟨b, off, e, hb, hk⟩ := h6 hp
   refine ⟨b, off, e, Nat.le_trans hA hb, fun i hi => ?_⟩
   obtain ⟨us, k1, k2⟩ := hk i hi
   exact ⟨us, k1.mono hA d, k2⟩
theorem list_of {α : Type} (K : Nat) (P : (i : Nat) → i < K → α → Prop) (h : ∀ i (hi : i < K), ∃ x, P i hi x) : ∃ xs : List α, ∃ hl : xs.length = K, ∀ i (hi : i < K), P i hi (xs[i]'(by omega)) := by
 refine ⟨List.ofFn (fun i : Fin K => Classical.choose (h i.1 i.2)), by simp, fun i hi => ?_⟩
 rw [List.getElem_ofFn]
 exact Classical.choose_spec (h i hi)
theorem InV.parts {B : Nat} {w : World} {d : Nat} {n : Nd} {ca pa : Option Addr} {cn cc kn pc : Nat} {op : Int} (h : InV B w d n [.int .i64 op, .slice ca cn cc, .slice pa kn pc]) :
 ∃ xs : List Nk, ∃ hl : xs.length = (toL n.kids).length, (∀ i (hi : i < (toL n.kids).length), ∃ d', InV B w d' (toL n.kids)[i] (xs[i]'(by omega)).vals) ∧ (pa = none → (toL n.kids).length = 0) ∧ ∀ b, pa = some b → ∀ j u, (flatN xs)[j]? = some u → w.cell? (b.add j) = some u := by
 obtain ⟨xs, hl, hx⟩ := list_of (α := Nk) (toL n.kids).length (fun i hi x => ∃ b off d', pa = some ⟨b, off, none⟩ ∧ InV B w d' (toL n.kids)[i] x.vals ∧ w.cell? ⟨b, off + i * 3, none⟩ = some (.int .i64 x.op) ∧ w.cell? ⟨b, off + i * 3 + 1, none⟩ = some (.slice x.ca x.cn x.cc) ∧ w.cell? ⟨b, off + i * 3 + 2, none⟩ = some (.slice x.pa x.pn x.pc)) (fun i hi => by
  obtain ⟨b, off, x, c, y, e, d', hpa, hk, _, c0, c1, c2⟩ := h.kid i hi
  exact ⟨⟨(toL n.kids)[i].op, x, (toL n.kids)[i].cl.length, c, y, (toL (toL n.kids)[i].kids).length, e⟩, b, off, d', hpa, hk, c0, c1, c2⟩)
 refine ⟨xs, hl, fun i hi => ?_, fun hn => ?_, fun a ha j u hu => ?_⟩
 ·obtain ⟨b, off, d', _, hk, _⟩ := hx i hi
  exact ⟨d', hk⟩
 ·rcases Nat.eq_zero_or_pos (toL n.kids).length with h0 | h0
  ·exact h0
  ·obtain ⟨b, off, d', hpa, _⟩ := hx 0 h0
   rw [hn] at hpa
   cases hpa
 ·have hj : j < xs.length * 3 := by
   have := (List.getElem?_eq_some_iff.1 hu).1
   rw [flatN_len] at this
   exact this
  obtain ⟨p, q, hq, rfl⟩ : ∃ p q, q < 3 ∧ j = p * 3 + q := ⟨j / 3, j % 3, Nat.mod_lt _ (by omega), by omega⟩
  have hp : p < (toL n.kids).length := by omega
  obtain ⟨b, off, d', hpa, _, c0, c1, c2⟩ := hx p hp
  rw [ha] at hpa
  cases hpa
  rw [flatN_get xs p q hq, List.getElem?_eq_getElem (by omega)] at hu
  have hadd : (⟨b, off, none⟩ : Addr).add (p * 3 + q) = ⟨b, off + p * 3 + q, none⟩ := by rw [show off + p * 3 + q = off + (p * 3 + q) by omega]; unfold Addr.add; split <;> simp_all
  rw [hadd]
  rcases (by omega : q = 0 ∨ q = 1 ∨ q = 2) with rfl | rfl | rfl
  ·rw [← hu]; exact c0
  ·rw [← hu]; exact c1
  ·rw [← hu]; exact c2
def TuAt (A0 A1 T d : Nat) (n : Nd) (a1 a2 : Option Addr) (cn c1 K c2 : Nat) (xs : List Nk) (k : Nat) (ys : List Nk) (w : World) : Prop :=
 ∃ hl : ys.length = (toL n.kids).length, w.ownsRow A0 56 3 (.slice a2 K c2) K (flatN ys) ∧ w.ownsRow A0 3 1 (.slice a1 cn c1) cn (n.cl.map (Value.int .i64)) ∧ w.heap[T]? = some (.cells #[.int .i64 n.op, .slice a1 cn c1, .slice a2 K c2] 56) ∧ (∀ i (hi : i < (toL n.kids).length), i < k → NwV A1 w d (toL n.kids)[i].rev (ys[i]'(by omega)).vals) ∧ (∀ i, k ≤ i → ys[i]? = xs[i]?) ∧ A1 ≤ w.heap.size ∧ T < A1 ∧ (∀ g, (Value.slice a2 K c2).ownBlock = some g → g ≠ T ∧ g < A1)
theorem TuAt.later {A0 A1 T d : Nat} {n : Nd} {a1 a2 : Option Addr} {cn c1 K c2 : Nat} {xs : List Nk} {k : Nat} {ys : List Nk} {w w' : World} (h : TuAt A0 A1 T d n a1 a2 cn c1 K c2 xs k ys w) (hb : Below w.heap.size w w') : TuAt A0 A1 T d n a1 a2 cn c1 K c2 xs k ys w' := by
 obtain ⟨hl, h1, h2, h3, h4, h5, h6, h7, h8⟩ := h
 exact ⟨hl, own_later5 h1 hb, own_later5 h2 hb, (hb.block T (Array.getElem?_eq_some_iff.1 h3).1).trans h3, fun i hi hk => (h4 i hi hk).later hb d, h5, Nat.le_trans h6 hb.size, h7, h8⟩
theorem TuAt.step {A0 A1 T d : Nat} {n : Nd} {a1 : Option Addr} {g cn c1 K c2 : Nat} {xs : List Nk} {k : Nat} {ys : List Nk} {w : World} {x : Nk} (h : TuAt A0 A1 T d n a1 (some ⟨g, 0, none⟩) cn c1 K c2 xs k ys w) (hk : k < (toL n.kids).length) (hx : NwV A1 w d (toL n.kids)[k].rev x.vals) : TuAt A0 A1 T d n a1 (some ⟨g, 0, none⟩) cn c1 K c2 xs (k + 1) (ys.set k x) (F3 w g (k * 3) x) := by
 obtain ⟨hl, h1, h2, h3, h4, h5, h6, h7, h8⟩ := h
 have hg := f3_grown w g (k * 3) x
 have hgT := h8 g rfl
 have hr : ∀ q, some g = some q → q < A1 := fun q hq => by cases hq; exact hgT.2
 refine ⟨by rw [List.length_set]; exact hl, own_set3 h1 k (by omega) x, h2.kept hg ?_, (hg.block T (Array.getElem?_eq_some_iff.1 h3).1 (fun e => hgT.1 (Option.some.inj e).symm)).trans h3, fun i hi hik => ?_, fun i hi => ?_, Nat.le_trans h6 hg.size, h7, h8⟩
 ·have := own_ne2 h2 h1 (by decide)
  exact this
 ·rcases Nat.lt_or_ge i k with h0 | h0
  ·rw [List.getElem_set_ne (by omega)]
   exact (h4 i hi h0).grown hg hr d
  ·obtain rfl : i = k := by omega
   rw [List.getElem_set_self]
   exact hx.grown hg hr d
 ·rw [List.getElem?_set_ne (by omega)]
  exact h5 i (by omega)
theorem TuAt.fin {A0 A1 T d : Nat} {n : Nd} {a1 a2 : Option Addr} {cn c1 K c2 : Nat} {xs ys : List Nk} {w w' : World} (h : TuAt A0 A1 T d n a1 a2 cn c1 K c2 xs K ys w) (hK : K = (toL n.kids).length) (hcn : cn = n.cl.length) (hc : cn ≤ 24) (hk : K ≤ 400) (hg : w.grownBy w' (Value.slice a2 K c2).ownBlock) (ho : w'.ownsRow A0 56 3 (.slice a2 K c2) K (flatN (turnK n.op ys))) (hA : A0 ≤ A1) :
 NwV A0 w' (d + 1) n.rev [.int .i64 n.op, .slice a1 cn c1, .slice a2 K c2] ∧ w'.heap[T]? = some (.cells #[.int .i64 n.op, .slice a1 cn c1, .slice a2 K c2] 56) := by
 obtain ⟨hl, h1, h2, h3, h4, h5, h6, h7, h8⟩ := h
 have hT : w'.heap[T]? = some (.cells #[.int .i64 n.op, .slice a1 cn c1, .slice a2 K c2] 56) := (hg.block T (Array.getElem?_eq_some_iff.1 h3).1 (fun e => (h8 T e.symm).1 rfl)).trans h3
 have h2' : w'.ownsRow A0 3 1 (.slice a1 cn c1) cn (n.cl.map (Value.int .i64)) := h2.kept hg (own_ne2 h2 h1 (by decide))
 refine ⟨?_, hT⟩
 have hlen : (toL n.rev.kids).length = K := by rw [tuN_len, hK]
 obtain ⟨a', c', e', _, _, hr, hn⟩ := rd_own2 h2'
 cases e'
 refine ⟨a1, c1, a2, c2, by rw [hlen, hcn]; rfl, by show Rd .i64 w' a1 n.cl.length n.cl; rw [← hcn]; exact hr, fun hp x hx => ?_, ⟨by show n.cl.length ≤ 24; omega, hn⟩, by omega, fun hp => ?_⟩
 ·subst hx
  have hp' : 0 < cn := by rw [hcn]; exact hp
  obtain ⟨y, hy, hby, _⟩ := own_cells1 h2' hp'
  cases hy
  exact hby
 ·have hp' : 0 < K := by omega
  obtain ⟨g, rfl, hbg, cur, _, _, _, hcs⟩ := own_cells3 ho hp'
  refine ⟨g, 0, rfl, hbg, fun i hi => ?_⟩
  have hi' : i < (turnK n.op ys).length := by rw [turnK_len, hl]; omega
  have hgl : ∀ q, (Value.slice (some ⟨g, 0, none⟩) K c2).ownBlock = some q → q < A1 := fun q hq => (h8 q hq).2
  have hkids : toL n.rev.kids = turnK n.op ((toL n.kids).map Nd.rev) := rev_kids n
  have hnw : NwV A1 w' d (toL n.rev.kids)[i] (turnK n.op ys)[i].vals := by
   unfold turnK at hkids hi' ⊢
   by_cases h2p : n.op = 2
   ·simp only [h2p, if_true] at hkids hi' ⊢
    simp only [hkids, List.getElem_reverse, List.getElem_map, List.length_map]
    have := (h4 ((toL n.kids).length - 1 - i) (by omega) (by omega)).grown hg hgl d
    simp only [hl]
    exact this
   ·simp only [h2p, if_false] at hkids hi' ⊢
    simp only [hkids, List.getElem_map]
    exact (h4 i (by omega) (by omega)).grown hg hgl d
  refine ⟨(turnK n.op ys)[i].vals, hnw.mono hA d, fun j v hv => ?_⟩
  obtain ⟨q0, q1, q2⟩ := hcs i hi'
  rw [Nat.zero_add]
  match j, hv with
  | 0, hv => rw [← hv]; exact q0
  | 1, hv => rw [← hv]; exact q1
  | 2, hv => rw [← hv]; exact q2
end Go.Proofs.YtclogekfdmikpaaDoor
