/- Rows of marked expressions as values; the walk of the library's Reverse of them. -/
import Derived.Test.YtjbhfonokgkalaaReaR
namespace Go.Proofs.Ytjbhfonokgkalaa
open Go.RowKit
set_option linter.unusedVariables false
theorem grown_drew (w : World) (row : Option Nat) : w.grownBy w.drew row := ⟨rfl, rfl, rfl, Nat.le_refl _, fun _ _ _ => rfl⟩
theorem own_later5 {w w' : World} {B : Nat} {e : TypeId} {s : Nat} {v : Value} {n : Nat} {xs : List Value} (h : w.ownsRow B e s v n xs) (hb : Below w.heap.size w w') : w'.ownsRow B e s v n xs :=
  h.kept (row := none) ⟨hb.os, hb.tape, hb.output, hb.size, fun k hk _ => hb.block k hk⟩ (Classical.em _)

/-- The values of a marked expression. -/
structure Mk where
  op : Int
  ca : Option Addr
  cn : Nat
  cc : Nat
  pa : Option Addr
  pn : Nat
  pc : Nat
  em : Bool
  en : Bool
def Mk.zero : Mk := ⟨0, none, 0, 0, none, 0, 0, false, false⟩
def Mk.vals (x : Mk) : List Value := [.int .i64 x.op, .slice x.ca x.cn x.cc, .slice x.pa x.pn x.pc, .bool x.em, .bool x.en]
def flatK (xs : List Mk) : List Value := xs.flatMap Mk.vals
theorem flatK_len : (xs : List Mk) → (flatK xs).length = xs.length * 5
  | [] => rfl
  | x :: r => by
    show (x.vals ++ flatK r).length = _
    rw [List.length_append, flatK_len r]
    simp [Mk.vals]
    omega
theorem flatK_get : (xs : List Mk) → (i j : Nat) → j < 5 → (flatK xs)[i * 5 + j]? = (xs[i]?).bind fun x => x.vals[j]?
  | [], i, j, _ => by simp [flatK]
  | x :: r, 0, j, hj => by
    show (x.vals ++ flatK r)[0 * 5 + j]? = _
    rw [List.getElem?_append_left (by simp [Mk.vals]; omega)]
    simp
  | x :: r, i + 1, j, hj => by
    show (x.vals ++ flatK r)[(i + 1) * 5 + j]? = _
    rw [List.getElem?_append_right (by simp [Mk.vals]; omega), show (i + 1) * 5 + j - x.vals.length = i * 5 + j by simp [Mk.vals]; omega, flatK_get r i j hj]
    simp
theorem flatK_at (xs : List Mk) (i : Nat) (hi : i < xs.length) : ((flatK xs).drop (i * 5)).take 5 = xs[i].vals := by
  apply List.ext_getElem?
  intro j
  rw [List.getElem?_take]
  by_cases hj : j < 5
  · rw [if_pos hj, List.getElem?_drop, flatK_get xs i j hj, List.getElem?_eq_getElem hi]; rfl
  · rw [if_neg hj, List.getElem?_eq_none (by simp [Mk.vals]; omega)]
/-- Five cells are written. -/
def F5 (W : World) (g o : Nat) (x : Mk) : World := ((((W.setCell ⟨g, o, none⟩ (.int .i64 x.op)).setCell ⟨g, o + 1, none⟩ (.slice x.ca x.cn x.cc)).setCell ⟨g, o + 2, none⟩ (.slice x.pa x.pn x.pc)).setCell ⟨g, o + 3, none⟩ (.bool x.em)).setCell ⟨g, o + 4, none⟩ (.bool x.en)
def A5 (cur : Array Value) (o : Nat) (x : Mk) : Array Value := ((((cur.setIfInBounds o (.int .i64 x.op)).setIfInBounds (o + 1) (.slice x.ca x.cn x.cc)).setIfInBounds (o + 2) (.slice x.pa x.pn x.pc)).setIfInBounds (o + 3) (.bool x.em)).setIfInBounds (o + 4) (.bool x.en)
theorem f5_grown (W : World) (g o : Nat) (x : Mk) : W.grownBy (F5 W g o x) (some g) :=
  grown_all (grown_all (grown_all (grown_all (grown_cell W g o _) (grown_cell _ g _ _)) (grown_cell _ g _ _)) (grown_cell _ g _ _)) (grown_cell _ g _ _)
theorem f5_heap {W : World} {g : Nat} {cur : Array Value} {t : TypeId} (o : Nat) (x : Mk) (h : W.heap[g]? = some (.cells cur t (0, 0))) : (F5 W g o x).heap[g]? = some (.cells (A5 cur o x) t (0, 0)) :=
  heap_setCell_same _ g _ _ _ _ (heap_setCell_same _ g _ _ _ _ (heap_setCell_same _ g _ _ _ _ (heap_setCell_same _ g _ _ _ _ (heap_setCell_same _ g _ _ _ _ h))))
theorem a5_size (cur : Array Value) (o : Nat) (x : Mk) : (A5 cur o x).size = cur.size := by simp [A5]
theorem a5_get (cur : Array Value) (o : Nat) (x : Mk) (h : o + 4 < cur.size) (q : Nat) : (A5 cur o x)[q]? = if o ≤ q ∧ q < o + 5 then x.vals[q - o]? else cur[q]? := by
  unfold A5
  by_cases hq : o ≤ q ∧ q < o + 5
  · rw [if_pos hq]
    obtain ⟨j, rfl⟩ : ∃ j, q = o + j := ⟨q - o, by omega⟩
    rw [show o + j - o = j by omega]
    rcases (by omega : j = 0 ∨ j = 1 ∨ j = 2 ∨ j = 3 ∨ j = 4) with rfl | rfl | rfl | rfl | rfl
    · rw [Array.getElem?_setIfInBounds_ne (by omega), Array.getElem?_setIfInBounds_ne (by omega), Array.getElem?_setIfInBounds_ne (by omega), Array.getElem?_setIfInBounds_ne (by omega)]
      rw [Nat.add_zero, Array.getElem?_setIfInBounds_self_of_lt (by omega)]; rfl
    · rw [Array.getElem?_setIfInBounds_ne (by omega), Array.getElem?_setIfInBounds_ne (by omega), Array.getElem?_setIfInBounds_ne (by omega), Array.getElem?_setIfInBounds_self_of_lt (by simp; omega)]; rfl
    · rw [Array.getElem?_setIfInBounds_ne (by omega), Array.getElem?_setIfInBounds_ne (by omega), Array.getElem?_setIfInBounds_self_of_lt (by simp; omega)]; rfl
    · rw [Array.getElem?_setIfInBounds_ne (by omega), Array.getElem?_setIfInBounds_self_of_lt (by simp; omega)]; rfl
    · rw [Array.getElem?_setIfInBounds_self_of_lt (by simp; omega)]; rfl
  · rw [if_neg hq, Array.getElem?_setIfInBounds_ne (by omega), Array.getElem?_setIfInBounds_ne (by omega), Array.getElem?_setIfInBounds_ne (by omega), Array.getElem?_setIfInBounds_ne (by omega), Array.getElem?_setIfInBounds_ne (by omega)]
theorem own_cells5 {w : World} {B : Nat} {e : TypeId} {n : Nat} {a : Option Addr} {cap : Nat} {xs : List Mk} (h : w.ownsRow B e 5 (.slice a n cap) n (flatK xs)) (hn : 0 < n) : ∃ g, a = some ⟨g, 0, none⟩ ∧ B ≤ g ∧ ∃ cur, w.heap[g]? = some (.cells cur e (0, 0)) ∧ n * 5 ≤ cur.size ∧ (cur.toList.take (n * 5) = flatK xs) ∧ ∀ i (hi : i < xs.length), w.cell? ⟨g, i * 5, none⟩ = some (.int .i64 xs[i].op) ∧ w.cell? ⟨g, i * 5 + 1, none⟩ = some (.slice xs[i].ca xs[i].cn xs[i].cc) ∧ w.cell? ⟨g, i * 5 + 2, none⟩ = some (.slice xs[i].pa xs[i].pn xs[i].pc) ∧ w.cell? ⟨g, i * 5 + 3, none⟩ = some (.bool xs[i].em) ∧ w.cell? ⟨g, i * 5 + 4, none⟩ = some (.bool xs[i].en) := by
  rcases h.2 with ⟨hv, h0⟩ | ⟨g, cap', cur, hv, hb, hg, hnc, hm, hs, ht⟩
  · omega
  · cases hv
    have hle : n * 5 ≤ cur.size := by rw [hs]; exact Nat.mul_le_mul_right 5 hnc
    refine ⟨g, rfl, hb, cur, hg, hle, ht, fun i hi => ?_⟩
    have hxl : xs.length * 5 = n * 5 := by rw [← flatK_len]; exact h.1
    have key : ∀ j, j < 5 → w.cell? ⟨g, i * 5 + j, none⟩ = xs[i].vals[j]? := by
      intro j hj
      have h2 := flatK_get xs i j hj
      rw [← ht, List.getElem?_take, if_pos (by omega), List.getElem?_eq_getElem hi] at h2
      rw [cell_of_row w g _ _ _ _ hg]
      simpa using h2
    exact ⟨key 0 (by omega), key 1 (by omega), key 2 (by omega), key 3 (by omega), key 4 (by omega)⟩
theorem own_set5 {w : World} {B : Nat} {e : TypeId} {n : Nat} {g cap : Nat} {xs : List Mk} (h : w.ownsRow B e 5 (.slice (some ⟨g, 0, none⟩) n cap) n (flatK xs)) (i : Nat) (hi : i < xs.length) (x : Mk) : (F5 w g (i * 5) x).ownsRow B e 5 (.slice (some ⟨g, 0, none⟩) n cap) n (flatK (xs.set i x)) := by
  refine ⟨by rw [flatK_len, List.length_set, ← flatK_len]; exact h.1, ?_⟩
  rcases h.2 with ⟨hv, h0⟩ | ⟨g', cap', cur, hv, hb, hg, hnc, hm, hs, ht⟩
  · cases hv
  · cases hv
    have hle : n * 5 ≤ cur.size := by rw [hs]; exact Nat.mul_le_mul_right 5 hnc
    have hxl : xs.length * 5 = n * 5 := by rw [← flatK_len]; exact h.1
    refine .inr ⟨g, cap, A5 cur (i * 5) x, rfl, hb, f5_heap _ _ hg, hnc, hm, by rw [a5_size]; exact hs, ?_⟩
    apply List.ext_getElem?
    intro q
    obtain ⟨p, j, hj, rfl⟩ : ∃ p j, j < 5 ∧ q = p * 5 + j := ⟨q / 5, q % 5, Nat.mod_lt _ (by omega), by omega⟩
    rw [flatK_get _ p j hj, List.getElem?_take]
    have hold := flatK_get xs p j hj
    rw [← ht, List.getElem?_take] at hold
    by_cases hp : p < n
    · rw [if_pos (by omega)] at hold ⊢
      rw [Array.getElem?_toList, a5_get cur (i * 5) x (by omega)]
      rw [Array.getElem?_toList] at hold
      by_cases hpi : p = i
      · subst hpi
        rw [if_pos (by omega), List.getElem?_set_self hi]
        show _ = x.vals[j]?
        congr 1
        omega
      · rw [if_neg (by omega), List.getElem?_set_ne (fun e => hpi e.symm)]
        exact hold
    · rw [if_neg (by omega), List.getElem?_eq_none (by simp; omega)]
      rfl

set_option maxHeartbeats 4000000 in
theorem revK_any (xs : List Mk) (v : Value) (B : Nat) (w : World) (ho : w.ownsRow B 82 5 v xs.length (flatK xs)) (hm : xs.length ≤ 9223372036854775806) :
    Calls Try.prog 86 #[v] w fun e w' => e = .returned (.tuple #[]) ∧ w.grownBy w' v.ownBlock ∧ w'.ownsRow B 82 5 v xs.length (flatK xs.reverse) := by
  obtain ⟨a, cap, rfl⟩ := own_sl1 ho
  obtain ⟨N, hN⟩ : ∃ N, N = xs.length := ⟨_, rfl⟩
  have hNi : (N : Int) ≤ 9223372036854775806 := by omega
  rw [← hN]
  rw [← hN] at ho
  have HO : Hid (w.ownsRow B 82 5 (.slice a N cap) N (flatK xs)) := ho
  have HN : Hid (N = xs.length) := hN
  clear ho hm hN
  go_enter Try.func86, Try.ntmps86
  go_wp2
  go_loopw [2, 3] (fun x2 x3 wr => ∃ i : Nat, x2 = .int .i64 i ∧ x3 = .int .i64 ((N : Int) - 1 - i) ∧ 2 * i ≤ N ∧ ∃ ys : List Mk, ys.length = N ∧ (∀ p, p < N → ys.getD p Mk.zero = if p < i ∨ N - i ≤ p then xs.getD (N - 1 - p) Mk.zero else xs.getD p Mk.zero) ∧ wr.ownsRow B 82 5 (.slice a N cap) N (flatK ys) ∧ w.grownBy wr (Value.slice a N cap).ownBlock) (fun x2 _ _ => N - (intOf x2).toNat)
  case atStart => exact ⟨0, rfl, by go_num, by omega, xs, HN.out.symm, fun p hp => by rw [if_neg (by omega)], HO.out, ⟨rfl, rfl, rfl, Nat.le_refl _, fun _ _ _ => rfl⟩⟩
  case round =>
    obtain ⟨i, hx2, hx3, hi, ys, hyl, hy, hown, hgr⟩ := hrel
    subst hx2
    subst hx3
    have HY : Hid (∀ p, p < N → ys.getD p Mk.zero = if p < i ∨ N - i ≤ p then xs.getD (N - 1 - p) Mk.zero else xs.getD p Mk.zero) := hy
    have HYL : Hid (ys.length = N) := hyl
    have HOW : Hid (wr.ownsRow B 82 5 (.slice a N cap) N (flatK ys)) := hown
    have HGR : Hid (w.grownBy wr (Value.slice a N cap).ownBlock) := hgr
    clear hyl hy hgr
    by_cases hlt : (i : Int) < (N : Int) - 1 - i
    · obtain ⟨g, rfl, hBg, cur, hg, hsz, htk, hlc⟩ := own_cells5 hown (by omega)
      obtain ⟨j, hj⟩ : ∃ j : Nat, (j : Int) = (N : Int) - 1 - i := ⟨N - 1 - i, by omega⟩
      have hjN : j < N := by omega
      have hiN : i < N := by omega
      have hij : i < j := by omega
      rw [← hj] at hlt ⊢
      have HJ : Hid (j = N - 1 - i) := by show j = N - 1 - i; omega
      clear hj
      obtain ⟨yi, hyi⟩ : ∃ yi, yi = ys.getD i Mk.zero := ⟨_, rfl⟩
      obtain ⟨yj, hyj⟩ : ∃ yj, yj = ys.getD j Mk.zero := ⟨_, rfl⟩
      have hyi2 : ys[i]'(by rw [HYL.out]; exact hiN) = yi := by rw [hyi]; simp [HYL.out, hiN]
      have hyj2 : ys[j]'(by rw [HYL.out]; exact hjN) = yj := by rw [hyj]; simp [HYL.out, hjN]
      obtain ⟨i0, i1, i2, i3, i4⟩ := hlc i (by rw [HYL.out]; exact hiN)
      obtain ⟨j0, j1, j2, j3, j4⟩ := hlc j (by rw [HYL.out]; exact hjN)
      rw [hyi2] at i0 i1 i2 i3 i4
      rw [hyj2] at j0 j1 j2 j3 j4
      have HFZ : ∀ q, wr.frozen? ⟨g, q, none⟩ = false := fun q => Lib.frozen_of_heap hg _
      have fi0 := HFZ (i * 5)
      have fi1 := HFZ (i * 5 + 1)
      have fi2 := HFZ (i * 5 + 2)
      have fi3 := HFZ (i * 5 + 3)
      have fi4 := HFZ (i * 5 + 4)
      have fj0 := HFZ (j * 5)
      have fj1 := HFZ (j * 5 + 1)
      have fj2 := HFZ (j * 5 + 2)
      have fj3 := HFZ (j * 5 + 3)
      have fj4 := HFZ (j * 5 + 4)
      have hapart : i * 5 + 5 ≤ j * 5 := by omega
      have HNEW : Hid (∃ zs : List Mk, zs.length = N ∧ (∀ p, p < N → zs.getD p Mk.zero = if p < i + 1 ∨ N - (i + 1) ≤ p then xs.getD (N - 1 - p) Mk.zero else xs.getD p Mk.zero) ∧ (F5 (F5 wr g (i * 5) yj) g (j * 5) yi).drew.ownsRow B 82 5 (.slice (some ⟨g, 0, none⟩) N cap) N (flatK zs) ∧ w.grownBy (F5 (F5 wr g (i * 5) yj) g (j * 5) yi).drew (Value.slice (some ⟨g, 0, none⟩) N cap).ownBlock) := by
        refine ⟨(ys.set i yj).set j yi, by simp [HYL.out], fun p hp => ?_, ?_, ?_⟩
        · rw [List.getD_eq_getElem?_getD]
          have hyl := HYL.out
          have hjj := HJ.out
          by_cases h1 : p = j
          · subst h1
            rw [List.getElem?_set_self (by simp; omega), if_pos (by omega)]
            show yi = _
            rw [hyi, HY.out i hiN, if_neg (by omega), show N - 1 - p = i by omega]
          · rw [List.getElem?_set_ne (fun e => h1 e.symm)]
            by_cases h2 : p = i
            · subst h2
              rw [List.getElem?_set_self (by omega), if_pos (by omega)]
              show yj = _
              rw [hyj, HY.out j hjN, if_neg (by omega), hjj]
            · rw [List.getElem?_set_ne (fun e => h2 e.symm), ← List.getD_eq_getElem?_getD, HY.out p hp]
              by_cases h3 : p < i ∨ N - i ≤ p
              · rw [if_pos h3, if_pos (by omega)]
              · rw [if_neg h3, if_neg (by omega)]
        · exact own_later5 (own_set5 (own_set5 HOW.out i (by rw [HYL.out]; exact hiN) _) j (by rw [List.length_set, HYL.out]; exact hjN) _) (Below.refl _ _).drew
        · exact grown_all HGR.out (grown_all (grown_all (f5_grown wr g _ _) (f5_grown _ g _ _)) (grown_drew _ _))
      clear hown hg hsz htk hlc hyi hyj hyi2 hyj2 HY HYL HOW HGR HFZ
      go_wp2_with fail
      go_region
      go_wp2
      go_roundw
      case rel =>
        have hj1 := HJ.out
        refine ⟨i + 1, by go_num, ?_, by omega, HNEW.out⟩
        congr 1
        omega
      case measure => simp [intOf]; omega
    · have HFIN : Hid (w.grownBy wr (Value.slice a N cap).ownBlock ∧ wr.ownsRow B 82 5 (.slice a N cap) N (flatK xs.reverse)) := by
        refine ⟨HGR.out, ?_⟩
        have : ys = xs.reverse := by
          apply List.ext_getElem
          · rw [List.length_reverse, HYL.out, HN.out]
          · intro p h1 h2
            have h3 := HY.out p (by rw [← HYL.out]; exact h1)
            have h4 := HN.out
            have h5 := HYL.out
            rw [List.getElem_reverse]
            rw [List.getD_eq_getElem?_getD, List.getElem?_eq_getElem h1] at h3
            by_cases hc : p < i ∨ N - i ≤ p
            · rw [if_pos hc, List.getD_eq_getElem?_getD, List.getElem?_eq_getElem (by omega)] at h3
              simp only [Option.getD_some] at h3
              rw [h3]
              congr 1
              omega
            · rw [if_neg hc, List.getD_eq_getElem?_getD, List.getElem?_eq_getElem (by omega)] at h3
              simp only [Option.getD_some] at h3
              rw [h3]
              congr 1
              omega
        rw [← this]
        exact HOW.out
      clear hown HY HYL HOW HGR
      go_wp2
      go_end0
      exact ⟨rfl, HFIN.out⟩
end Go.Proofs.Ytjbhfonokgkalaa
