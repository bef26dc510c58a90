/- The walks of the library's Reverse and Clone. -/
import Derived.Test.YtjbhfonokgkalaaReaB
namespace Go.Proofs.Ytjbhfonokgkalaa
open Go.RowKit
set_option linter.unusedVariables false

theorem grown_cell (w : World) (g i : Nat) (v : Value) : w.grownBy (w.setCell ⟨g, i, none⟩ v) (some g) :=
  ⟨rfl, rfl, rfl, by simp [World.setCell], fun k _ hk => Below.heap_setCell _ _ _ k (fun e => hk (by rw [e]))⟩
theorem grown_all {w w1 w2 : World} {row : Option Nat} (h : w.grownBy w1 row) (h2 : w1.grownBy w2 row) : w.grownBy w2 row :=
  ⟨h2.os.trans h.os, h2.tape.trans h.tape, h2.output.trans h.output, Nat.le_trans h.size h2.size, fun k hk hne => (h2.block k (Nat.lt_of_lt_of_le hk h.size) hne).trans (h.block k hk hne)⟩
theorem own_sl1 {w : World} {B : Nat} {e : TypeId} {s n : Nat} {v : Value} {xs : List Value} (h : w.ownsRow B e s v n xs) : ∃ a c, v = .slice a n c := by
  rcases h.2 with ⟨rfl, rfl⟩ | ⟨g, cap, cur, rfl, _⟩
  · exact ⟨none, 0, rfl⟩
  · exact ⟨_, _, rfl⟩
theorem own_cells1 {w : World} {B : Nat} {e : TypeId} {n : Nat} {a : Option Addr} {cap : Nat} {vs : List Value} (h : w.ownsRow B e 1 (.slice a n cap) n vs) (hn : 0 < n) : ∃ g, a = some ⟨g, 0, none⟩ ∧ B ≤ g ∧ ∃ cur, w.heap[g]? = some (.cells cur e (0, 0)) ∧ ∀ i, i < n → w.cell? ⟨g, i, none⟩ = vs[i]? := by
  rcases h.2 with ⟨hv, h0⟩ | ⟨g, cap', cur, hv, hb, hg, hnc, hm, hs, ht⟩
  · omega
  · cases hv
    refine ⟨g, rfl, hb, cur, hg, fun i hi => ?_⟩
    rw [cell_of_row w g i _ _ _ hg, ← ht, List.getElem?_take, if_pos (by omega)]
    simp
theorem own_set1 {w : World} {B : Nat} {e : TypeId} {n : Nat} {g cap : Nat} {vs : List Value} (h : w.ownsRow B e 1 (.slice (some ⟨g, 0, none⟩) n cap) n vs) (i : Nat) (u : Value) : (w.setCell ⟨g, i, none⟩ u).ownsRow B e 1 (.slice (some ⟨g, 0, none⟩) n cap) n (vs.set i u) := by
  refine ⟨by simpa using h.1, ?_⟩
  rcases h.2 with ⟨hv, h0⟩ | ⟨g', cap', cur, hv, hb, hg, hnc, hm, hs, ht⟩
  · cases hv
  · cases hv
    refine .inr ⟨g, cap, cur.setIfInBounds i u, rfl, hb, heap_setCell_same w g i cur e u hg, hnc, hm, by simpa using hs, ?_⟩
    rw [Array.toList_setIfInBounds, List.take_set, ht]

set_option maxHeartbeats 4000000 in
theorem revI_any (xs : List Int) (v : Value) (B : Nat) (w : World) (ho : w.ownsRow B 3 1 v xs.length (xs.map (Value.int .i64))) (hm : xs.length ≤ 9223372036854775806) :
    Calls Try.prog 61 #[v] w fun e w' => e = .returned (.tuple #[]) ∧ w.grownBy w' v.ownBlock ∧ w'.ownsRow B 3 1 v xs.length (xs.reverse.map (Value.int .i64)) := by
  obtain ⟨a, cap, rfl⟩ := own_sl1 ho
  obtain ⟨N, hN⟩ : ∃ N, N = xs.length := ⟨_, rfl⟩
  have hNi : (N : Int) ≤ 9223372036854775806 := by omega
  rw [← hN]
  rw [← hN] at ho
  have HO : Hid (w.ownsRow B 3 1 (.slice a N cap) N (xs.map (Value.int .i64))) := ho
  have HN : Hid (N = xs.length) := hN
  clear ho hm hN
  go_enter Try.func61, Try.ntmps61
  go_wp2
  go_loopw [2, 3] (fun x2 x3 wr => ∃ i : Nat, x2 = .int .i64 i ∧ x3 = .int .i64 ((N : Int) - 1 - i) ∧ 2 * i ≤ N ∧ ∃ ys : List Int, ys.length = N ∧ (∀ p, p < N → ys.getD p 0 = if p < i ∨ N - i ≤ p then xs.getD (N - 1 - p) 0 else xs.getD p 0) ∧ wr.ownsRow B 3 1 (.slice a N cap) N (ys.map (Value.int .i64)) ∧ w.grownBy wr (Value.slice a N cap).ownBlock) (fun x2 _ _ => N - (intOf x2).toNat)
  case atStart => exact ⟨0, rfl, by go_num, by omega, xs, HN.out.symm, fun p hp => by rw [if_neg (by omega)], HO.out, ⟨rfl, rfl, rfl, Nat.le_refl _, fun _ _ _ => rfl⟩⟩
  case round =>
    obtain ⟨i, hx2, hx3, hi, ys, hyl, hy, hown, hgr⟩ := hrel
    subst hx2
    subst hx3
    have HY : Hid (∀ p, p < N → ys.getD p 0 = if p < i ∨ N - i ≤ p then xs.getD (N - 1 - p) 0 else xs.getD p 0) := hy
    have HYL : Hid (ys.length = N) := hyl
    have HOW : Hid (wr.ownsRow B 3 1 (.slice a N cap) N (ys.map (Value.int .i64))) := hown
    have HGR : Hid (w.grownBy wr (Value.slice a N cap).ownBlock) := hgr
    clear hyl hy hgr
    by_cases hlt : (i : Int) < (N : Int) - 1 - i
    · obtain ⟨g, rfl, hBg, cur, hg, hlc⟩ := own_cells1 hown (by omega)
      obtain ⟨j, hj⟩ : ∃ j : Nat, (j : Int) = (N : Int) - 1 - i := ⟨N - 1 - i, by omega⟩
      have hjN : j < N := by omega
      have hiN : i < N := by omega
      have hij : i < j := by omega
      rw [← hj] at hlt ⊢
      have HJ : Hid (j = N - 1 - i) := by show j = N - 1 - i; omega
      clear hj
      obtain ⟨yi, hyi⟩ : ∃ yi, yi = ys.getD i 0 := ⟨_, rfl⟩
      obtain ⟨yj, hyj⟩ : ∃ yj, yj = ys.getD j 0 := ⟨_, rfl⟩
      have ci : wr.cell? ⟨g, i, none⟩ = some ((Value.int .i64) yi) := by rw [hlc i hiN]; simp [hyi, HYL.out, hiN]
      have cj : wr.cell? ⟨g, j, none⟩ = some ((Value.int .i64) yj) := by rw [hlc j hjN]; simp [hyj, HYL.out, hjN]
      have fi : wr.frozen? ⟨g, i, none⟩ = false := Lib.frozen_of_heap hg _
      have fj : wr.frozen? ⟨g, j, none⟩ = false := Lib.frozen_of_heap hg _
      have HNEW : Hid (∃ zs : List Int, zs.length = N ∧ (∀ p, p < N → zs.getD p 0 = if p < i + 1 ∨ N - (i + 1) ≤ p then xs.getD (N - 1 - p) 0 else xs.getD p 0) ∧ ((wr.setCell ⟨g, i, none⟩ ((Value.int .i64) yj)).setCell ⟨g, j, none⟩ ((Value.int .i64) yi)).drew.ownsRow B 3 1 (.slice (some ⟨g, 0, none⟩) N cap) N (zs.map (Value.int .i64)) ∧ w.grownBy ((wr.setCell ⟨g, i, none⟩ ((Value.int .i64) yj)).setCell ⟨g, j, none⟩ ((Value.int .i64) yi)).drew (Value.slice (some ⟨g, 0, none⟩) N cap).ownBlock) := by
        refine ⟨(ys.set i yj).set j yi, by simp [HYL.out], fun p hp => ?_, ?_, ?_⟩
        · rw [List.getD_eq_getElem?_getD]
          have hyl := HYL.out
          have hjj := HJ.out
          by_cases h1 : p = j
          · subst h1
            rw [List.getElem?_set_self (by simp; omega), if_pos (by omega)]
            show yi = _
            rw [hyi, HY.out i hiN, if_neg (by omega), show N - 1 - p = i by omega]
          · rw [List.getElem?_set_ne (fun e => h1 e.symm)]
            by_cases h2 : p = i
            · subst h2
              rw [List.getElem?_set_self (by omega), if_pos (by omega)]
              show yj = _
              rw [hyj, HY.out j hjN, if_neg (by omega), hjj]
            · rw [List.getElem?_set_ne (fun e => h2 e.symm), ← List.getD_eq_getElem?_getD, HY.out p hp]
              by_cases h3 : p < i ∨ N - i ≤ p
              · rw [if_pos h3, if_pos (by omega)]
              · rw [if_neg h3, if_neg (by omega)]
        · rw [List.map_set, List.map_set]
          exact own_later (own_set1 (own_set1 HOW.out i _) j _) (Below.refl _ _).drew
        · exact grown_all HGR.out (grown_all (grown_all (grown_cell wr g i _) (grown_cell _ g j _)) ⟨rfl, rfl, rfl, Nat.le_refl _, fun _ _ _ => rfl⟩)
      clear hown hg hlc hyi hyj HY HYL HOW HGR
      go_wp2_with fail
      go_region
      go_wp2
      go_roundw
      case rel =>
        have hj1 := HJ.out
        refine ⟨i + 1, by go_num, ?_, by omega, HNEW.out⟩
        congr 1
        omega
      case measure => simp [intOf]; omega
    · have HFIN : Hid (w.grownBy wr (Value.slice a N cap).ownBlock ∧ wr.ownsRow B 3 1 (.slice a N cap) N (xs.reverse.map (Value.int .i64))) := by
        refine ⟨HGR.out, ?_⟩
        have : ys = xs.reverse := by
          apply List.ext_getElem
          · rw [List.length_reverse, HYL.out, HN.out]
          · intro p h1 h2
            have h3 := HY.out p (by rw [← HYL.out]; exact h1)
            have h4 := HN.out
            have h5 := HYL.out
            rw [List.getElem_reverse]
            rw [List.getD_eq_getElem?_getD, List.getElem?_eq_getElem h1] at h3
            by_cases hc : p < i ∨ N - i ≤ p
            · rw [if_pos hc, List.getD_eq_getElem?_getD, List.getElem?_eq_getElem (by omega)] at h3
              simp only [Option.getD_some] at h3
              rw [h3]
              congr 1
              omega
            · rw [if_neg hc, List.getD_eq_getElem?_getD, List.getElem?_eq_getElem (by omega)] at h3
              simp only [Option.getD_some] at h3
              rw [h3]
              congr 1
              omega
        rw [← this]
        exact HOW.out
      clear hown HY HYL HOW HGR
      go_wp2
      go_end0
      refine ⟨rfl, ?_⟩
      rw [← List.map_reverse]
      exact HFIN.out

set_option maxHeartbeats 4000000 in
theorem revB_any (xs : List Bool) (v : Value) (B : Nat) (w : World) (ho : w.ownsRow B 4 1 v xs.length (xs.map Value.bool)) (hm : xs.length ≤ 9223372036854775806) :
    Calls Try.prog 62 #[v] w fun e w' => e = .returned (.tuple #[]) ∧ w.grownBy w' v.ownBlock ∧ w'.ownsRow B 4 1 v xs.length (xs.reverse.map Value.bool) := by
  obtain ⟨a, cap, rfl⟩ := own_sl1 ho
  obtain ⟨N, hN⟩ : ∃ N, N = xs.length := ⟨_, rfl⟩
  have hNi : (N : Int) ≤ 9223372036854775806 := by omega
  rw [← hN]
  rw [← hN] at ho
  have HO : Hid (w.ownsRow B 4 1 (.slice a N cap) N (xs.map Value.bool)) := ho
  have HN : Hid (N = xs.length) := hN
  clear ho hm hN
  go_enter Try.func62, Try.ntmps62
  go_wp2
  go_loopw [2, 3] (fun x2 x3 wr => ∃ i : Nat, x2 = .int .i64 i ∧ x3 = .int .i64 ((N : Int) - 1 - i) ∧ 2 * i ≤ N ∧ ∃ ys : List Bool, ys.length = N ∧ (∀ p, p < N → ys.getD p false = if p < i ∨ N - i ≤ p then xs.getD (N - 1 - p) false else xs.getD p false) ∧ wr.ownsRow B 4 1 (.slice a N cap) N (ys.map Value.bool) ∧ w.grownBy wr (Value.slice a N cap).ownBlock) (fun x2 _ _ => N - (intOf x2).toNat)
  case atStart => exact ⟨0, rfl, by go_num, by omega, xs, HN.out.symm, fun p hp => by rw [if_neg (by omega)], HO.out, ⟨rfl, rfl, rfl, Nat.le_refl _, fun _ _ _ => rfl⟩⟩
  case round =>
    obtain ⟨i, hx2, hx3, hi, ys, hyl, hy, hown, hgr⟩ := hrel
    subst hx2
    subst hx3
    have HY : Hid (∀ p, p < N → ys.getD p false = if p < i ∨ N - i ≤ p then xs.getD (N - 1 - p) false else xs.getD p false) := hy
    have HYL : Hid (ys.length = N) := hyl
    have HOW : Hid (wr.ownsRow B 4 1 (.slice a N cap) N (ys.map Value.bool)) := hown
    have HGR : Hid (w.grownBy wr (Value.slice a N cap).ownBlock) := hgr
    clear hyl hy hgr
    by_cases hlt : (i : Int) < (N : Int) - 1 - i
    · obtain ⟨g, rfl, hBg, cur, hg, hlc⟩ := own_cells1 hown (by omega)
      obtain ⟨j, hj⟩ : ∃ j : Nat, (j : Int) = (N : Int) - 1 - i := ⟨N - 1 - i, by omega⟩
      have hjN : j < N := by omega
      have hiN : i < N := by omega
      have hij : i < j := by omega
      rw [← hj] at hlt ⊢
      have HJ : Hid (j = N - 1 - i) := by show j = N - 1 - i; omega
      clear hj
      obtain ⟨yi, hyi⟩ : ∃ yi, yi = ys.getD i false := ⟨_, rfl⟩
      obtain ⟨yj, hyj⟩ : ∃ yj, yj = ys.getD j false := ⟨_, rfl⟩
      have ci : wr.cell? ⟨g, i, none⟩ = some (Value.bool yi) := by rw [hlc i hiN]; simp [hyi, HYL.out, hiN]
      have cj : wr.cell? ⟨g, j, none⟩ = some (Value.bool yj) := by rw [hlc j hjN]; simp [hyj, HYL.out, hjN]
      have fi : wr.frozen? ⟨g, i, none⟩ = false := Lib.frozen_of_heap hg _
      have fj : wr.frozen? ⟨g, j, none⟩ = false := Lib.frozen_of_heap hg _
      have HNEW : Hid (∃ zs : List Bool, zs.length = N ∧ (∀ p, p < N → zs.getD p false = if p < i + 1 ∨ N - (i + 1) ≤ p then xs.getD (N - 1 - p) false else xs.getD p false) ∧ ((wr.setCell ⟨g, i, none⟩ (Value.bool yj)).setCell ⟨g, j, none⟩ (Value.bool yi)).drew.ownsRow B 4 1 (.slice (some ⟨g, 0, none⟩) N cap) N (zs.map Value.bool) ∧ w.grownBy ((wr.setCell ⟨g, i, none⟩ (Value.bool yj)).setCell ⟨g, j, none⟩ (Value.bool yi)).drew (Value.slice (some ⟨g, 0, none⟩) N cap).ownBlock) := by
        refine ⟨(ys.set i yj).set j yi, by simp [HYL.out], fun p hp => ?_, ?_, ?_⟩
        · rw [List.getD_eq_getElem?_getD]
          have hyl := HYL.out
          have hjj := HJ.out
          by_cases h1 : p = j
          · subst h1
            rw [List.getElem?_set_self (by simp; omega), if_pos (by omega)]
            show yi = _
            rw [hyi, HY.out i hiN, if_neg (by omega), show N - 1 - p = i by omega]
          · rw [List.getElem?_set_ne (fun e => h1 e.symm)]
            by_cases h2 : p = i
            · subst h2
              rw [List.getElem?_set_self (by omega), if_pos (by omega)]
              show yj = _
              rw [hyj, HY.out j hjN, if_neg (by omega), hjj]
            · rw [List.getElem?_set_ne (fun e => h2 e.symm), ← List.getD_eq_getElem?_getD, HY.out p hp]
              by_cases h3 : p < i ∨ N - i ≤ p
              · rw [if_pos h3, if_pos (by omega)]
              · rw [if_neg h3, if_neg (by omega)]
        · rw [List.map_set, List.map_set]
          exact own_later (own_set1 (own_set1 HOW.out i _) j _) (Below.refl _ _).drew
        · exact grown_all HGR.out (grown_all (grown_all (grown_cell wr g i _) (grown_cell _ g j _)) ⟨rfl, rfl, rfl, Nat.le_refl _, fun _ _ _ => rfl⟩)
      clear hown hg hlc hyi hyj HY HYL HOW HGR
      go_wp2_with fail
      go_region
      go_wp2
      go_roundw
      case rel =>
        have hj1 := HJ.out
        refine ⟨i + 1, by go_num, ?_, by omega, HNEW.out⟩
        congr 1
        omega
      case measure => simp [intOf]; omega
    · have HFIN : Hid (w.grownBy wr (Value.slice a N cap).ownBlock ∧ wr.ownsRow B 4 1 (.slice a N cap) N (xs.reverse.map Value.bool)) := by
        refine ⟨HGR.out, ?_⟩
        have : ys = xs.reverse := by
          apply List.ext_getElem
          · rw [List.length_reverse, HYL.out, HN.out]
          · intro p h1 h2
            have h3 := HY.out p (by rw [← HYL.out]; exact h1)
            have h4 := HN.out
            have h5 := HYL.out
            rw [List.getElem_reverse]
            rw [List.getD_eq_getElem?_getD, List.getElem?_eq_getElem h1] at h3
            by_cases hc : p < i ∨ N - i ≤ p
            · rw [if_pos hc, List.getD_eq_getElem?_getD, List.getElem?_eq_getElem (by omega)] at h3
              simp only [Option.getD_some] at h3
              rw [h3]
              congr 1
              omega
            · rw [if_neg hc, List.getD_eq_getElem?_getD, List.getElem?_eq_getElem (by omega)] at h3
              simp only [Option.getD_some] at h3
              rw [h3]
              congr 1
              omega
        rw [← this]
        exact HOW.out
      clear hown HY HYL HOW HGR
      go_wp2
      go_end0
      refine ⟨rfl, ?_⟩
      rw [← List.map_reverse]
      exact HFIN.out
end Go.Proofs.Ytjbhfonokgkalaa
