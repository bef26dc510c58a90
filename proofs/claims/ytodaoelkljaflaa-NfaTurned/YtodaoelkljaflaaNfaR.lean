/- Rows of nodes as values; the walks of the library's Reverse and Clone of them. -/
import Derived.Test.YtodaoelkljaflaaNfaL
namespace Go.Proofs.Ytodaoelkljaflaa
open Go.RowKit
set_option linter.unusedVariables false
set_option linter.unusedSimpArgs false
theorem grown_drew3 (w : World) (row : Option Nat) : w.grownBy w.drew row := ⟨rfl, rfl, rfl, Nat.le_refl _, fun _ _ _ => rfl⟩

/-- The values of a node. -/
structure Nk where
  op : Int
  ca : Option Addr
  cn : Nat
  cc : Nat
  pa : Option Addr
  pn : Nat
  pc : Nat
def Nk.zero : Nk := ⟨0, none, 0, 0, none, 0, 0⟩
def Nk.vals (x : Nk) : List Value := [.int .i64 x.op, .slice x.ca x.cn x.cc, .slice x.pa x.pn x.pc]
def flatN (xs : List Nk) : List Value := xs.flatMap Nk.vals
theorem flatN_len : (xs : List Nk) → (flatN xs).length = xs.length * 3
  | [] => rfl
  | x :: r => by
    show (x.vals ++ flatN r).length = _
    rw [List.length_append, flatN_len r]
    simp [Nk.vals]
    omega
theorem flatN_get : (xs : List Nk) → (i j : Nat) → j < 3 → (flatN xs)[i * 3 + j]? = (xs[i]?).bind fun x => x.vals[j]?
  | [], i, j, _ => by simp [flatN]
  | x :: r, 0, j, hj => by
    show (x.vals ++ flatN r)[0 * 3 + j]? = _
    rw [List.getElem?_append_left (by simp [Nk.vals]; omega)]
    simp
  | x :: r, i + 1, j, hj => by
    show (x.vals ++ flatN r)[(i + 1) * 3 + j]? = _
    rw [List.getElem?_append_right (by simp [Nk.vals]; omega), show (i + 1) * 3 + j - x.vals.length = i * 3 + j by simp [Nk.vals]; omega, flatN_get r i j hj]
    simp
theorem flatN_at (xs : List Nk) (i : Nat) (hi : i < xs.length) : ((flatN xs).drop (i * 3)).take 3 = xs[i].vals := by
  apply List.ext_getElem?
  intro j
  rw [List.getElem?_take]
  by_cases hj : j < 3
  · rw [if_pos hj, List.getElem?_drop, flatN_get xs i j hj, List.getElem?_eq_getElem hi]; rfl
  · rw [if_neg hj, List.getElem?_eq_none (by simp [Nk.vals]; omega)]
/-- Three cells are written. -/
def F3 (W : World) (g o : Nat) (x : Nk) : World := ((W.setCell ⟨g, o, none⟩ (.int .i64 x.op)).setCell ⟨g, o + 1, none⟩ (.slice x.ca x.cn x.cc)).setCell ⟨g, o + 2, none⟩ (.slice x.pa x.pn x.pc)
def A3 (cur : Array Value) (o : Nat) (x : Nk) : Array Value := ((cur.setIfInBounds o (.int .i64 x.op)).setIfInBounds (o + 1) (.slice x.ca x.cn x.cc)).setIfInBounds (o + 2) (.slice x.pa x.pn x.pc)
theorem f3_grown (W : World) (g o : Nat) (x : Nk) : W.grownBy (F3 W g o x) (some g) :=
  grown_all (grown_all (grown_cell W g o _) (grown_cell _ g _ _)) (grown_cell _ g _ _)
theorem f3_heap {W : World} {g : Nat} {cur : Array Value} {t : TypeId} (o : Nat) (x : Nk) (h : W.heap[g]? = some (.cells cur t (0, 0))) : (F3 W g o x).heap[g]? = some (.cells (A3 cur o x) t (0, 0)) :=
  heap_setCell_same _ g _ _ _ _ (heap_setCell_same _ g _ _ _ _ (heap_setCell_same _ g _ _ _ _ h))
theorem a3_size (cur : Array Value) (o : Nat) (x : Nk) : (A3 cur o x).size = cur.size := by simp [A3]
theorem a3_get (cur : Array Value) (o : Nat) (x : Nk) (h : o + 2 < cur.size) (q : Nat) : (A3 cur o x)[q]? = if o ≤ q ∧ q < o + 3 then x.vals[q - o]? else cur[q]? := by
  unfold A3
  by_cases hq : o ≤ q ∧ q < o + 3
  · rw [if_pos hq]
    obtain ⟨j, rfl⟩ : ∃ j, q = o + j := ⟨q - o, by omega⟩
    rw [show o + j - o = j by omega]
    rcases (by omega : j = 0 ∨ j = 1 ∨ j = 2) with rfl | rfl | rfl
    · rw [Array.getElem?_setIfInBounds_ne (by omega), Array.getElem?_setIfInBounds_ne (by omega)]
      rw [Nat.add_zero, Array.getElem?_setIfInBounds_self_of_lt (by omega)]; rfl
    · rw [Array.getElem?_setIfInBounds_ne (by omega), Array.getElem?_setIfInBounds_self_of_lt (by simp; omega)]; rfl
    · rw [Array.getElem?_setIfInBounds_self_of_lt (by simp; omega)]; rfl
  · rw [if_neg hq, Array.getElem?_setIfInBounds_ne (by omega), Array.getElem?_setIfInBounds_ne (by omega), Array.getElem?_setIfInBounds_ne (by omega)]
theorem own_cells3 {w : World} {B : Nat} {e : TypeId} {n : Nat} {a : Option Addr} {cap : Nat} {xs : List Nk} (h : w.ownsRow B e 3 (.slice a n cap) n (flatN xs)) (hn : 0 < n) : ∃ g, a = some ⟨g, 0, none⟩ ∧ B ≤ g ∧ ∃ cur, w.heap[g]? = some (.cells cur e (0, 0)) ∧ n * 3 ≤ cur.size ∧ (cur.toList.take (n * 3) = flatN xs) ∧ ∀ i (hi : i < xs.length), w.cell? ⟨g, i * 3, none⟩ = some (.int .i64 xs[i].op) ∧ w.cell? ⟨g, i * 3 + 1, none⟩ = some (.slice xs[i].ca xs[i].cn xs[i].cc) ∧ w.cell? ⟨g, i * 3 + 2, none⟩ = some (.slice xs[i].pa xs[i].pn xs[i].pc) := by
  rcases h.2 with ⟨hv, h0⟩ | ⟨g, cap', cur, hv, hb, hg, hnc, hm, hs, ht⟩
  · omega
  · cases hv
    have hle : n * 3 ≤ cur.size := by rw [hs]; exact Nat.mul_le_mul_right 3 hnc
    refine ⟨g, rfl, hb, cur, hg, hle, ht, fun i hi => ?_⟩
    have hxl : xs.length * 3 = n * 3 := by rw [← flatN_len]; exact h.1
    have key : ∀ j, j < 3 → w.cell? ⟨g, i * 3 + j, none⟩ = xs[i].vals[j]? := by
      intro j hj
      have h2 := flatN_get xs i j hj
      rw [← ht, List.getElem?_take, if_pos (by omega), List.getElem?_eq_getElem hi] at h2
      rw [cell_of_row w g _ _ _ _ hg]
      simpa using h2
    exact ⟨key 0 (by omega), key 1 (by omega), key 2 (by omega)⟩
theorem own_set3 {w : World} {B : Nat} {e : TypeId} {n : Nat} {g cap : Nat} {xs : List Nk} (h : w.ownsRow B e 3 (.slice (some ⟨g, 0, none⟩) n cap) n (flatN xs)) (i : Nat) (hi : i < xs.length) (x : Nk) : (F3 w g (i * 3) x).ownsRow B e 3 (.slice (some ⟨g, 0, none⟩) n cap) n (flatN (xs.set i x)) := by
  refine ⟨by rw [flatN_len, List.length_set, ← flatN_len]; exact h.1, ?_⟩
  rcases h.2 with ⟨hv, h0⟩ | ⟨g', cap', cur, hv, hb, hg, hnc, hm, hs, ht⟩
  · cases hv
  · cases hv
    have hle : n * 3 ≤ cur.size := by rw [hs]; exact Nat.mul_le_mul_right 3 hnc
    have hxl : xs.length * 3 = n * 3 := by rw [← flatN_len]; exact h.1
    refine .inr ⟨g, cap, A3 cur (i * 3) x, rfl, hb, f3_heap _ _ hg, hnc, hm, by rw [a3_size]; exact hs, ?_⟩
    apply List.ext_getElem?
    intro q
    obtain ⟨p, j, hj, rfl⟩ : ∃ p j, j < 3 ∧ q = p * 3 + j := ⟨q / 3, q % 3, Nat.mod_lt _ (by omega), by omega⟩
    rw [flatN_get _ p j hj, List.getElem?_take]
    have hold := flatN_get xs p j hj
    rw [← ht, List.getElem?_take] at hold
    by_cases hp : p < n
    · rw [if_pos (by omega)] at hold ⊢
      rw [Array.getElem?_toList, a3_get cur (i * 3) x (by omega)]
      rw [Array.getElem?_toList] at hold
      by_cases hpi : p = i
      · subst hpi
        rw [if_pos (by omega), List.getElem?_set_self hi]
        show _ = x.vals[j]?
        congr 1
        omega
      · rw [if_neg (by omega), List.getElem?_set_ne (fun e => hpi e.symm)]
        exact hold
    · rw [if_neg (by omega), List.getElem?_eq_none (by simp; omega)]
      rfl

set_option maxHeartbeats 4000000 in
theorem revN_any (xs : List Nk) (v : Value) (B : Nat) (w : World) (ho : w.ownsRow B 25 3 v xs.length (flatN xs)) (hm : xs.length ≤ 9223372036854775806) :
    Calls Try.prog 45 #[v] w fun e w' => e = .returned (.tuple #[]) ∧ w.grownBy w' v.ownBlock ∧ w'.ownsRow B 25 3 v xs.length (flatN xs.reverse) := by
  obtain ⟨a, cap, rfl⟩ := own_sl1 ho
  obtain ⟨N, hN⟩ : ∃ N, N = xs.length := ⟨_, rfl⟩
  have hNi : (N : Int) ≤ 9223372036854775806 := by omega
  rw [← hN]
  rw [← hN] at ho
  have HO : Hid (w.ownsRow B 25 3 (.slice a N cap) N (flatN xs)) := ho
  have HN : Hid (N = xs.length) := hN
  clear ho hm hN
  go_enter Try.func45, Try.ntmps45
  go_wp2
  go_loopw [2, 3] (fun x2 x3 wr => ∃ i : Nat, x2 = .int .i64 i ∧ x3 = .int .i64 ((N : Int) - 1 - i) ∧ 2 * i ≤ N ∧ ∃ ys : List Nk, ys.length = N ∧ (∀ p, p < N → ys.getD p Nk.zero = if p < i ∨ N - i ≤ p then xs.getD (N - 1 - p) Nk.zero else xs.getD p Nk.zero) ∧ wr.ownsRow B 25 3 (.slice a N cap) N (flatN ys) ∧ w.grownBy wr (Value.slice a N cap).ownBlock) (fun x2 _ _ => N - (intOf x2).toNat)
  case atStart => exact ⟨0, rfl, by go_num, by omega, xs, HN.out.symm, fun p hp => by rw [if_neg (by omega)], HO.out, ⟨rfl, rfl, rfl, Nat.le_refl _, fun _ _ _ => rfl⟩⟩
  case round =>
    obtain ⟨i, hx2, hx3, hi, ys, hyl, hy, hown, hgr⟩ := hrel
    subst hx2
    subst hx3
    have HY : Hid (∀ p, p < N → ys.getD p Nk.zero = if p < i ∨ N - i ≤ p then xs.getD (N - 1 - p) Nk.zero else xs.getD p Nk.zero) := hy
    have HYL : Hid (ys.length = N) := hyl
    have HOW : Hid (wr.ownsRow B 25 3 (.slice a N cap) N (flatN ys)) := hown
    have HGR : Hid (w.grownBy wr (Value.slice a N cap).ownBlock) := hgr
    clear hyl hy hgr
    by_cases hlt : (i : Int) < (N : Int) - 1 - i
    · obtain ⟨g, rfl, hBg, cur, hg, hsz, htk, hlc⟩ := own_cells3 hown (by omega)
      obtain ⟨j, hj⟩ : ∃ j : Nat, (j : Int) = (N : Int) - 1 - i := ⟨N - 1 - i, by omega⟩
      have hjN : j < N := by omega
      have hiN : i < N := by omega
      have hij : i < j := by omega
      rw [← hj] at hlt ⊢
      have HJ : Hid (j = N - 1 - i) := by show j = N - 1 - i; omega
      clear hj
      obtain ⟨yi, hyi⟩ : ∃ yi, yi = ys.getD i Nk.zero := ⟨_, rfl⟩
      obtain ⟨yj, hyj⟩ : ∃ yj, yj = ys.getD j Nk.zero := ⟨_, rfl⟩
      have hyi2 : ys[i]'(by rw [HYL.out]; exact hiN) = yi := by rw [hyi]; simp [HYL.out, hiN]
      have hyj2 : ys[j]'(by rw [HYL.out]; exact hjN) = yj := by rw [hyj]; simp [HYL.out, hjN]
      obtain ⟨i0, i1, i2⟩ := hlc i (by rw [HYL.out]; exact hiN)
      obtain ⟨j0, j1, j2⟩ := hlc j (by rw [HYL.out]; exact hjN)
      rw [hyi2] at i0 i1 i2
      rw [hyj2] at j0 j1 j2
      have HFZ : ∀ q, wr.frozen? ⟨g, q, none⟩ = false := fun q => Lib.frozen_of_heap hg _
      have fi0 := HFZ (i * 3)
      have fi1 := HFZ (i * 3 + 1)
      have fi2 := HFZ (i * 3 + 2)
      have fj0 := HFZ (j * 3)
      have fj1 := HFZ (j * 3 + 1)
      have fj2 := HFZ (j * 3 + 2)
      have hapart : i * 3 + 3 ≤ j * 3 := by omega
      have HNEW : Hid (∃ zs : List Nk, zs.length = N ∧ (∀ p, p < N → zs.getD p Nk.zero = if p < i + 1 ∨ N - (i + 1) ≤ p then xs.getD (N - 1 - p) Nk.zero else xs.getD p Nk.zero) ∧ (F3 (F3 wr g (i * 3) yj) g (j * 3) yi).drew.ownsRow B 25 3 (.slice (some ⟨g, 0, none⟩) N cap) N (flatN zs) ∧ w.grownBy (F3 (F3 wr g (i * 3) yj) g (j * 3) yi).drew (Value.slice (some ⟨g, 0, none⟩) N cap).ownBlock) := by
        refine ⟨(ys.set i yj).set j yi, by simp [HYL.out], fun p hp => ?_, ?_, ?_⟩
        · rw [List.getD_eq_getElem?_getD]
          have hyl := HYL.out
          have hjj := HJ.out
          by_cases h1 : p = j
          · subst h1
            rw [List.getElem?_set_self (by simp; omega), if_pos (by omega)]
            show yi = _
            rw [hyi, HY.out i hiN, if_neg (by omega), show N - 1 - p = i by omega]
          · rw [List.getElem?_set_ne (fun e => h1 e.symm)]
            by_cases h2 : p = i
            · subst h2
              rw [List.getElem?_set_self (by omega), if_pos (by omega)]
              show yj = _
              rw [hyj, HY.out j hjN, if_neg (by omega), hjj]
            · rw [List.getElem?_set_ne (fun e => h2 e.symm), ← List.getD_eq_getElem?_getD, HY.out p hp]
              by_cases h3 : p < i ∨ N - i ≤ p
              · rw [if_pos h3, if_pos (by omega)]
              · rw [if_neg h3, if_neg (by omega)]
        · exact own_later5 (own_set3 (own_set3 HOW.out i (by rw [HYL.out]; exact hiN) _) j (by rw [List.length_set, HYL.out]; exact hjN) _) (Below.refl _ _).drew
        · exact grown_all HGR.out (grown_all (grown_all (f3_grown wr g _ _) (f3_grown _ g _ _)) (grown_drew3 _ _))
      clear hown hg hsz htk hlc hyi hyj hyi2 hyj2 HY HYL HOW HGR HFZ
      go_wp2_with fail
      go_region
      go_wp2
      go_roundw
      case rel =>
        have hj1 := HJ.out
        refine ⟨i + 1, by go_num, ?_, by omega, HNEW.out⟩
        congr 1
        omega
      case measure => simp [intOf]; omega
    · have HFIN : Hid (w.grownBy wr (Value.slice a N cap).ownBlock ∧ wr.ownsRow B 25 3 (.slice a N cap) N (flatN xs.reverse)) := by
        refine ⟨HGR.out, ?_⟩
        have : ys = xs.reverse := by
          apply List.ext_getElem
          · rw [List.length_reverse, HYL.out, HN.out]
          · intro p h1 h2
            have h3 := HY.out p (by rw [← HYL.out]; exact h1)
            have h4 := HN.out
            have h5 := HYL.out
            rw [List.getElem_reverse]
            rw [List.getD_eq_getElem?_getD, List.getElem?_eq_getElem h1] at h3
            by_cases hc : p < i ∨ N - i ≤ p
            · rw [if_pos hc, List.getD_eq_getElem?_getD, List.getElem?_eq_getElem (by omega)] at h3
              simp only [Option.getD_some] at h3
              rw [h3]
              congr 1
              omega
            · rw [if_neg hc, List.getD_eq_getElem?_getD, List.getElem?_eq_getElem (by omega)] at h3
              simp only [Option.getD_some] at h3
              rw [h3]
              congr 1
              omega
        rw [← this]
        exact HOW.out
      clear hown HY HYL HOW HGR
      go_wp2
      go_end0
      exact ⟨rfl, HFIN.out⟩
theorem info_Nd3 : (Try.prog.info? 25).map (fun i => (i.zero, i.size, i.bytes)) = some (some (.agg #[.int .i64 0, .slice none 0 0, .slice none 0 0]), 3, 56) := by kernel_rfl
theorem one_flatN (xs : List Nk) : ∀ u ∈ flatN xs, u.oneCell' = true := by
  intro u hu
  obtain ⟨x, _, hx⟩ := List.mem_flatMap.1 hu
  simp only [Nk.vals, List.mem_cons, List.not_mem_nil, or_false] at hx
  rcases hx with rfl | rfl | rfl <;> rfl
set_option maxHeartbeats 1000000 in
theorem cloneN_any (xs : List Nk) (a : Option Addr) (len cap : Nat) (w : World) (hlen : xs.length = len) (hnone : a = none → len = 0) (hnews : ∀ b, a = some b → ∀ j u, (flatN xs)[j]? = some u → w.cell? (b.add j) = some u) (hl : len ≤ 100000) :
    Calls Try.prog 44 #[.slice a len cap] w fun e w' => ∃ v, e = .returned v ∧ w'.ownsRow w.heap.size 25 3 v len (flatN xs) ∧ Below w.heap.size w w' := by
  have q22 : ∀ (w : World) (a : Option Addr) (n c n' c' : Nat), (binOp .eql 23 (.slice a n c) (.slice none n' c')).run Try.prog w = .ok (.bool a.isNone) w := fun w a n c n' c' => Lib.run_eql_slice_nil w _ _ a n c n' c' Try.underlying23
  cases a with
  | none =>
    have h0 := hnone rfl
    subst h0
    have hr : xs = [] := List.eq_nil_of_length_eq_zero (by omega)
    subst hr
    clear hnone hnews hlen hl
    go_enter Try.func44, Try.ntmps44
    go_wp2
    go_ret
    exact ⟨_, rfl, World.ownsRow_nil _ _ _ _, Below.refl _ _⟩
  | some x =>
    obtain ⟨i0, hi, hz0, hz1, hz2⟩ := info_parts info_Nd3
    have HI : Hid (Try.prog.info? 25 = some i0 ∧ i0.zero = some (.agg #[.int .i64 0, .slice none 0 0, .slice none 0 0]) ∧ i0.size = 3 ∧ i0.bytes = 56) := ⟨hi, hz0, hz1, hz2⟩
    have hown0 : (w.alloc (.cells #[] 25)).ownsRow w.heap.size 25 3 (.slice (some ⟨w.heap.size, 0, none⟩) 0 0) 0 [] := World.ownsRow_made w #[] 0 (Nat.le_refl _) (by simp [maxLen]) rfl
    have HO : Hid ((w.alloc (.cells #[] 25)).ownsRow w.heap.size 25 3 (.slice (some ⟨w.heap.size, 0, none⟩) 0 0) 0 []) := hown0
    have HR : Hid ((flatN xs).length = len * 3 ∧ (∀ j u, (flatN xs)[j]? = some u → (w.alloc (.cells #[] 25)).cell? (x.add j) = some u) ∧ ∀ u ∈ flatN xs, u.oneCell' = true) := ⟨by rw [flatN_len, hlen], fun j u hu => upC ((Below.refl _ w).alloc (Nat.le_refl _) _) (hnews x rfl j u hu), one_flatN xs⟩
    have HFIN : Hid (∀ v' w', w'.ownsRow w.heap.size 25 3 v' (0 + len) ([] ++ flatN xs) → (w.alloc (.cells #[] 25)).grownBy w' (some w.heap.size) → ∃ v, Ending.returned v' = .returned v ∧ w'.ownsRow w.heap.size 25 3 v len (flatN xs) ∧ Below w.heap.size w w') := by
      intro v' w' h1 h2
      refine ⟨v', rfl, by rw [Nat.zero_add, List.nil_append] at h1; exact h1, ?_⟩
      exact ((Below.refl _ w).alloc (Nat.le_refl _) _).grown h2 (by simp) (fun k hk => by cases hk; exact Nat.le_refl _)
    have HLL : Hid (len ≤ 100000) := hl
    clear hi hz0 hz1 hz2 hown0 hnews hnone hlen hl
    go_enter Try.func44, Try.ntmps44
    go_wp2_with (at_builtin; refine wpList_append_own _ rfl _ _ 23 rfl w.heap.size 25 i0 _ 3 56 Try.underlying23 HI.out.1 HI.out.2.1 HI.out.2.2.1 HI.out.2.2.2 rfl (by decide) _ 0 [] rfl HO.out x len cap (flatN xs) rfl HR.out.1 HR.out.2.1 HR.out.2.2 (by have := HLL.out; unfold maxLen; omega) (by have := HLL.out; omega) (by simp) (fun v' w' h1 h2 _ => ?_); have HF := HFIN.out v' w' h1 h2; have HFF : Hid _ := HF; clear HF h1 h2)
    go_ret
    exact HFF.out
end Go.Proofs.Ytodaoelkljaflaa
