/- A block of marks in memory; the walks of a block's own functions. -/
import Derived.Test.YtlelbepfkkaojaaDoorIxA
import Derived.Test.YtlelbepfkkaojaaDoorBasX
import Derived.Deep.RegionLaw
import Derived.Deep.DeepCutAuto
import Derived.Deep.RegionHeld3
import Derived.Lib.TrailingZeros
namespace Go.Proofs.YtlelbepfkkaojaaDoor
open Go.RowKit
set_option linter.unusedVariables false
set_option linter.unusedSimpArgs false

/-- The cells of a block of marks. -/
def encB (l : List Bool) : List Value := [.int .i64 (l.length : Int), .int .i64 (cnt l : Int), .int .u64 (wd l : Int)]
theorem blk3 {W : World} {g o : Nat} {A D : List Value} {x y z : Value} {t : TypeId} (hA : A.length = o) (h : W.heap[g]? = some (.cells (A ++ (x :: y :: z :: D)).toArray t)) :
    W.cell? ⟨g, o, none⟩ = some x ∧ W.cell? ⟨g, o + 1, none⟩ = some y ∧ W.cell? ⟨g, o + 2, none⟩ = some z ∧ ∀ j, W.frozen? ⟨g, j, none⟩ = false := by
  subst hA
  refine ⟨?_, ?_, ?_, fun j => Lib.frozen_of_heap h _⟩
  · rw [cell_of_row W g _ _ _ _ h]; simp
  · rw [cell_of_row W g _ _ _ _ h]; simp
  · rw [cell_of_row W g _ _ _ _ h]; simp
theorem blk_set {W : World} {g o : Nat} {A D : List Value} {x y z : Value} {t : TypeId} (hA : A.length = o) (h : W.heap[g]? = some (.cells (A ++ (x :: y :: z :: D)).toArray t)) (u : Value) :
    (W.setCell ⟨g, o, none⟩ u).heap[g]? = some (.cells (A ++ (u :: y :: z :: D)).toArray t) ∧ (W.setCell ⟨g, o + 1, none⟩ u).heap[g]? = some (.cells (A ++ (x :: u :: z :: D)).toArray t) ∧ (W.setCell ⟨g, o + 2, none⟩ u).heap[g]? = some (.cells (A ++ (x :: y :: u :: D)).toArray t) := by
  subst hA
  refine ⟨?_, ?_, ?_⟩
  · rw [heap_setX W g _ u _ _ _ h]; simp [List.set_append_right]
  · rw [heap_setX W g _ u _ _ _ h]; simp [List.set_append_right]
  · rw [heap_setX W g _ u _ _ _ h]; simp [List.set_append_right]
/-- A block of marks in memory. -/
def BkAt (W : World) (g o : Nat) (A D : List Value) (l : List Bool) : Prop := A.length = o ∧ W.heap[g]? = some (.cells (A ++ (encB l ++ D)).toArray 77)
theorem BkAt.cells {W : World} {g o : Nat} {A D : List Value} {l : List Bool} (h : BkAt W g o A D l) : W.cell? ⟨g, o, none⟩ = some (.int .i64 (l.length : Int)) ∧ W.cell? ⟨g, o + 1, none⟩ = some (.int .i64 (cnt l : Int)) ∧ W.cell? ⟨g, o + 2, none⟩ = some (.int .u64 (wd l : Int)) ∧ ∀ j, W.frozen? ⟨g, j, none⟩ = false := blk3 h.1 h.2

theorem tlen_any (n : Int) (b o : Nat) (W : World) (h : W.cell? ⟨b, o, none⟩ = some (.int .i64 n)) : Calls Tryd.prog 41 #[.pointer (some ⟨b, o, none⟩)] W fun e w' => e = .returned (.int .i64 n) ∧ w' = W := by
  go_enter Tryd.func41, Tryd.ntmps41
  go_wp2
  go_ret
  exact ⟨rfl, rfl⟩
theorem tcount_any (n : Int) (b o : Nat) (W : World) (h : W.cell? ⟨b, o + 1, none⟩ = some (.int .i64 n)) : Calls Tryd.prog 23 #[.pointer (some ⟨b, o, none⟩)] W fun e w' => e = .returned (.int .i64 n) ∧ w' = W := by
  go_enter Tryd.func23, Tryd.ntmps23
  go_wp2
  go_ret
  exact ⟨rfl, rfl⟩
/-- Is there an at-th? -/
def hasI (n : Nat) (k : Int) : Bool := decide (0 ≤ k) && decide (k < (n : Int))
theorem thas_any (n : Nat) (k : Int) (b o : Nat) (W : World) (h : W.cell? ⟨b, o, none⟩ = some (.int .i64 (n : Int))) : Calls Tryd.prog 43 #[.pointer (some ⟨b, o, none⟩), .int .i64 k] W fun e w' => e = .returned (.bool (hasI n k)) ∧ w' = W := by
  obtain ⟨R, hR⟩ : ∃ R, R = hasI n k := ⟨_, rfl⟩
  rw [← hR]
  unfold hasI at hR
  by_cases h1 : 0 ≤ k
  · by_cases h2 : k < (n : Int)
    all_goals
      simp only [h1, h2, decide_true, decide_false, Bool.and_true, Bool.and_false] at hR
      subst hR
      go_enter Tryd.func43, Tryd.ntmps43
      go_wp2
      go_ret
      exact ⟨rfl, rfl⟩
  · simp only [h1, decide_false, Bool.false_and] at hR
    subst hR
    go_enter Tryd.func43, Tryd.ntmps43
    go_wp2
    go_ret
    exact ⟨rfl, rfl⟩
theorem shl_one (n : Nat) (h : n < 64) : IntKind.u64.wrap ((2 : Int) ^ n) = ((2 ^ n : Nat) : Int) := by
  rw [IntKind.wrap_u64]
  have h1 := pow_lt64 h
  have h2 : (2 : Int) ^ n = ((2 ^ n : Nat) : Int) := by simp
  rw [h2]
  generalize 2 ^ n = x at h1
  omega
theorem div_pow (x n : Nat) : (x : Int) / 2 ^ n = ((x / 2 ^ n : Nat) : Int) := by simp
theorem sees_any (l : List Bool) (n : Nat) (g o : Nat) (A D : List Value) (W : World) (hn : n < l.length) (hl : l.length ≤ 64) (h : BkAt W g o A D l) :
    Calls Tryd.prog 45 #[.pointer (some ⟨g, o, none⟩), .int .i64 (n : Int)] W fun e w' => e = .returned (.bool (l.getD n false)) ∧ w' = W := by
  obtain ⟨_, _, c2, _⟩ := h.cells
  have h0 : (0 : Int) ≤ (n : Int) := by omega
  have h64 : (n : Int) < 64 := by omega
  have e1 : (bits .and .u64 ((wd l : Int) / 2 ^ n) 1 == 1) = l.getD n false := by
    have hw := wd_lt64 l hl
    have hd : wd l / 2 ^ n ≤ wd l := Nat.div_le_self _ _
    rw [div_pow, show (1 : Int) = ((1 : Nat) : Int) from rfl, u64_and_nat _ _ (by omega) (by omega), Nat.and_one_is_mod, wd_test l n hn]
    cases l.getD n false <;> rfl
  generalize wd l = x at c2 e1
  generalize l.getD n false = R at e1 ⊢
  clear h
  go_enter Tryd.func45, Tryd.ntmps45
  go_wp2_with (simp only [e1])
  go_ret
  exact ⟨rfl, rfl⟩
theorem rank_any (l : List Bool) (n : Nat) (g o : Nat) (A D : List Value) (W : World) (hn : n < l.length) (hl : l.length ≤ 64) (h : BkAt W g o A D l) :
    Calls Tryd.prog 42 #[.pointer (some ⟨g, o, none⟩), .int .i64 (n : Int)] W fun e w' => e = .returned (.int .i64 (cnt (l.take n) : Int)) ∧ ∃ q, w' = W.drewN q := by
  obtain ⟨_, _, c2, _⟩ := h.cells
  have h0 : (0 : Int) ≤ (n : Int) := by omega
  have h64 : (n : Int) < 64 := by omega
  have hc := fun W => ones_row (l.take n) (by rw [List.length_take]; omega) W
  have e1 : bits .and .u64 (wd l : Int) (IntKind.u64.wrap (IntKind.u64.wrap ((2 : Int) ^ n) - 1)) = (wd (l.take n) : Int) := by
    have hw := wd_lt64 l hl
    have hp := pow_lt64 (show n < 64 by omega)
    have h1 : 0 < 2 ^ n := Nat.two_pow_pos n
    rw [shl_one n (by omega), IntKind.wrap_u64, show (((2 ^ n : Nat) : Int) - 1) % 18446744073709551616 = ((2 ^ n - 1 : Nat) : Int) by omega, u64_and_nat _ _ (by omega) (by omega), low_mask, (wd_cut l n).1]
  have HC : Hid (∀ W, Calls Tryd.prog 53 #[.int .u64 (wd (l.take n) : Int)] W fun e w' => e = .returned (.int .i64 (cnt (l.take n) : Int)) ∧ w' = W) := hc
  generalize wd l = x at c2 e1
  generalize wd (l.take n) = y at e1 HC
  generalize cnt (l.take n) = R at HC ⊢
  clear h hc
  go_enter Tryd.func42, Tryd.ntmps42
  go_upto_region 1 with fail
  go_quiet (first | (go_at_call 53; exact Calls.quiet_of_same (HC.out _)))
  go_wp2
  go_ret
  exact ⟨rfl, _, rfl⟩
theorem odd_and (m n j : Nat) : ((2 * m + 1).testBit j && (2 * n).testBit j) = (2 * (m &&& n)).testBit j := by
  cases j with
  | zero => simp
  | succ j => simp [Nat.testBit_succ, Nat.testBit_and, show (2 * m + 1) / 2 = m by omega]
theorem low_only (t m : Nat) (h : 2 ^ t * (2 * m + 1) < 2 ^ 64) : 2 ^ t * (2 * m + 1) &&& (2 ^ 64 - 2 ^ t * (2 * m + 1)) = 2 ^ t := by
  have hp : 0 < 2 ^ t := Nat.two_pow_pos t
  have ht : t < 64 := by
    refine Nat.lt_of_not_le fun hle => ?_
    have h1 : (2 : Nat) ^ 64 ≤ 2 ^ t := Nat.pow_le_pow_right (by decide) hle
    have h2 : 2 ^ t * 1 ≤ 2 ^ t * (2 * m + 1) := Nat.mul_le_mul_left _ (by omega)
    omega
  obtain ⟨n, hn⟩ : ∃ n, n = 63 - t := ⟨_, rfl⟩
  have e64 : (2 : Nat) ^ 64 = 2 ^ t * (2 * 2 ^ n) := by
    rw [show 2 * 2 ^ n = 2 ^ (n + 1) by rw [Nat.pow_succ, Nat.mul_comm], ← Nat.pow_add]
    congr 1; omega
  have hm : m < 2 ^ n := by
    rw [e64] at h
    have := Nat.lt_of_mul_lt_mul_left h
    omega
  have e : 2 ^ 64 - 2 ^ t * (2 * m + 1) = 2 ^ t * (2 * (2 ^ n - (m + 1)) + 1) := by
    rw [e64, ← Nat.mul_sub]
    congr 1; omega
  rw [e]
  apply Nat.eq_of_testBit_eq
  intro p
  rw [Nat.testBit_and]
  rw [show 2 ^ t * (2 * m + 1) = 2 ^ t * (2 * m + 1) + 0 from rfl, Nat.testBit_two_pow_mul_add _ hp]
  rw [show 2 ^ t * (2 * (2 ^ n - (m + 1)) + 1) = 2 ^ t * (2 * (2 ^ n - (m + 1)) + 1) + 0 from rfl, Nat.testBit_two_pow_mul_add _ hp]
  rw [Nat.testBit_two_pow]
  by_cases hlt : p < t
  · have : t ≠ p := by omega
    simp [hlt, this]
  · simp only [hlt, if_false]
    obtain ⟨j, hj⟩ : ∃ j, j = p - t := ⟨_, rfl⟩
    rw [← hj]
    cases j with
    | zero =>
      have : t = p := by omega
      simp [this]
    | succ j =>
      have hne : t ≠ p := by omega
      simp only [Nat.testBit_succ, show (2 * m + 1) / 2 = m by omega, show (2 * (2 ^ n - (m + 1)) + 1) / 2 = 2 ^ n - (m + 1) by omega]
      rw [Nat.testBit_two_pow_sub_succ hm, decide_eq_false hne]
      cases m.testBit j <;> simp
/-- The table that TrailingZeros64 reads. -/
def TabD (w : World) : Prop := ∀ j, j < 64 → w.cell? ⟨0, j, none⟩ = some (.int .u8 (Lib.deBruijn64tab.getD j 0 : Nat))
theorem TabD.later {w w' : World} (h : TabD w) (hb : Below w.heap.size w w') : TabD w' := fun j hj => (hb.cell (World.block_lt_of_cell? w _ (h j hj))).trans (h j hj)
theorem tab_all : ∀ t : Fin 64, 2 ^ t.val * 285870213051353865 % 18446744073709551616 / 288230376151711744 < 64 ∧ Lib.deBruijn64tab.getD (2 ^ t.val * 285870213051353865 % 18446744073709551616 / 288230376151711744) 0 = t.val := by decide
theorem low_lt {t m : Nat} (h : 2 ^ t * (2 * m + 1) < 2 ^ 64) : t < 64 := by
  refine Nat.lt_of_not_le fun hle => ?_
  have h1 : (2 : Nat) ^ 64 ≤ 2 ^ t := Nat.pow_le_pow_right (by decide) hle
  have h2 : 2 ^ t * 1 ≤ 2 ^ t * (2 * m + 1) := Nat.mul_le_mul_left _ (by omega)
  omega
set_option maxHeartbeats 1000000 in
theorem tz_any (t m x : Nat) (hx : x = 2 ^ t * (2 * m + 1)) (h : x < 2 ^ 64) (w : World) (hT : TabD w) : Calls Tryd.prog 52 #[.int .u64 (x : Int)] w fun e w' => e = .returned (.int .i64 (t : Int)) ∧ w' = w := by
  have ht : t < 64 := low_lt (m := m) (by rw [← hx]; exact h)
  have hpos : 0 < x := by rw [hx]; exact Nat.mul_pos (Nat.two_pow_pos t) (by omega)
  obtain ⟨hi, hv⟩ := tab_all ⟨t, ht⟩
  simp only at hi hv
  obtain ⟨idx, hidx⟩ : ∃ idx, idx = 2 ^ t * 285870213051353865 % 18446744073709551616 / 288230376151711744 := ⟨_, rfl⟩
  rw [← hidx] at hi hv
  have hcell := hT idx hi
  rw [hv] at hcell
  have hlow : x &&& (18446744073709551616 - x) = 2 ^ t := by
    have := low_only t m (by rw [← hx]; exact h)
    rw [← hx] at this
    exact this
  have hneg : IntKind.u64.wrap (-(x : Int)) = ((18446744073709551616 - x : Nat) : Int) := by
    rw [IntKind.wrap_u64]; omega
  have key : IntKind.u64.wrap (bits BinOp.and IntKind.u64 (x : Int) (IntKind.u64.wrap (-(x : Int))) * 285870213051353865) / 288230376151711744 = (idx : Int) := by
    rw [hneg, u64_and_nat _ _ (by omega) (by omega), hlow, IntKind.wrap_u64, hidx]
    generalize 2 ^ t = y
    omega
  have hx0 : ((x : Int) == 0) = false := by rw [beq_eq_false_iff_ne]; omega
  have hxi : ¬ (x : Int) = 0 := by omega
  have hii : (idx : Int) < 64 := by omega
  have hti : (t : Int) < 64 := by omega
  clear hT hx h hpos hidx hv hlow hneg
  go_enter Tryd.func52, Tryd.ntmps52
  go_wp2_with (simp only [key])
  go_ret
  exact ⟨rfl, rfl⟩
theorem tz_row (l : List Bool) (hl : l.length ≤ 64) (hc : 0 < cnt l) (w : World) (hT : TabD w) : Calls Tryd.prog 52 #[.int .u64 (wd l : Int)] w fun e w' => e = .returned (.int .i64 (sel l 0 : Int)) ∧ w' = w := by
  obtain ⟨m, hm⟩ := wd_low l hc
  exact tz_any (sel l 0) m (wd l) hm (wd_lt64 l hl) w hT
theorem set_any (l : List Bool) (n : Nat) (b : Bool) (g o : Nat) (A D : List Value) (W : World) (hn : n < l.length) (hl : l.length ≤ 64) (h : BkAt W g o A D l) :
    Calls Tryd.prog 51 #[.pointer (some ⟨g, o, none⟩), .int .i64 (n : Int), .bool b] W fun e w' => e = .returned (.int .i64 ((cnt (l.set n b) : Int) - (cnt l : Int))) ∧ BkAt w' g o A D (l.set n b) ∧ Chg W w' (fun k => k = g) := by
  have h0 : (0 : Int) ≤ (n : Int) := by omega
  have h64 : (n : Int) < 64 := by omega
  have hw := wd_lt64 l hl
  have hp := pow_lt64 (show n < 64 by omega)
  have e1 : bits .andNot .u64 (wd l : Int) (IntKind.u64.wrap ((2 : Int) ^ n)) = (wd (l.set n false) : Int) := by
    rw [shl_one n (by omega), u64_andNot_nat _ _ (by omega) (by omega), wd_clear l n hn hl]
  have e2 : bits .or .u64 (wd (l.set n false) : Int) (IntKind.u64.wrap ((2 : Int) ^ n)) = (wd (l.set n true) : Int) := by
    rw [shl_one n (by omega), u64_or_nat _ _ (wd_lt64 _ (by simpa using hl)) (by omega), wd_lay l n hn]
  have HC : Hid (∀ W, Calls Tryd.prog 53 #[.int .u64 (wd (l.set n b) : Int)] W fun e w' => e = .returned (.int .i64 (cnt (l.set n b) : Int)) ∧ w' = W) := fun W => ones_row (l.set n b) (by simpa using hl) W
  have hlen : (l.set n b).length = l.length := by simp
  have hr1 := cnt_le (l.set n b)
  have hr2 := cnt_le l
  have hr : wrap64 ((cnt (l.set n b) : Int) - (cnt l : Int)) = (cnt (l.set n b) : Int) - (cnt l : Int) := by unfold wrap64; omega
  obtain ⟨hA, hB⟩ := h
  obtain ⟨c0, c1, c2, fz⟩ := blk3 hA hB
  have f2 := fz (o + 2)
  have s1 := (blk_set hA hB (.int .u64 (wd (l.set n false) : Int))).2.2
  have k1 := cg_set W g (o + 2) (.int .u64 (wd (l.set n false) : Int))
  have HEND : Hid (∀ W1 W2 : World, W1.heap[g]? = some (.cells (A ++ (.int .i64 (l.length : Int) :: .int .i64 (cnt l : Int) :: .int .u64 (wd (l.set n b) : Int) :: D)).toArray 77) → Chg W W1 (fun k => k = g) → W2 = W1.setCell ⟨g, o + 1, none⟩ (.int .i64 (cnt (l.set n b) : Int)) → BkAt W2 g o A D (l.set n b) ∧ Chg W W2 (fun k => k = g)) := by
    rintro W1 W2 q1 q2 rfl
    refine ⟨⟨hA, ?_⟩, cg_trans q2 (cg_set W1 g (o + 1) _) (fun k _ r => r)⟩
    rw [(blk_set hA q1 _).2.1, encB, hlen]
    rfl
  have HS : Hid (∀ W1 W2 : World, W2 = W1.drew → Chg W W1 (fun k => k = g) → Chg W W2 (fun k => k = g)) := by
    rintro W1 W2 rfl h
    exact h
  cases b
  · obtain ⟨W1, hW1⟩ : ∃ W1, W1 = (W.setCell ⟨g, o + 2, none⟩ (.int .u64 (wd (l.set n false) : Int))).drew := ⟨_, rfl⟩
    have q1 : W1.heap[g]? = some (.cells (A ++ (.int .i64 (l.length : Int) :: .int .i64 (cnt l : Int) :: .int .u64 (wd (l.set n false) : Int) :: D)).toArray 77) := by rw [hW1]; exact s1
    have q2 : Chg W W1 (fun k => k = g) := by rw [hW1]; exact k1
    obtain ⟨d0, d1, d2, fz1⟩ := blk3 hA q1
    have f1 := fz1 (o + 1)
    have HF : Hid (BkAt (W1.setCell ⟨g, o + 1, none⟩ (.int .i64 (cnt (l.set n false) : Int))) g o A D (l.set n false) ∧ Chg W (W1.setCell ⟨g, o + 1, none⟩ (.int .i64 (cnt (l.set n false) : Int))) (fun k => k = g)) := HEND.out W1 _ q1 q2 rfl
    have HQ : Hid ((W1.setCell ⟨g, o + 1, none⟩ (.int .i64 (cnt (l.set n false) : Int))).cell? ⟨g, o + 1, none⟩ = some (.int .i64 (cnt (l.set n false) : Int))) := HF.out.1.cells.2.1
    clear HEND HS s1 k1 q1 q2 hB fz fz1 hr1 hr2 hlen e2 d0
    generalize wd l = x at c2 e1
    generalize wd (l.set n false) = y at e1 HC d2 hW1
    generalize (cnt (l.set n false) : Int) = R at HC hr HF HQ ⊢
    generalize (cnt l : Int) = S at hr c1 d1 ⊢
    go_enter Tryd.func51, Tryd.ntmps51
    go_upto_region 2 with fail
    go_region
    rw [← hW1]
    clear hW1
    go_upto_region 6 with (first | (go_at_call 53; refine (HC.out _).mono ?_; rintro e w' ⟨rfl, rfl⟩))
    have hq := HQ.out
    go_wp2
    go_ret
    exact ⟨ret_int hr, HF.out⟩
  · obtain ⟨W1, hW1⟩ : ∃ W1, W1 = (W.setCell ⟨g, o + 2, none⟩ (.int .u64 (wd (l.set n false) : Int))).drew := ⟨_, rfl⟩
    have q1 : W1.heap[g]? = some (.cells (A ++ (.int .i64 (l.length : Int) :: .int .i64 (cnt l : Int) :: .int .u64 (wd (l.set n false) : Int) :: D)).toArray 77) := by rw [hW1]; exact s1
    have q2 : Chg W W1 (fun k => k = g) := by rw [hW1]; exact k1
    obtain ⟨d0, d1, d2, fz1⟩ := blk3 hA q1
    have f1 := fz1 (o + 2)
    obtain ⟨W2, hW2⟩ : ∃ W2, W2 = (W1.setCell ⟨g, o + 2, none⟩ (.int .u64 (wd (l.set n true) : Int))).drew := ⟨_, rfl⟩
    have q3 : W2.heap[g]? = some (.cells (A ++ (.int .i64 (l.length : Int) :: .int .i64 (cnt l : Int) :: .int .u64 (wd (l.set n true) : Int) :: D)).toArray 77) := by rw [hW2]; exact (blk_set hA q1 _).2.2
    have q4 : Chg W W2 (fun k => k = g) := by rw [hW2]; exact cg_trans q2 (cg_set W1 g (o + 2) _) (fun k _ r => r)
    obtain ⟨i0, i1, i2, fz2⟩ := blk3 hA q3
    have f3 := fz2 (o + 1)
    have HF : Hid (BkAt (W2.setCell ⟨g, o + 1, none⟩ (.int .i64 (cnt (l.set n true) : Int))) g o A D (l.set n true) ∧ Chg W (W2.setCell ⟨g, o + 1, none⟩ (.int .i64 (cnt (l.set n true) : Int))) (fun k => k = g)) := HEND.out W2 _ q3 q4 rfl
    have HQ : Hid ((W2.setCell ⟨g, o + 1, none⟩ (.int .i64 (cnt (l.set n true) : Int))).cell? ⟨g, o + 1, none⟩ = some (.int .i64 (cnt (l.set n true) : Int))) := HF.out.1.cells.2.1
    clear HEND HS s1 k1 q1 q2 q3 q4 hB fz fz1 fz2 hr1 hr2 hlen d0 i0
    generalize wd l = x at c2 e1
    generalize wd (l.set n false) = y at e1 e2 d2 hW1
    generalize wd (l.set n true) = z at e2 HC i2 hW2
    generalize (cnt (l.set n true) : Int) = R at HC hr HF HQ ⊢
    generalize (cnt l : Int) = S at hr c1 d1 i1 ⊢
    go_enter Tryd.func51, Tryd.ntmps51
    go_upto_region 2 with fail
    go_region
    rw [← hW1]
    clear hW1 c2 f2 c1
    go_upto_region 4 with fail
    go_region
    rw [← hW2]
    clear hW2 d2 f1 d1
    go_upto_region 6 with (first | (go_at_call 53; refine (HC.out _).mono ?_; rintro e w' ⟨rfl, rfl⟩))
    have hq := HQ.out
    go_wp2
    go_ret
    exact ⟨ret_int hr, HF.out⟩
theorem ins_set (l : List Bool) (n : Nat) (b : Bool) (h : n ≤ l.length) : (ins l n false).set n b = ins l n b := by
  unfold ins
  rw [List.set_append_right _ _ (by rw [List.length_take]; omega), List.length_take, Nat.min_eq_left h, Nat.sub_self, List.set_cons_zero]
theorem cnt_ins (l : List Bool) (n : Nat) (b : Bool) : cnt (ins l n b) = cnt l + b.toNat := by
  unfold ins
  have := congrArg cnt (List.take_append_drop n l)
  rw [cnt_app] at this
  rw [cnt_app, cnt]
  omega
theorem ins_diff (l : List Bool) (n : Nat) (b : Bool) : (cnt (ins l n b) : Int) - (cnt (ins l n false) : Int) = ((b.toNat : Nat) : Int) := by
  have h1 := cnt_ins l n b
  have h2 := cnt_ins l n false
  have h3 : (false : Bool).toNat = 0 := rfl
  omega
theorem ins_more (l : List Bool) (n : Nat) (hn : n ≤ l.length) (hl : l.length < 64) : n < (ins l n false).length ∧ (ins l n false).length ≤ 64 ∧ wrap64 ((l.length : Int) + 1) = ((ins l n false).length : Int) := by
  rw [ins_len l n false hn]
  refine ⟨by omega, by omega, ?_⟩
  unfold wrap64; omega
set_option maxHeartbeats 1000000 in
theorem insertB_any (l : List Bool) (n : Nat) (b : Bool) (g o : Nat) (A D : List Value) (W : World) (hn : n ≤ l.length) (hl : l.length < 64) (h : BkAt W g o A D l) :
    Calls Tryd.prog 50 #[.pointer (some ⟨g, o, none⟩), .int .i64 (n : Int), .bool b] W fun e w' => e = .returned (.int .i64 ((b.toNat : Nat) : Int)) ∧ BkAt w' g o A D (ins l n b) ∧ Chg W w' (fun k => k = g) := by
  have h0 : (0 : Int) ≤ (n : Int) := by omega
  have h64 : (n : Int) < 64 := by omega
  have hw := wd_lt64 l (by omega)
  have hp := pow_lt64 (show n < 64 by omega)
  have hp0 : 0 < 2 ^ n := Nat.two_pow_pos n
  obtain ⟨m1, m2⟩ := wd_ins l n hn hl
  have hm : IntKind.u64.wrap (IntKind.u64.wrap ((2 : Int) ^ n) - 1) = ((2 ^ n - 1 : Nat) : Int) := by
    rw [shl_one n (by omega), IntKind.wrap_u64]; omega
  have e1 : bits .and .u64 (wd l : Int) (IntKind.u64.wrap (IntKind.u64.wrap ((2 : Int) ^ n) - 1)) = ((wd l % 2 ^ n : Nat) : Int) := by
    rw [hm, u64_and_nat _ _ (by omega) (by omega), low_mask]
  have e2 : bits .andNot .u64 (wd l : Int) (IntKind.u64.wrap (IntKind.u64.wrap ((2 : Int) ^ n) - 1)) = ((2 ^ n * (wd l / 2 ^ n) : Nat) : Int) := by
    rw [hm, u64_andNot_nat _ _ (by omega) (by omega), high_mask _ _ hw (by omega)]
  have e3 : IntKind.u64.wrap (((2 ^ n * (wd l / 2 ^ n) : Nat) : Int) * 2) = ((2 ^ n * (wd l / 2 ^ n) * 2 : Nat) : Int) := by
    rw [IntKind.wrap_u64]; omega
  have e4 : bits .or .u64 ((wd l % 2 ^ n : Nat) : Int) ((2 ^ n * (wd l / 2 ^ n) * 2 : Nat) : Int) = (wd (ins l n false) : Int) := by
    rw [u64_or_nat _ _ (by have := Nat.mod_le (wd l) (2 ^ n); omega) m2, m1]
  obtain ⟨hin1, hin2, hl1⟩ := ins_more l n hn hl
  have hcn : cnt (ins l n false) = cnt l := cnt_ins l n false
  obtain ⟨hA, hB⟩ := h
  obtain ⟨c0, c1, c2, fz⟩ := blk3 hA hB
  have f2 := fz (o + 2)
  obtain ⟨W1, hW1⟩ : ∃ W1, W1 = (W.setCell ⟨g, o + 2, none⟩ (.int .u64 (wd (ins l n false) : Int))).drew := ⟨_, rfl⟩
  have q1 : W1.heap[g]? = some (.cells (A ++ (.int .i64 (l.length : Int) :: .int .i64 (cnt l : Int) :: .int .u64 (wd (ins l n false) : Int) :: D)).toArray 77) := by rw [hW1]; exact (blk_set hA hB _).2.2
  have q2 : Chg W W1 (fun k => k = g) := by rw [hW1]; exact cg_set W g (o + 2) _
  obtain ⟨d0, d1, d2, fz1⟩ := blk3 hA q1
  have f1 := fz1 o
  have HF : Hid (Calls Tryd.prog 51 #[.pointer (some ⟨g, o, none⟩), .int .i64 (n : Int), .bool b] (W1.setCell ⟨g, o, none⟩ (.int .i64 ((ins l n false).length : Int))) fun e w' => e = .returned (.int .i64 ((b.toNat : Nat) : Int)) ∧ BkAt w' g o A D (ins l n b) ∧ Chg W w' (fun k => k = g)) := by
    have hb : BkAt (W1.setCell ⟨g, o, none⟩ (.int .i64 ((ins l n false).length : Int))) g o A D (ins l n false) := by
      refine ⟨hA, ?_⟩
      rw [(blk_set hA q1 _).1, encB, hcn]
      rfl
    refine (set_any (ins l n false) n b g o A D _ hin1 hin2 hb).mono ?_
    rintro e w' ⟨rfl, r1, r2⟩
    rw [ins_set l n b hn] at r1 ⊢
    refine ⟨ret_int (ins_diff l n b), r1, ?_⟩
    exact cg_trans (cg_trans q2 (cg_set W1 g o _) (fun k _ r => r)) r2 (fun k _ r => r)
  clear q1 q2 hB fz fz1 d1 d2 c1 hm hcn hin1 hin2 m1 m2 hp hp0 hw
  generalize ((ins l n false).length : Int) = len2 at hl1 HF
  generalize (l.length : Int) = len1 at hl1 c0 d0
  generalize wd (ins l n false) = z at e4 hW1
  generalize ((2 ^ n * (wd l / 2 ^ n) * 2 : Nat) : Int) = y3 at e3 e4
  generalize ((2 ^ n * (wd l / 2 ^ n) : Nat) : Int) = y2 at e2 e3
  generalize ((wd l % 2 ^ n : Nat) : Int) = y1 at e1 e4
  generalize wd l = x at c2 e1 e2
  go_enter Tryd.func50, Tryd.ntmps50
  go_upto_region 2 with fail
  generalize IntKind.u64.wrap (IntKind.u64.wrap ((2 : Int) ^ n) - 1) = m at e1 e2 ⊢
  go_region
  rw [← hW1]
  clear hW1 c2 f2 c0
  go_wp2_with (first | (go_at_call 51; refine HF.out.mono ?_; rintro e w' ⟨rfl, r1, r2⟩; have HR : Hid (BkAt w' g o A D (ins l n b) ∧ Chg W w' (fun k => k = g)) := ⟨r1, r2⟩; clear r1 r2))
  go_ret
  exact ⟨rfl, HR.out⟩
set_option maxHeartbeats 1000000 in
theorem choose_any (l : List Bool) (k : Nat) (g o : Nat) (A D : List Value) (W : World) (hk : k < cnt l) (hl : l.length ≤ 64) (h : BkAt W g o A D l) (hT : TabD W) :
    Calls Tryd.prog 40 #[.pointer (some ⟨g, o, none⟩), .int .i64 (k : Int)] W fun e w' => e = .returned (.int .i64 (sel l k : Int)) ∧ w' = W := by
  obtain ⟨_, _, c2, _⟩ := h.cells
  have HE : Hid (Calls Tryd.prog 52 #[.int .u64 (wd (dropK k l) : Int)] W fun e w' => e = .returned (.int .i64 (sel l k : Int)) ∧ w' = W) := by
    obtain ⟨k1, k2, k3⟩ := dropK_facts l k (by omega)
    have := tz_row (dropK k l) (by omega) (by omega) W hT
    rw [k3 0 (by omega), Nat.zero_add] at this
    exact this
  have HS : Hid (∀ i, i < k → IntKind.u64.wrap ((wd (dropK i l) : Int) - 1) = ((wd (dropK i l) - 1 : Nat) : Int) ∧ bits .and .u64 (wd (dropK i l) : Int) ((wd (dropK i l) - 1 : Nat) : Int) = (wd (dropK (i + 1) l) : Int)) := by
    intro i hi
    obtain ⟨k1, k2, k3⟩ := dropK_facts l i (by omega)
    have h1 := cnt_pos_wd (dropK i l) (by omega)
    have h2 := wd_lt64 (dropK i l) (by omega)
    refine ⟨by rw [IntKind.wrap_u64]; omega, ?_⟩
    rw [u64_and_nat _ _ h2 (by omega), drop1_wd _ (by omega)]
    rfl
  have HK : Hid (k ≤ 64) := by have := cnt_le l; show k ≤ 64; omega
  clear h hT
  go_enter Tryd.func40, Tryd.ntmps40
  go_wp2
  go_loopw [5, 11] (fun x5 x11 wr => ∃ i : Nat, x5 = .int .u64 (wd (dropK i l) : Int) ∧ x11 = .int .i64 (i : Int) ∧ i ≤ k ∧ wr = W) (fun x5 x11 _ => k - (intOf x11).toNat)
  case atStart => exact ⟨0, rfl, rfl, by omega, rfl⟩
  case round =>
    obtain ⟨i, h5, h11, hik, hwr⟩ := hrel
    subst h5 h11 hwr
    by_cases hlt : i < k
    · have hlt' : decide ((i : Int) < (k : Int)) = true := by simpa using hlt
      obtain ⟨e1, e2⟩ := HS.out i hlt
      have hi1 : (i : Int) + 1 ≤ 65 := by have := HK.out; omega
      have HX : Hid (i + 1 ≤ k) := hlt
      clear hlt hik
      generalize wd (dropK i l) = x at e1 e2
      generalize hz : wd (dropK (i + 1) l) = z at e2
      generalize ((x - 1 : Nat) : Int) = y at e1 e2
      go_wp2
      go_roundw
      case rel => exact ⟨i + 1, by rw [hz], by rw [Int.natCast_add]; rfl, HX.out, trivial⟩
      case measure => have := HX.out; simp [intOf]; omega
    · have hlt' : decide ((i : Int) < (k : Int)) = false := by simpa using hlt
      obtain rfl : i = k := by omega
      clear hlt hik
      go_wp2_with (first | (go_at_call 52; refine HE.out.mono ?_; rintro e w' ⟨rfl, rfl⟩))
      go_ret
      exact ⟨rfl, rfl⟩
theorem results_cell_one {fn : Func} {p : Tmp} {ty : TypeId} (h : fn.results = #[.cell p ty]) (tmps : Array Value) (P : Program) (w : World) :
    (results fn tmps).run P w = ((asAddr (tmps.getD p undef)).run P w).andThen fun a w₁ => (loadVar ty a).run P w₁ := by
  simp only [results, h]
  simp [Sem.run_bind, Result.andThen]
theorem newBlock_any (l : List Bool) (hl : l.length ≤ 64) (W : World) :
    Calls Tryd.prog 56 #[.int .i64 (l.length : Int), .int .u64 (wd l : Int)] W fun e w' => e = .returned (.agg (encB l).toArray) ∧ w' = W.alloc (.cells (encB l).toArray 77) := by
  have HC : Hid (∀ W, Calls Tryd.prog 53 #[.int .u64 (wd l : Int)] W fun e w' => e = .returned (.int .i64 (cnt l : Int)) ∧ w' = W) := fun W => ones_row l hl W
  unfold encB
  generalize (l.length : Int) = n
  generalize (cnt l : Int) = c at HC ⊢
  generalize (wd l : Int) = x at HC ⊢
  go_enter Tryd.func56, Tryd.ntmps56
  go_wp2_with (first | (go_at_call 53; refine (HC.out _).mono ?_; rintro e w' ⟨rfl, rfl⟩))
  refine bodyPost_ret (v := .agg #[.int .i64 n, .int .i64 c, .int .u64 x]) ?_ rfl ⟨rfl, rfl⟩
  rw [results_cell_one rfl]
  go_simp
end Go.Proofs.YtlelbepfkkaojaaDoor
