/- The walks of the reference's functions of numbers, IDs and operations: they answer what the program's do. -/
import Derived.Test.YtfagmcgcdlboiaaIdB
namespace Go.Proofs.Ytfagmcgcdlboiaa
open Go.RowKit Go.Sort
set_option linter.unusedVariables false

theorem refAuthor_any (r k : Int) (w : World) : Calls Try.prog 12 #[.int .i64 r, .int .i64 k] w fun e w' => e = .returned (.tuple #[.int .i64 (auN r k), .bool (auOk r k)]) ∧ w' = w := by
  have hok : auOk r k = (belB r 64 && belB k 65536) := rfl
  have hn : auN r k = if auOk r k = true then 65536 * r + k else 0 := rfl
  generalize auN r k = N at hn ⊢
  generalize auOk r k = K at hn hok ⊢
  have e1 := belB_iff r 64
  have e2 := belB_iff k 65536
  by_cases h1 : r < 0
  · obtain rfl : K = false := by
      rw [hok]
      cases hb : belB r 64
      · rfl
      · have := e1.1 hb; omega
    rw [if_neg (by simp)] at hn
    subst hn
    clear e1 e2 hok
    go_enter Try.func12, Try.ntmps12
    go_wp2
    go_ret2
    exact ⟨rfl, rfl⟩
  · by_cases h2 : 63 < r
    · obtain rfl : K = false := by
        rw [hok]
        cases hb : belB r 64
        · rfl
        · have := e1.1 hb; omega
      rw [if_neg (by simp)] at hn
      subst hn
      clear e1 e2 hok
      go_enter Try.func12, Try.ntmps12
      go_wp2
      go_ret2
      exact ⟨rfl, rfl⟩
    · have hb1 : belB r 64 = true := e1.2 (by omega)
      by_cases h3 : k < 0
      · obtain rfl : K = false := by
          rw [hok]
          cases hb : belB k 65536
          · rw [Bool.and_false]
          · have := e2.1 hb; omega
        rw [if_neg (by simp)] at hn
        subst hn
        clear e1 e2 hok hb1
        go_enter Try.func12, Try.ntmps12
        go_wp2
        go_ret2
        exact ⟨rfl, rfl⟩
      · by_cases h4 : 65535 < k
        · obtain rfl : K = false := by
            rw [hok]
            cases hb : belB k 65536
            · rw [Bool.and_false]
            · have := e2.1 hb; omega
          rw [if_neg (by simp)] at hn
          subst hn
          clear e1 e2 hok hb1
          go_enter Try.func12, Try.ntmps12
          go_wp2
          go_ret2
          exact ⟨rfl, rfl⟩
        · have hb2 : belB k 65536 = true := e2.2 (by omega)
          obtain rfl : K = true := by rw [hok, hb1, hb2]; rfl
          rw [if_pos rfl] at hn
          have HN : Hid (N = 65536 * r + k) := hn
          clear e1 e2 hok hb1 hb2 hn
          go_enter Try.func12, Try.ntmps12
          go_wp2
          go_ret2
          exact ⟨by rw [HN.out]; rfl, rfl⟩
theorem refParts_any (n : Int) (w : World) : Calls Try.prog 14 #[.int .i64 n] w fun e w' => e = .returned (.tuple #[.int .i64 (paR n), .int .i64 (paK n), .bool (auB n)]) ∧ w' = w := by
  have hR : paR n = if auB n = true then n / 65536 else 0 := rfl
  have hK : paK n = if auB n = true then n % 65536 else 0 := rfl
  have hb : auB n = true ↔ 0 ≤ n ∧ n < 4194304 := belB_iff n 4194304
  generalize paR n = R at hR ⊢
  generalize paK n = K at hK ⊢
  generalize auB n = b at hR hK hb ⊢
  by_cases h1 : n < 0
  · obtain rfl : b = false := by
      cases b
      · rfl
      · have := hb.1 rfl; omega
    rw [if_neg (by simp)] at hR hK
    subst hR hK
    clear hb
    go_enter Try.func14, Try.ntmps14
    go_wp2
    go_ret3
    exact ⟨rfl, rfl⟩
  · by_cases h2 : 4194304 ≤ n
    · obtain rfl : b = false := by
        cases b
        · rfl
        · have := hb.1 rfl; omega
      rw [if_neg (by simp)] at hR hK
      subst hR hK
      clear hb
      go_enter Try.func14, Try.ntmps14
      go_wp2
      go_ret3
      exact ⟨rfl, rfl⟩
    · obtain rfl : b = true := hb.2 (by omega)
      rw [if_pos rfl] at hR hK
      have HR : Hid (R = n / 65536) := hR
      have HK : Hid (K = n % 65536) := hK
      have h3 : 0 ≤ n := by omega
      have h4 : n < 4194304 := by omega
      clear hR hK hb h1
      go_enter Try.func14, Try.ntmps14
      go_wp2
      go_ret3
      exact ⟨by rw [HR.out, HK.out]; rfl, rfl⟩
theorem refLess_any (a1 a2 b1 b2 : Int) (w : World) : Calls Try.prog 16 #[.agg #[.int .i64 a1, .int .i64 a2], .agg #[.int .i64 b1, .int .i64 b2]] w fun e w' => e = .returned (.bool (lsB a1 a2 b1 b2)) ∧ Gw w w' := by
  obtain ⟨R, hR⟩ : ∃ R, R = lsB a1 a2 b1 b2 := ⟨_, rfl⟩
  rw [← hR]
  unfold lsB at hR
  have HG : Hid (∀ o o2 : Obj, Gw w ((w.alloc o).alloc o2)) := fun o o2 => (gw_alloc w o).alloc o2
  rcases Int.lt_trichotomy a1 b1 with h | h | h
  · simp only [h, decide_true, Bool.true_or] at hR
    subst hR
    go_enter Try.func16, Try.ntmps16
    go_wp2
    go_ret
    exact ⟨rfl, HG.out _ _⟩
  · subst h
    have h2 : ¬ a1 < a1 := by omega
    simp only [h2, decide_true, decide_false, Bool.false_or, Bool.true_and] at hR
    by_cases h3 : a2 < b2
    all_goals
      simp only [h3, decide_true, decide_false] at hR
      subst hR
      go_enter Try.func16, Try.ntmps16
      go_wp2
      go_ret
      exact ⟨rfl, HG.out _ _⟩
  · have h2 : ¬ a1 = b1 := by omega
    have h3 : ¬ a1 < b1 := by omega
    simp only [h2, h3, decide_false, Bool.false_and, Bool.false_or] at hR
    subst hR
    have h4 : (a1 == b1) = false := beq_false_of_ne h2
    clear h h2
    go_enter Try.func16, Try.ntmps16
    go_wp2
    go_ret
    exact ⟨rfl, HG.out _ _⟩
theorem refright_any (c a : Int) (w : World) : Calls Try.prog 38 #[.agg #[.int .i64 c, .int .i64 a]] w fun e w' => e = .returned (.bool (idB c a)) ∧ Gw w w' := by
  have hR : idB c a = ((decide (1 ≤ c) && decide (c ≤ 4294967295)) && (decide (0 ≤ a) && decide (a < 4194304))) := rfl
  generalize idB c a = R at hR ⊢
  have HG : Hid (∀ o : Obj, Gw w (w.alloc o)) := fun o => gw_alloc w o
  by_cases h1 : 1 ≤ c
  · by_cases h2 : c ≤ 4294967295
    · by_cases h3 : 0 ≤ a
      · by_cases h4 : a < 4194304
        all_goals
          simp only [h1, h2, h3, h4, decide_true, decide_false, Bool.and_self, Bool.and_false] at hR
          subst hR
          go_enter Try.func38, Try.ntmps38
          go_wp2
          go_ret
          exact ⟨rfl, HG.out _⟩
      · simp only [h1, h2, h3, decide_true, decide_false, Bool.and_self, Bool.and_false, Bool.false_and] at hR
        subst hR
        go_enter Try.func38, Try.ntmps38
        go_wp2
        go_ret
        exact ⟨rfl, HG.out _⟩
    · simp only [h1, h2, decide_true, decide_false, Bool.and_false, Bool.false_and] at hR
      subst hR
      go_enter Try.func38, Try.ntmps38
      go_wp2
      go_ret
      exact ⟨rfl, HG.out _⟩
  · simp only [h1, decide_false, Bool.false_and] at hR
    subst hR
    go_enter Try.func38, Try.ntmps38
    go_wp2
    go_ret
    exact ⟨rfl, HG.out _⟩
/-- Size: above nothing just of a character. -/
theorem refSize_any (c : Int) (w : World) : Calls Try.prog 39 #[.int .i32 c] w fun e w' => ∃ n : Int, e = .returned (.int .i64 n) ∧ decide (0 < n) = chB c ∧ w' = w := by
  have hR : chB c = (decide (0 ≤ c) && decide (c ≤ 1114111) && (decide (c < 55296) || decide (57343 < c))) := rfl
  generalize chB c = R at hR ⊢
  by_cases h1 : 0 ≤ c
  · by_cases h2 : c ≤ 1114111
    · by_cases h3 : c < 55296
      · simp only [h1, h2, h3, decide_true, Bool.true_or, Bool.and_self] at hR
        subst hR
        by_cases h4 : c ≤ 127
        · go_enter Try.func39, Try.ntmps39
          go_wp2
          go_ret
          exact ⟨_, rfl, by decide, rfl⟩
        · by_cases h5 : c ≤ 2047
          · go_enter Try.func39, Try.ntmps39
            go_wp2
            go_ret
            exact ⟨_, rfl, by decide, rfl⟩
          · have h6 : c ≤ 65535 := by omega
            go_enter Try.func39, Try.ntmps39
            go_wp2
            go_ret
            exact ⟨_, rfl, by decide, rfl⟩
      · by_cases h4 : 57343 < c
        · simp only [h1, h2, h3, h4, decide_true, decide_false, Bool.false_or, Bool.and_self] at hR
          subst hR
          have h7 : ¬ c ≤ 57343 := by omega
          have h8 : ¬ c ≤ 127 := by omega
          have h9 : ¬ c ≤ 2047 := by omega
          by_cases h6 : c ≤ 65535
          all_goals
            go_enter Try.func39, Try.ntmps39
            go_wp2
            go_ret
            exact ⟨_, rfl, by decide, rfl⟩
        · simp only [h1, h2, h3, h4, decide_true, decide_false, Bool.or_self, Bool.and_false] at hR
          subst hR
          have h7 : c ≤ 57343 := by omega
          go_enter Try.func39, Try.ntmps39
          go_wp2
          go_ret
          exact ⟨_, rfl, by decide, rfl⟩
    · simp only [h1, h2, decide_true, decide_false, Bool.and_false, Bool.false_and] at hR
      subst hR
      go_enter Try.func39, Try.ntmps39
      go_wp2
      go_ret
      exact ⟨_, rfl, by decide, rfl⟩
  · simp only [h1, decide_false, Bool.false_and] at hR
    subst hR
    go_enter Try.func39, Try.ntmps39
    go_wp2
    go_ret
    exact ⟨_, rfl, by decide, rfl⟩
end Go.Proofs.Ytfagmcgcdlboiaa
