/- The walk of foolscapref01.Size. -/
import Derived.Test.YtcbnmahbdcjamaaIdB
namespace Go.Proofs.Ytcbnmahbdcjamaa
open Go.RowKit Go.Sort
set_option linter.unusedVariables false

theorem refSizeZ_any (c : Int) (w : World) : Calls Try.prog 20 #[.int .i32 c] w fun e w' => ∃ n : Int, e = .returned (.int .i64 n) ∧ ((n == 0) = !chB c ∧ decide (0 < n) = chB c) ∧ w' = w := by
  have hR : chB c = (decide (0 ≤ c) && decide (c ≤ 1114111) && (decide (c < 55296) || decide (57343 < c))) := rfl
  generalize chB c = R at hR ⊢
  by_cases h1 : 0 ≤ c
  · by_cases h2 : c ≤ 1114111
    · by_cases h3 : c < 55296
      · simp only [h1, h2, h3, decide_true, Bool.true_or, Bool.and_self] at hR
        subst hR
        by_cases h4 : c ≤ 127
        · go_enter Try.func20, Try.ntmps20
          go_wp2
          go_ret
          exact ⟨_, rfl, by decide, rfl⟩
        · by_cases h5 : c ≤ 2047
          · go_enter Try.func20, Try.ntmps20
            go_wp2
            go_ret
            exact ⟨_, rfl, by decide, rfl⟩
          · have h6 : c ≤ 65535 := by omega
            go_enter Try.func20, Try.ntmps20
            go_wp2
            go_ret
            exact ⟨_, rfl, by decide, rfl⟩
      · by_cases h4 : 57343 < c
        · simp only [h1, h2, h3, h4, decide_true, decide_false, Bool.false_or, Bool.and_self] at hR
          subst hR
          have h7 : ¬ c ≤ 57343 := by omega
          have h8 : ¬ c ≤ 127 := by omega
          have h9 : ¬ c ≤ 2047 := by omega
          by_cases h6 : c ≤ 65535
          all_goals
            go_enter Try.func20, Try.ntmps20
            go_wp2
            go_ret
            exact ⟨_, rfl, by decide, rfl⟩
        · simp only [h1, h2, h3, h4, decide_true, decide_false, Bool.or_self, Bool.and_false] at hR
          subst hR
          have h7 : c ≤ 57343 := by omega
          go_enter Try.func20, Try.ntmps20
          go_wp2
          go_ret
          exact ⟨_, rfl, by decide, rfl⟩
    · simp only [h1, h2, decide_true, decide_false, Bool.and_false, Bool.false_and] at hR
      subst hR
      go_enter Try.func20, Try.ntmps20
      go_wp2
      go_ret
      exact ⟨_, rfl, by decide, rfl⟩
  · simp only [h1, decide_false, Bool.false_and] at hR
    subst hR
    go_enter Try.func20, Try.ntmps20
    go_wp2
    go_ret
    exact ⟨_, rfl, by decide, rfl⟩
end Go.Proofs.Ytcbnmahbdcjamaa
