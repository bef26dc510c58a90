/- The walk of IdentAuthors: each author is one replica's in one round. -/
import Derived.Test.YtfagmcgcdlboiaaIdS
namespace Go.Proofs.Ytfagmcgcdlboiaa
open Go.RowKit Go.Sort
set_option linter.unusedVariables false

theorem auOk_iff (r k : Int) : auOk r k = true ↔ (0 ≤ r ∧ r < 64) ∧ 0 ≤ k ∧ k < 65536 := by
  unfold auOk
  rw [Bool.and_eq_true, belB_iff, belB_iff]
theorem auB_iff (n : Int) : auB n = true ↔ 0 ≤ n ∧ n < 4194304 := belB_iff n 4194304
theorem au_cases (a b : Int) : (auOk a b = true ∧ 0 ≤ a ∧ a < 64 ∧ 0 ≤ b ∧ b < 65536) ∨ (auOk a b = false ∧ ¬ 0 ≤ a) ∨ (auOk a b = false ∧ 0 ≤ a ∧ ¬ a < 64) ∨ (auOk a b = false ∧ 0 ≤ a ∧ a < 64 ∧ ¬ 0 ≤ b) ∨ (auOk a b = false ∧ 0 ≤ a ∧ a < 64 ∧ 0 ≤ b ∧ ¬ b < 65536) := by
  have h := auOk_iff a b
  cases hk : auOk a b
  · rw [hk] at h
    have h' : ¬ ((0 ≤ a ∧ a < 64) ∧ 0 ≤ b ∧ b < 65536) := fun e => by cases h.2 e
    by_cases h1 : 0 ≤ a
    · by_cases h2 : a < 64
      · by_cases h3 : 0 ≤ b
        · exact .inr (.inr (.inr (.inr ⟨rfl, h1, h2, h3, fun h4 => h' ⟨⟨h1, h2⟩, h3, h4⟩⟩)))
        · exact .inr (.inr (.inr (.inl ⟨rfl, h1, h2, h3⟩)))
      · exact .inr (.inr (.inl ⟨rfl, h1, h2⟩))
    · exact .inr (.inl ⟨rfl, h1⟩)
  · have := h.1 hk
    exact .inl ⟨rfl, this.1.1, this.1.2, this.2.1, this.2.2⟩
theorem au_of (a b : Int) (h : auOk a b = true) : auN a b = 65536 * a + b ∧ auB (auN a b) = true ∧ paR (auN a b) = a ∧ paK (auN a b) = b := by
  have h1 := (auOk_iff a b).1 h
  have e : auN a b = 65536 * a + b := by unfold auN; rw [if_pos h]
  have hb : auB (auN a b) = true := by rw [auB_iff, e]; omega
  refine ⟨e, hb, ?_, ?_⟩
  · unfold paR; rw [if_pos hb, e]; omega
  · unfold paK; rw [if_pos hb, e]; omega
theorem pa_cases (n : Int) : (auB n = true ∧ 0 ≤ n ∧ n < 4194304 ∧ auOk (paR n) (paK n) = true ∧ auN (paR n) (paK n) = n) ∨ (auB n = false ∧ ¬ 0 ≤ n) ∨ (auB n = false ∧ 0 ≤ n ∧ ¬ n < 4194304) := by
  have h := auB_iff n
  cases hb : auB n
  · rw [hb] at h
    have h' : ¬ (0 ≤ n ∧ n < 4194304) := fun e => by cases h.2 e
    by_cases h1 : 0 ≤ n
    · exact .inr (.inr ⟨rfl, h1, fun h2 => h' ⟨h1, h2⟩⟩)
    · exact .inr (.inl ⟨rfl, h1⟩)
  · have h1 := h.1 hb
    have e1 : paR n = n / 65536 := by unfold paR; rw [if_pos hb]
    have e2 : paK n = n % 65536 := by unfold paK; rw [if_pos hb]
    have hk : auOk (paR n) (paK n) = true := by rw [auOk_iff, e1, e2]; omega
    refine .inl ⟨rfl, h1.1, h1.2, hk, ?_⟩
    unfold auN
    rw [if_pos hk, e1, e2]
    omega
set_option maxHeartbeats 2000000 in
theorem identAuthors_walk (a b c d n : Int) (w : World) (_ : -9223372036854775808 ≤ a) (_ : a ≤ 9223372036854775807) (_ : -9223372036854775808 ≤ b) (_ : b ≤ 9223372036854775807) (_ : -9223372036854775808 ≤ c) (_ : c ≤ 9223372036854775807) (_ : -9223372036854775808 ≤ d) (_ : d ≤ 9223372036854775807) (_ : -9223372036854775808 ≤ n) (_ : n ≤ 9223372036854775807) :
    Calls Try.prog 7 #[.int .i64 a, .int .i64 b, .int .i64 c, .int .i64 d, .int .i64 n] w fun e w' => e = .returned (.bool true) ∧ Below w.heap.size w w' := by
  have HS : Hid (∀ W : World, Calls Try.prog 10 #[] W fun e w' => e = .returned (.bool true) ∧ Below W.heap.size W w') := shown_any
  have HAB : Hid (∀ W : World, Calls Try.prog 11 #[.int .i64 a, .int .i64 b] W fun e w' => e = .returned (.tuple #[.int .i64 (auN a b), .bool (auOk a b)]) ∧ w' = W) := fun W => author_any a b W
  have HCD : Hid (∀ W : World, Calls Try.prog 11 #[.int .i64 c, .int .i64 d] W fun e w' => e = .returned (.tuple #[.int .i64 (auN c d), .bool (auOk c d)]) ∧ w' = W) := fun W => author_any c d W
  have HPX : Hid (∀ W : World, Calls Try.prog 13 #[.int .i64 (auN a b)] W fun e w' => e = .returned (.tuple #[.int .i64 (paR (auN a b)), .int .i64 (paK (auN a b)), .bool (auB (auN a b))]) ∧ w' = W) := fun W => parts_any (auN a b) W
  have HPN : Hid (∀ W : World, Calls Try.prog 13 #[.int .i64 n] W fun e w' => e = .returned (.tuple #[.int .i64 (paR n), .int .i64 (paK n), .bool (auB n)]) ∧ w' = W) := fun W => parts_any n W
  have HRK : Hid (∀ W : World, Calls Try.prog 11 #[.int .i64 (paR n), .int .i64 (paK n)] W fun e w' => e = .returned (.tuple #[.int .i64 (auN (paR n) (paK n)), .bool (auOk (paR n) (paK n))]) ∧ w' = W) := fun W => author_any (paR n) (paK n) W
  have hab := au_cases a b
  have hn := pa_cases n
  have hx := au_of a b
  have hcd : auOk c d = false ∨ (auOk c d = true ∧ ((0 ≤ c ∧ c < 64) ∧ 0 ≤ d ∧ d < 65536) ∧ auN c d = 65536 * c + d) := by
    cases h : auOk c d
    · exact .inl rfl
    · exact .inr ⟨rfl, (auOk_iff c d).1 h, (au_of c d h).1⟩
  generalize auOk (paR n) (paK n) = IS at HRK hn
  generalize auN (paR n) (paK n) = Z at HRK hn
  generalize paR n = R at HPN HRK
  generalize paK n = K at HPN HRK
  generalize auB n = OK at HPN hn
  generalize paR (auN a b) = R1 at HPX hx
  generalize paK (auN a b) = K1 at HPX hx
  generalize auB (auN a b) = B1 at HPX hx
  generalize auN a b = X at HAB HPX hx
  generalize auN c d = Y at HCD hcd
  generalize auOk a b = P1 at HAB hab hx
  generalize auOk c d = P2 at HCD hcd
  have htest : P1 = false ∨ (P1 = true ∧ B1 = true ∧ R1 = a ∧ K1 = b ∧ (P2 = false ∨ (P2 = true ∧ a = c ∧ b = d ∧ X = Y) ∨ (P2 = true ∧ ((a == c) = false) ∧ ((X == Y) = false)) ∨ (P2 = true ∧ a = c ∧ ((b == d) = false) ∧ ((X == Y) = false)))) := by
    cases P1
    · exact .inl rfl
    · obtain ⟨e1, e2, e3, e4⟩ := hx rfl
      refine .inr ⟨rfl, e2, e3, e4, ?_⟩
      rcases hcd with h | ⟨h, h1, h2⟩
      · exact .inl h
      · rcases hab with h3 | h3 | h3 | h3 | h3
        · by_cases h4 : a = c
          · by_cases h5 : b = d
            · exact .inr (.inl ⟨h, h4, h5, by omega⟩)
            · exact .inr (.inr (.inr ⟨h, h4, beq_false_of_ne h5, beq_false_of_ne (by omega)⟩))
          · exact .inr (.inr (.inl ⟨h, beq_false_of_ne h4, beq_false_of_ne (by omega)⟩))
        all_goals cases h3.1
  clear hx hcd
  go_enter Try.func7, Try.ntmps7
  go_upto_region 2 with (first | (go_at_call 10; refine (HS.out _).mono ?_; rintro e w1 ⟨rfl, hb⟩; have HB1 : Hid (Below w.heap.size w w1) := hb; clear hb))
  go_upto_region 3 with (first | (go_at_call 11; refine (HAB.out _).mono ?_; rintro e w' ⟨rfl, hw'⟩; obtain rfl := hw'.symm; clear hw'))
  go_upto_region 4 with (first | (go_at_call 11; refine (HCD.out _).mono ?_; rintro e w' ⟨rfl, hw'⟩; obtain rfl := hw'.symm; clear hw'))
  rcases htest with rfl | ⟨rfl, rfl, hR1, hK1, hP⟩
  · clear HPX
    rcases hab with ⟨h0, ha1, ha2, hb1, hb2⟩ | ⟨h0, ha1⟩ | ⟨h0, ha1, ha2⟩ | ⟨h0, ha1, ha2, hb1⟩ | ⟨h0, ha1, ha2, hb1, hb2⟩
    all_goals first | (cases h0; done) | skip
    all_goals
      clear h0
      rcases hn with ⟨rfl, hn1, hn2, rfl, rfl⟩ | ⟨rfl, hn1⟩ | ⟨rfl, hn1, hn2⟩
      all_goals
        go_upto_region 11 with (first | (go_at_call 13; refine (HPN.out _).mono ?_; rintro e w' ⟨rfl, hw'⟩; obtain rfl := hw'.symm; clear hw'))
        go_wp2_with (first | (go_at_call 11; refine (HRK.out _).mono ?_; rintro e w' ⟨rfl, hw'⟩; obtain rfl := hw'.symm; clear hw'))
        go_ret
        exact ⟨by first | rfl | (simp; omega), HB1.out⟩
  · subst hR1 hK1
    rcases hP with rfl | ⟨rfl, rfl, rfl, rfl⟩ | ⟨rfl, h5, h6⟩ | ⟨rfl, rfl, h5, h6⟩
    all_goals
      rcases hab with ⟨h0, ha1, ha2, hb1, hb2⟩ | ⟨h0, ha1⟩ | ⟨h0, ha1, ha2⟩ | ⟨h0, ha1, ha2, hb1⟩ | ⟨h0, ha1, ha2, hb1, hb2⟩
      all_goals first | (cases h0; done) | skip
      all_goals
        clear h0
        rcases hn with ⟨rfl, hn1, hn2, rfl, rfl⟩ | ⟨rfl, hn1⟩ | ⟨rfl, hn1, hn2⟩
        all_goals
          go_upto_region 6 with (first | (go_at_call 13; refine (HPX.out _).mono ?_; rintro e w' ⟨rfl, hw'⟩; obtain rfl := hw'.symm; clear hw'))
          go_upto_region 10 with fail
          go_upto_region 11 with (first | (go_at_call 13; refine (HPN.out _).mono ?_; rintro e w' ⟨rfl, hw'⟩; obtain rfl := hw'.symm; clear hw'))
          go_wp2_with (first | (go_at_call 11; refine (HRK.out _).mono ?_; rintro e w' ⟨rfl, hw'⟩; obtain rfl := hw'.symm; clear hw'))
          go_ret
          exact ⟨by first | rfl | (simp; omega), HB1.out⟩
end Go.Proofs.Ytfagmcgcdlboiaa
