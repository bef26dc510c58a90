/- What sums do, as numbers: of joined rows; of a row with its own sum behind. -/
import Derived.Test.YtdfkoiblcebimaaCrcB
namespace Go.Proofs.Ytdfkoiblcebimaa
open Go.RowKit
set_option linter.unusedVariables false

theorem up_append (s : Nat) (xs ys : List Int) (hs : s < 4294967296) (hb : ∀ y ∈ xs, 0 ≤ y ∧ y ≤ 255) : up s (xs ++ ys) = up (up s xs) ys := by
  have h := reg_lt (xs.map Int.toNat) (4294967295 - s) (by omega) (nat_bytes hb)
  unfold up
  rw [List.map_append, reg_append, show 4294967295 - (4294967295 - reg (4294967295 - s) (xs.map Int.toNat)) = reg (4294967295 - s) (xs.map Int.toNat) by omega]
/-- A number's four bytes, the lowest first. -/
def four (S : Nat) : List Int := [(S : Int) % 256, (S : Int) / 256 % 256, (S : Int) / 65536 % 256, (S : Int) / 16777216]
theorem four_rng (S : Nat) (h : S < 4294967296) : ∀ y ∈ four S, 0 ≤ y ∧ y ≤ 255 := by
  intro y hy
  simp [four] at hy
  omega
theorem wd_four (S : Nat) (h : S < 4294967296) : wd ((four S).map Int.toNat) = S := by
  have e0 : ((S : Int) % 256).toNat = S % 256 := by omega
  have e1 : ((S : Int) / 256 % 256).toNat = S / 256 % 256 := by omega
  have e2 : ((S : Int) / 65536 % 256).toNat = S / 256 / 256 % 256 := by omega
  have e3 : ((S : Int) / 16777216).toNat = S / 256 / 256 / 256 := by omega
  simp only [four, List.map_cons, List.map_nil, e0, e1, e2, e3, wd, Nat.zero_mul, Nat.xor_zero]
  have a2 := split_low (S / 256 / 256)
  have a1 := split_low (S / 256)
  have a0 := split_low S
  rw [Nat.xor_comm, show (2 : Nat) ^ 8 = 256 from rfl] at a0 a1 a2
  rw [← a2, ← a1, ← a0]
theorem up_rest (S : Nat) (h : S < 4294967296) : up S (four S) = 558161692 := by
  unfold up
  rw [reg_wd, wd_four S h, show 8 * ((four S).map Int.toNat).length = 32 by simp [four], ← xor_ones32 S h, Nat.xor_assoc, Nat.xor_self, Nat.xor_zero, rest_word]
theorem up_noughts : up 0 [0, 0, 0, 0] = 558161692 := by decide +kernel
end Go.Proofs.Ytdfkoiblcebimaa
