/- Three rows of as many bytes xored, as numbers; the least of four; a row made of noughts. -/
import Derived.Test.YtdfkoiblcebimaaCrcB
import Derived.Laws.OwnMore
namespace Go.Proofs.Ytdfkoiblcebimaa
open Go.RowKit
set_option linter.unusedVariables false

/-- The first i places of three rows xored, noughts behind. -/
def lr (A B C : List Nat) (n i : Nat) : List Nat := (List.range n).map fun j => if j < i then A.getD j 0 ^^^ B.getD j 0 ^^^ C.getD j 0 else 0
theorem lr_len (A B C : List Nat) (n i : Nat) : (lr A B C n i).length = n := by simp [lr]
theorem lr_at (A B C : List Nat) (n i j : Nat) (h : j < n) : (lr A B C n i)[j]? = some (if j < i then A.getD j 0 ^^^ B.getD j 0 ^^^ C.getD j 0 else 0) := by simp [lr, h]
theorem lr_next (A B C : List Nat) (n i : Nat) (h : i < n) : (lr A B C n i).set i (A.getD i 0 ^^^ B.getD i 0 ^^^ C.getD i 0) = lr A B C n (i + 1) := by
  apply List.ext_getElem?
  intro j
  by_cases hj : j < n
  · rw [lr_at A B C n (i + 1) j hj, List.getElem?_set]
    by_cases e : i = j
    · subst e
      rw [if_pos rfl, if_pos (by rw [lr_len]; exact hj), if_pos (by omega)]
    · rw [if_neg e, lr_at A B C n i j hj]
      by_cases h1 : j < i
      · rw [if_pos h1, if_pos (by omega)]
      · rw [if_neg h1, if_neg (by omega)]
  · rw [List.getElem?_eq_none (by simp [lr_len]; omega), List.getElem?_eq_none (by rw [lr_len]; omega)]
theorem lr_all (A B C : List Nat) (n : Nat) (ha : A.length = n) (hb : B.length = n) (hc : C.length = n) : lr A B C n n = xr (xr A B) C := by
  apply List.ext_getElem?
  intro j
  by_cases hj : j < n
  · rw [lr_at A B C n n j hj, if_pos hj]
    simp [xr, List.getElem?_zipWith, show j < A.length by omega, show j < B.length by omega, show j < C.length by omega]
  · rw [List.getElem?_eq_none (by rw [lr_len]; omega), List.getElem?_eq_none (by simp [xr]; omega)]
theorem lr_rng (A B C : List Nat) (n i : Nat) (ha : ∀ c ∈ A, c < 256) (hb : ∀ c ∈ B, c < 256) (hc : ∀ c ∈ C, c < 256) : ∀ c ∈ lr A B C n i, c < 256 := by
  have g : ∀ (l : List Nat) (j : Nat), (∀ c ∈ l, c < 256) → l.getD j 0 < 2 ^ 8 := by
    intro l j h
    by_cases hj : j < l.length
    · exact h _ (by simp [hj])
    · simp [List.getElem?_eq_none (Nat.le_of_not_lt hj)]
  intro c hcc
  simp only [lr, List.mem_map] at hcc
  obtain ⟨j, _, rfl⟩ := hcc
  split
  · exact Nat.xor_lt_two_pow (Nat.xor_lt_two_pow (g A j ha) (g B j hb)) (g C j hc)
  · decide
theorem three_ones (p a b c : Nat) : p ^^^ (a ^^^ b ^^^ c) = p ^^^ a ^^^ (p ^^^ b) ^^^ (p ^^^ c) := by
  have h : p ^^^ a ^^^ (p ^^^ b) = a ^^^ b := by
    rw [Nat.xor_comm p a, Nat.xor_assoc, ← Nat.xor_assoc p p b, Nat.xor_self, Nat.zero_xor]
  rw [h, ← Nat.xor_assoc p, ← Nat.xor_assoc (a ^^^ b), Nat.xor_comm p (a ^^^ b)]
theorem back_nat (l : List Nat) : (l.map Int.ofNat).map Int.toNat = l := by
  rw [List.map_map]
  exact (List.map_congr_left fun y _ => by simp).trans (List.map_id _)
theorem up_three (xs ys zs : List Int) (n : Nat) (hx : xs.length = n) (hy : ys.length = n) (hz : zs.length = n) (bx : ∀ y ∈ xs, 0 ≤ y ∧ y ≤ 255) (by_ : ∀ y ∈ ys, 0 ≤ y ∧ y ≤ 255) (bz : ∀ y ∈ zs, 0 ≤ y ∧ y ≤ 255) :
    up 0 ((lr (xs.map Int.toNat) (ys.map Int.toNat) (zs.map Int.toNat) n n).map Int.ofNat) = up 0 xs ^^^ up 0 ys ^^^ up 0 zs := by
  have h1 := reg_lt (xs.map Int.toNat) 4294967295 (by decide) (nat_bytes bx)
  have h2 := reg_lt (ys.map Int.toNat) 4294967295 (by decide) (nat_bytes by_)
  have h3 := reg_lt (zs.map Int.toNat) 4294967295 (by decide) (nat_bytes bz)
  have e1 := reg_xor (xs.map Int.toNat) (ys.map Int.toNat) 4294967295 4294967295 (by simp; omega)
  have e2 := reg_xor (xr (xs.map Int.toNat) (ys.map Int.toNat)) (zs.map Int.toNat) (4294967295 ^^^ 4294967295) 4294967295 (by simp [xr]; omega)
  rw [e1, Nat.xor_self, Nat.zero_xor] at e2
  unfold up
  rw [back_nat, lr_all _ _ _ n (by simpa using hx) (by simpa using hy) (by simpa using hz)]
  show 4294967295 - reg 4294967295 _ = (4294967295 - reg 4294967295 _) ^^^ (4294967295 - reg 4294967295 _) ^^^ (4294967295 - reg 4294967295 _)
  rw [e2, ← xor_ones32 _ h1, ← xor_ones32 _ h2, ← xor_ones32 _ h3, ← xor_ones32 _ (Nat.xor_lt_two_pow (n := 32) (Nat.xor_lt_two_pow (n := 32) h1 h2) h3), three_ones]
theorem min_four (a b c n : Nat) (d : Int) (h : (n : Int) = min (min (min (a : Int) b) c) d) (W : World) : (Builtin.min_ #[3, 3, 3, 3] 3 #[.int .i64 a, .int .i64 b, .int .i64 c, .int .i64 d]).run Try.prog W = .ok (.int .i64 n) W := by
  have e : (if d < (if (c : Int) < (if (b : Int) < a then (b : Int) else a) then (c : Int) else (if (b : Int) < a then (b : Int) else a)) then d else (if (c : Int) < (if (b : Int) < a then (b : Int) else a) then (c : Int) else (if (b : Int) < a then (b : Int) else a))) = n := by
    rw [h]
    repeat' split
    all_goals omega
  rw [← e]
  simp [Builtin.min_, Builtin.min2]
theorem made_noughts (A B C : List Nat) (n : Nat) : (madeCells (Value.int .u8 0).cells (n * 1)).toList = ((lr A B C n 0).map Int.ofNat).map (Value.int .u8) := by
  apply List.ext_getElem?
  intro j
  by_cases hj : j < n
  · rw [List.getElem?_map, List.getElem?_map, lr_at A B C n 0 j hj, if_neg (by omega)]
    simp [madeCells, Value.cells, hj, Nat.mod_one]
  · rw [List.getElem?_eq_none (by simp [madeCells]; omega), List.getElem?_eq_none (by simp [lr_len]; omega)]
end Go.Proofs.Ytdfkoiblcebimaa
