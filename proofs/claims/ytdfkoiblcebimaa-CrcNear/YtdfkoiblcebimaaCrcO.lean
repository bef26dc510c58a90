/- What is xored into up to four neighbours of a row of bytes, as numbers. -/
import Derived.Test.YtdfkoiblcebimaaCrcB
namespace Go.Proofs.Ytdfkoiblcebimaa
open Go.RowKit
set_option linter.unusedVariables false

/-- A byte of a number, from below. -/
def db (X i : Nat) : Nat := X / 2 ^ (8 * i) % 256
theorem db_lt (X i : Nat) : db X i < 256 := Nat.mod_lt _ (by decide)
/-- What is xored into a row of n bytes, from k on, i bytes of it. -/
def er (n k i X : Nat) : List Nat := (List.range n).map fun j => if k ≤ j ∧ j < k + i then db X (j - k) else 0
def yr (N : List Nat) (k i X : Nat) : List Nat := xr N (er N.length k i X)
/-- Is one of the first bytes another than nought? -/
def tn (X i : Nat) : Bool := (List.range i).any fun j => db X j != 0
theorem er_len (n k i X : Nat) : (er n k i X).length = n := by simp [er]
theorem er_at (n k i X j : Nat) (h : j < n) : (er n k i X)[j]? = some (if k ≤ j ∧ j < k + i then db X (j - k) else 0) := by simp [er, h]
theorem er_parts (n k i X : Nat) (h : k + i ≤ n) : er n k i X = List.replicate k 0 ++ (List.range i).map (db X) ++ List.replicate (n - k - i) 0 := by
  apply List.ext_getElem?
  intro j
  by_cases hj : j < n
  · rw [er_at n k i X j hj]
    by_cases h1 : j < k
    · rw [List.append_assoc, List.getElem?_append_left (by simpa using h1)]
      simp [h1, show ¬ k ≤ j by omega]
    · by_cases h2 : j < k + i
      · rw [List.append_assoc, List.getElem?_append_right (by simp; omega), List.getElem?_append_left (by simp; omega)]
        simp [show k ≤ j by omega, h2, show j - k < i by omega]
      · rw [List.getElem?_append_right (by simp; omega)]
        rw [if_neg (by omega), List.getElem?_replicate, if_pos (by simp; omega)]
  · rw [List.getElem?_eq_none (by rw [er_len]; omega), List.getElem?_eq_none (by simp; omega)]
theorem xr_len (a b : List Nat) (h : a.length = b.length) : (xr a b).length = a.length := by simp [xr, h]
theorem xr_at (a b : List Nat) (j x y : Nat) (h1 : a[j]? = some x) (h2 : b[j]? = some y) : (xr a b)[j]? = some (x ^^^ y) := by simp [xr, List.getElem?_zipWith, h1, h2]
theorem xr_xr : (a b : List Nat) → a.length = b.length → xr a (xr a b) = b
  | [], [], _ => rfl
  | [], _ :: _, h => by simp at h
  | _ :: _, [], h => by simp at h
  | x :: a, y :: b, h => by
    show (x ^^^ (x ^^^ y)) :: xr a (xr a b) = y :: b
    rw [xr_xr a b (by simpa using h), ← Nat.xor_assoc, Nat.xor_self, Nat.zero_xor]
theorem yr_len (N : List Nat) (k i X : Nat) : (yr N k i X).length = N.length := xr_len _ _ (er_len _ _ _ _).symm
theorem yr_at (N : List Nat) (k i X j : Nat) (h : j < N.length) : (yr N k i X)[j]? = some (N.getD j 0 ^^^ if k ≤ j ∧ j < k + i then db X (j - k) else 0) :=
  xr_at _ _ j _ _ (by simp [h]) (er_at _ _ _ _ _ h)
theorem yr_none (N : List Nat) (k X : Nat) : yr N k 0 X = N := by
  apply List.ext_getElem?
  intro j
  by_cases hj : j < N.length
  · rw [yr_at N k 0 X j hj, if_neg (by omega)]; simp [hj]
  · rw [List.getElem?_eq_none (by rw [yr_len]; omega), List.getElem?_eq_none (by omega)]
theorem yr_here (N : List Nat) (k i X : Nat) (h : k + i < N.length) : (yr N k i X)[k + i]? = some (N.getD (k + i) 0) := by
  rw [yr_at N k i X _ h, if_neg (by omega), Nat.xor_zero]
theorem yr_next (N : List Nat) (k i X : Nat) (h : k + i < N.length) : (yr N k i X).set (k + i) (N.getD (k + i) 0 ^^^ db X i) = yr N k (i + 1) X := by
  apply List.ext_getElem?
  intro j
  by_cases hj : j < N.length
  · rw [yr_at N k (i + 1) X j hj, List.getElem?_set]
    by_cases e : k + i = j
    · subst e
      rw [if_pos rfl, if_pos (by rw [yr_len]; exact hj), if_pos (by omega), show k + i - k = i by omega]
    · rw [if_neg e, yr_at N k i X j hj]
      by_cases h1 : k ≤ j ∧ j < k + i
      · rw [if_pos h1, if_pos (by omega)]
      · rw [if_neg h1, if_neg (by omega)]
  · rw [List.getElem?_eq_none (by simp [yr_len]; omega), List.getElem?_eq_none (by rw [yr_len]; omega)]
theorem yr_rng (N : List Nat) (k i X : Nat) (hb : ∀ c ∈ N, c < 256) : ∀ c ∈ yr N k i X, c < 256 := by
  intro c hc
  obtain ⟨j, hj⟩ := List.mem_iff_getElem?.1 hc
  have hjl : j < N.length := by
    rcases Nat.lt_or_ge j N.length with h | h
    · exact h
    · rw [List.getElem?_eq_none (by rw [yr_len]; omega)] at hj; cases hj
  rw [yr_at N k i X j hjl] at hj
  cases hj
  have h1 : N.getD j 0 < 256 := hb _ (by simp [hjl])
  refine Nat.xor_lt_two_pow (n := 8) h1 ?_
  split
  · exact db_lt _ _
  · decide
theorem tn_next (X i : Nat) : tn X (i + 1) = (tn X i || db X i != 0) := by
  unfold tn
  rw [List.range_succ, List.any_append]
  simp
theorem tn_false (X i : Nat) : tn X i = false ↔ ∀ c ∈ (List.range i).map (db X), c = 0 := by
  simp [tn]
/-- Up to four neighbours are seen. -/
theorem near (N : List Nat) (k i X r : Nat) (h : k + i ≤ N.length) (hi : i ≤ 4) (hb : ∀ c ∈ N, c < 256) : reg r N = reg r (yr N k i X) ↔ tn X i = false := by
  have hd : ∀ c ∈ (List.range i).map (db X), c < 256 := by
    intro c hc
    simp at hc
    obtain ⟨j, _, rfl⟩ := hc
    exact db_lt _ _
  rw [reg_differ N (yr N k i X) r (yr_len _ _ _ _).symm, yr, xr_xr N _ (er_len _ _ _ _).symm, er_parts _ _ _ _ h, reg_part _ _ _ hd, reg_near _ (by simpa using hi) hd, tn_false]
theorem getD_mem (l : List Nat) (j : Nat) (h : j < l.length) : l.getD j 0 ∈ l := by simp [h]
theorem back_nat (xs : List Int) (hb : ∀ y ∈ xs, 0 ≤ y ∧ y ≤ 255) : (xs.map Int.toNat).map Int.ofNat = xs := by
  rw [List.map_map]
  exact (List.map_congr_left fun y hy => by have := hb y hy; simp; omega).trans (List.map_id _)
theorem up_near (xs : List Int) (k i X : Nat) (h : k + i ≤ xs.length) (hi : i ≤ 4) (hb : ∀ y ∈ xs, 0 ≤ y ∧ y ≤ 255) :
    up 0 ((yr (xs.map Int.toNat) k i X).map Int.ofNat) = up 0 xs ↔ tn X i = false := by
  have e : ((yr (xs.map Int.toNat) k i X).map Int.ofNat).map Int.toNat = yr (xs.map Int.toNat) k i X := by
    rw [List.map_map]
    exact (List.map_congr_left fun y _ => by simp).trans (List.map_id _)
  rw [← near (xs.map Int.toNat) k i X 4294967295 (by simpa using h) hi (nat_bytes hb)]
  unfold up
  rw [e]
  have h1 := reg_lt (xs.map Int.toNat) 4294967295 (by decide) (nat_bytes hb)
  have h2 := reg_lt (yr (xs.map Int.toNat) k i X) 4294967295 (by decide) (yr_rng _ _ _ _ (nat_bytes hb))
  show 4294967295 - reg 4294967295 _ = 4294967295 - reg 4294967295 _ ↔ _
  omega
end Go.Proofs.Ytdfkoiblcebimaa
