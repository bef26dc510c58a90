/- The walks of the reference's Join, Gap, Vector, Same, and of the statements' vector. -/
import Derived.Test.YtcbnmahbdcjamaaIdV
import Derived.Test.YtcbnmahbdcjamaaIdG
import Derived.Deep.RegionWith
namespace Go.Proofs.Ytcbnmahbdcjamaa
open Go.RowKit Go.Sort
set_option linter.unusedVariables false

theorem join_next (A B : List (Int × Int)) (i : Nat) (h : i < B.length) : joinL A (B.take (i + 1)) = withL (joinL A (B.take i)) (B.getD i (0, 0)).1 (B.getD i (0, 0)).2 := by
  have e : B.take (i + 1) = B.take i ++ [B.getD i (0, 0)] := by rw [List.take_add_one]; simp [h]
  rw [e]
  simp [joinL, List.foldl_append]
theorem row_next {w W w' : World} {rs : List (Int × Int)} {e : Ending} (hb : Below w.heap.size w W) (h : RowP rs W e w') : ∃ v, e = .returned v ∧ WtW w v rs w' := by
  obtain ⟨v, rfl, ho, hb2⟩ := h
  have h3 := hb.trans (hb2.mono hb.size)
  exact ⟨v, rfl, own_base ho hb.size, h3, h3.size⟩
/-- The vector of what is handed in. -/
def vecF (v : List (Int × Int)) (e : Int × Int) : List (Int × Int) := withL v (e.1 % 4194304) (1 + e.2 % 65536)
def vecL (l : List (Int × Int)) : List (Int × Int) := (l.take 30).foldl vecF []
theorem and_low2 (n m : Int) (j : Nat) (hj : j ≤ 40) (hm : (BitVec.ofInt 64 m).toNat = 2 ^ j - 1) : bits .and .i64 n m = n % 2 ^ j := by
  have key : (BitVec.ofInt 64 n &&& BitVec.ofInt 64 m).toNat = (n % ((2 ^ 64 : Nat) : Int)).toNat % 2 ^ j := by
    rw [BitVec.toNat_and, BitVec.toNat_ofInt, hm, Nat.and_two_pow_sub_one_eq_mod]
  show IntKind.i64.wrap ((BitVec.ofInt 64 n &&& BitVec.ofInt 64 m).toNat : Nat) = n % 2 ^ j
  rw [key, IntKind.wrap_i64]
  have hd : ((2 ^ j : Nat) : Int) ∣ ((2 ^ 64 : Nat) : Int) := by
    have : (2 ^ j : Nat) ∣ (2 ^ 64 : Nat) := Nat.pow_dvd_pow 2 (by omega)
    exact_mod_cast this
  have h0 : 0 ≤ n % ((2 ^ 64 : Nat) : Int) := Int.emod_nonneg _ (by decide)
  have h1 : (((n % ((2 ^ 64 : Nat) : Int)).toNat % 2 ^ j : Nat) : Int) = n % 2 ^ j := by
    rw [Int.natCast_emod, Int.toNat_of_nonneg h0, Int.emod_emod_of_dvd n hd]; simp
  have h2 : ((n % ((2 ^ 64 : Nat) : Int)).toNat % 2 ^ j : Nat) < 2 ^ j := Nat.mod_lt _ (Nat.two_pow_pos j)
  have h3 : (2 : Nat) ^ j ≤ 2 ^ 40 := Nat.pow_le_pow_right (by decide) hj
  rw [h1]
  rw [← h1]
  generalize ((n % ((2 ^ 64 : Nat) : Int)).toNat % 2 ^ j : Nat) = q at *
  omega
theorem and22 (n : Int) : bits .and .i64 n 4194303 = n % 4194304 := and_low2 n 4194303 22 (by omega) (by decide)
theorem and16 (n : Int) : bits .and .i64 n 65535 = n % 65536 := and_low2 n 65535 16 (by omega) (by decide)
theorem vec_fold (l : List (Int × Int)) (v : List (Int × Int)) (h : Vec v) : Vec (l.foldl vecF v) := by
  induction l generalizing v with
  | nil => exact h
  | cons x r ih => exact ih _ (with_vec v _ _ h)
theorem fold_len (l : List (Int × Int)) (v : List (Int × Int)) : (l.foldl vecF v).length ≤ v.length + l.length := by
  induction l generalizing v with
  | nil => simp
  | cons x r ih =>
    have h1 := ih (vecF v x)
    have h2 := with_len v (x.1 % 4194304) (1 + x.2 % 65536)
    rw [List.foldl_cons, List.length_cons]
    unfold vecF at h1 ⊢
    omega
/-- What a vector's entries are. -/
def RngE (v : List (Int × Int)) : Prop := ∀ x ∈ v, (0 ≤ x.1 ∧ x.1 < 4194304) ∧ 1 ≤ x.2 ∧ x.2 ≤ 65536
theorem fold_rng (l : List (Int × Int)) (v : List (Int × Int)) (h : RngE v) : RngE (l.foldl vecF v) := by
  induction l generalizing v with
  | nil => exact h
  | cons x r ih =>
    refine ih _ fun y hy => ?_
    rcases with_mem v _ _ y hy with rfl | hy
    · simp only
      omega
    · exact h y hy
theorem vec_is (l : List (Int × Int)) : Vec (vecL l) ∧ RngE (vecL l) ∧ (vecL l).length ≤ 30 := by
  refine ⟨vec_fold _ _ vec_nil, fold_rng _ _ (fun x h => by cases h), ?_⟩
  have := fold_len (l.take 30) []
  unfold vecL
  simp at this ⊢
  omega
theorem take_next (l : List (Int × Int)) (i : Nat) (h : i < l.length) : (l.take (i + 1)).foldl vecF [] = withL ((l.take i).foldl vecF []) ((l.getD i (0, 0)).1 % 4194304) (1 + (l.getD i (0, 0)).2 % 65536) := by
  have e : l.take (i + 1) = l.take i ++ [l.getD i (0, 0)] := by rw [List.take_add_one]; simp [h]
  rw [e, List.foldl_append]
  rfl
end Go.Proofs.Ytcbnmahbdcjamaa
