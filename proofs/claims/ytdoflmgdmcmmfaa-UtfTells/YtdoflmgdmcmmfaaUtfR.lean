/- Small facts for the walks of UtfOne and UtfParts. -/
import Derived.Test.YtdoflmgdmcmmfaaUtfS
import Derived.Test.YtdoflmgdmcmmfaaUtfQ
namespace Go.Proofs.Ytdoflmgdmcmmfaa
open Go.RowKit
set_option linter.unusedVariables false

theorem and_low (n m : Int) (j : Nat) (hj : j ≤ 20) (hm : (BitVec.ofInt 64 m).toNat = 2 ^ j - 1) : bits .and .i64 n m = n % 2 ^ j := by
  have key : (BitVec.ofInt 64 n &&& BitVec.ofInt 64 m).toNat = (n % ((2 ^ 64 : Nat) : Int)).toNat % 2 ^ j := by
    rw [BitVec.toNat_and, BitVec.toNat_ofInt, hm, Nat.and_two_pow_sub_one_eq_mod]
  show IntKind.i64.wrap ((BitVec.ofInt 64 n &&& BitVec.ofInt 64 m).toNat : Nat) = n % 2 ^ j
  rw [key, IntKind.wrap_i64]
  have hd : ((2 ^ j : Nat) : Int) ∣ ((2 ^ 64 : Nat) : Int) := by
    have : (2 ^ j : Nat) ∣ (2 ^ 64 : Nat) := Nat.pow_dvd_pow 2 (by omega)
    exact_mod_cast this
  have h0 : 0 ≤ n % ((2 ^ 64 : Nat) : Int) := Int.emod_nonneg _ (by decide)
  have h1 : (((n % ((2 ^ 64 : Nat) : Int)).toNat % 2 ^ j : Nat) : Int) = n % 2 ^ j := by
    rw [Int.natCast_emod, Int.toNat_of_nonneg h0, Int.emod_emod_of_dvd n hd]; simp
  have h2 : ((n % ((2 ^ 64 : Nat) : Int)).toNat % 2 ^ j : Nat) < 2 ^ j := Nat.mod_lt _ (Nat.two_pow_pos j)
  have h3 : (2 : Nat) ^ j ≤ 2 ^ 20 := Nat.pow_le_pow_right (by decide) hj
  rw [h1]
  rw [← h1]
  generalize ((n % ((2 ^ 64 : Nat) : Int)).toNat % 2 ^ j : Nat) = q at *
  omega
theorem and_255 (n : Int) : bits .and .i64 n 255 = n % 256 := and_low n 255 8 (by decide) (by decide)
theorem and_1023 (n : Int) : bits .and .i64 n 1023 = n % 1024 := and_low n 1023 10 (by decide) (by decide)

theorem Rd.take {k : IntKind} {w : World} {a : Option Addr} {len : Nat} {xs : List Int} (h : Rd k w a len xs) (n : Nat) (hn : n ≤ len) : Rd k w a n (xs.take n) := by
  refine ⟨by have := h.1; simp; omega, fun hp => ?_⟩
  obtain ⟨b, off, ha, hc⟩ := h.2 (by omega)
  refine ⟨b, off, ha, fun i hi => ?_⟩
  rw [hc i (by omega)]
  simp [hi]
theorem rd_one (k : IntKind) (w : World) (x : Int) (t : TypeId) (H : Nat) (hH : w.heap.size = H) : Rd k (w.alloc (.cells #[.int k x] t)) (some ⟨H, 0, none⟩) 1 [x] := by
  subst hH
  refine ⟨rfl, fun _ => ⟨w.heap.size, 0, rfl, fun i hi => ?_⟩⟩
  rw [cell_of_row _ w.heap.size (0 + i) _ _ _ (heap_alloc_new w _)]
  obtain rfl : i = 0 := by omega
  rfl
theorem below_own {w w1 : World} {o : Obj} {v : Value} {n : Nat} {xs : List Value} {e : TypeId} (hown : (w.alloc o).ownsRow w.heap.size e 1 v n xs) (h : (w.alloc o).grownBy w1 v.ownBlock) : Below w.heap.size w w1 :=
  ((Below.refl _ w).alloc (Nat.le_refl _) o).grown h (by simp) (fun k hk => (hown.lt k hk).1)
end Go.Proofs.Ytdoflmgdmcmmfaa
