/- Walks of the reference: Put, PutText. -/
import Derived.Test.YtefikaldfbidkaaPackE
namespace Go.Proofs.Ytefikaldfbidkaa
open Go.RowKit
set_option linter.unusedVariables false

theorem rput_low (f : Nat) (v : Int) (xs : List Int) (w : World) (h0 : 0 ≤ v) (h1 : v ≤ 127) (hx : xs.length ≤ 10000000000) :
    Calls Try.prog 12 #[.string (strOfNums xs), .int .u64 v] w fun e w' => e = .returned (.string (strOfNums (xs ++ pkF f v))) ∧ Below w.heap.size w w' := by
  rw [pkF_low f v h1]
  have hcv := conv_str (w := w.alloc (.cells #[.int .u8 v] 5)) (cap := 1) (rd_one .u8 w v 5 _ rfl)
  have hadd := add_str xs [v] (by simp; omega)
  go_enter Try.func12, Try.ntmps12
  go_wp2
  go_ret
  exact ⟨rfl, (Below.refl _ _).alloc (Nat.le_refl _) _⟩

theorem rput_rec : (f : Nat) → (v : Int) → (xs : List Int) → (w : World) → 0 ≤ v → v < 128 ^ (f + 1) → v ≤ 18446744073709551615 → xs.length + f ≤ 10000000000 →
    Calls Try.prog 12 #[.string (strOfNums xs), .int .u64 v] w fun e w' => e = .returned (.string (strOfNums (xs ++ pkF f v))) ∧ Below w.heap.size w w'
  | 0, v, xs, w, h0, h1, _, hx => rput_low 0 v xs w h0 (by simp at h1; omega) (by omega)
  | f + 1, v, xs, w, h0, h1, h2, hx => by
    by_cases hv : v ≤ 127
    · exact rput_low (f + 1) v xs w h0 hv (by omega)
    · have IH : Hid (∀ W : World, Calls Try.prog 12 #[.string (strOfNums (xs ++ [v % 128 + 128])), .int .u64 (v / 128)] W fun e w' => e = .returned (.string (strOfNums ((xs ++ [v % 128 + 128]) ++ pkF f (v / 128)))) ∧ Below W.heap.size W w') :=
        fun W => rput_rec f (v / 128) (xs ++ [v % 128 + 128]) W (by omega) (by rw [pow_s] at h1; omega) (by omega) (by simp; omega)
      have HE : Hid (xs ++ pkF (f + 1) v = (xs ++ [v % 128 + 128]) ++ pkF f (v / 128)) := by
        show _ = _
        rw [pkF_high f v (by omega), show 128 + v % 128 = v % 128 + 128 by omega]; simp
      rw [HE.out]
      have hcv := conv_str (w := w.alloc (.cells #[.int .u8 (v % 128 + 128)] 5)) (cap := 1) (rd_one .u8 w (v % 128 + 128) 5 _ rfl)
      have hadd := add_str xs [v % 128 + 128] (by simp; omega)
      obtain ⟨T, hT⟩ : ∃ T, T = (xs ++ [v % 128 + 128]) ++ pkF f (v / 128) := ⟨_, rfl⟩
      rw [← hT]
      have HT : Hid (T = (xs ++ [v % 128 + 128]) ++ pkF f (v / 128)) := hT
      have hv' : 128 ≤ v := by omega
      clear HE hT h1
      go_enter Try.func12, Try.ntmps12
      go_wp2_with fail
      refine (IH.out _).mono ?_
      rw [← HT.out]
      rintro e w1 ⟨rfl, hb1⟩
      have HB1 : Hid (Below w.heap.size w w1) := ((Below.refl _ w).alloc (Nat.le_refl _) _).trans (hb1.mono (by simp))
      clear hb1
      go_wp2
      go_ret
      exact ⟨rfl, HB1.out⟩

theorem rput_any (v : Int) (xs : List Int) (w : World) (h0 : 0 ≤ v) (h1 : v ≤ 18446744073709551615) (hx : xs.length ≤ 1000000000) :
    Calls Try.prog 12 #[.string (strOfNums xs), .int .u64 v] w fun e w' => e = .returned (.string (strOfNums (xs ++ pk v))) ∧ Below w.heap.size w w' :=
  rput_rec 9 v xs w h0 (by simp; omega) h1 (by omega)

theorem rputtext_any (xs ts : List Int) (w : World) (hx : xs.length ≤ 1000000000) (ht : ts.length ≤ 1000000000) :
    Calls Try.prog 13 #[.string (strOfNums xs), .string (strOfNums ts)] w fun e w' => e = .returned (.string (strOfNums (xs ++ pt ts))) ∧ Below w.heap.size w w' := by
  have hsz := strOfNums_size ts
  have hadd := add_str (xs ++ pk (ts.length : Nat)) ts (by have := pk_len (ts.length : Nat); simp; omega)
  go_enter Try.func13, Try.ntmps13
  go_wp2_with fail
  refine (rput_any (ts.length : Nat) xs _ (by omega) (by omega) hx).mono ?_
  rintro e w1 ⟨rfl, hb1⟩
  have HB1 : Hid (Below w.heap.size w w1) := hb1
  clear hb1
  go_wp2
  go_ret
  exact ⟨rfl, HB1.out⟩
end Go.Proofs.Ytefikaldfbidkaa
