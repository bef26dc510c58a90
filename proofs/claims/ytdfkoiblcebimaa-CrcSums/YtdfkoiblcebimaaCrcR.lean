/- The document's reference: take, Sum and Update over a text. -/
import Derived.Test.YtdfkoiblcebimaaCrcB
namespace Go.Proofs.Ytdfkoiblcebimaa
open Go.RowKit
set_option linter.unusedVariables false

set_option maxHeartbeats 2000000 in
theorem take_any (r c : Nat) (w : World) (hr : r < 4294967296) (hc : c < 256) : Calls Try.prog 15 #[.int .u32 r, .int .u8 c] w fun e w' => e = .returned (.int .u32 (tk r c)) ∧ w' = w := by
  have hx := u32_xor_nat r c hr (by omega)
  obtain ⟨x, hxd⟩ : ∃ x, x = r ^^^ c := ⟨_, rfl⟩
  have hxl : x < 4294967296 := by rw [hxd]; exact Nat.xor_lt_two_pow (n := 32) hr (by omega)
  have HT : Hid (tk r c = bits1 8 x) := by rw [hxd]; rfl
  rw [← hxd] at hx
  clear hxd
  have hcw : IntKind.u32.wrap (c : Int) = c := by rw [IntKind.wrap_u32']; omega
  go_enter Try.func15, Try.ntmps15
  go_wp2
  go_loop [0, 5] (fun x0 x5 => ∃ j : Nat, j ≤ 8 ∧ x0 = .int .u32 (bits1 j x : Nat) ∧ x5 = .int .i64 j) (fun _ x5 => 8 - (intOf x5).toNat)
  case atStart => exact ⟨0, by omega, rfl, rfl⟩
  case round =>
    obtain ⟨j, hj, hx0, hx5⟩ := hrel
    have HN := bits1_last j x
    have HL := bits1_lt j x hxl
    obtain ⟨p, hp⟩ : ∃ p, p = bits1 j x := ⟨_, rfl⟩
    rw [← hp] at HN HL hx0
    have HP : Hid (p = bits1 j x) := hp
    clear hp
    subst hx0 hx5
    by_cases hj8 : j < 8
    · obtain ⟨q, hq⟩ : ∃ q : Nat, (p : Int) / 2 = (q : Int) := ⟨p / 2, by simp⟩
      have hx := xor_turn q (by omega)
      by_cases ho : (p : Int) % 2 = 1
      · rw [show bit1 p = q ^^^ 3988292384 by unfold bit1; rw [if_pos (by omega), show p / 2 = q by omega]] at HN
        obtain ⟨z, hz⟩ : ∃ z : Nat, z = q ^^^ 3988292384 := ⟨_, rfl⟩
        rw [← hz] at hx HN
        have HN' : Hid (bits1 (j + 1) x = z) := HN
        clear hz HN
        go_wp2
        go_round
        case rel => exact ⟨j + 1, by omega, by rw [HN'.out], by go_num⟩
        case measure => simp [intOf]; omega
      · rw [show bit1 p = q by unfold bit1; rw [if_neg (by omega), show p / 2 = q by omega]] at HN
        have HN' : Hid (bits1 (j + 1) x = q) := HN
        clear hx HN
        go_wp2
        go_round
        case rel => exact ⟨j + 1, by omega, by rw [HN'.out], by go_num⟩
        case measure => simp [intOf]; omega
    · obtain rfl : j = 8 := by omega
      clear HN
      go_wp2
      go_ret
      exact ⟨by rw [HT.out, ← HP.out]; rfl, rfl⟩
set_option maxHeartbeats 2000000 in
theorem refSum_any (xs : List Int) (w : World) (hb : ∀ y ∈ xs, 0 ≤ y ∧ y ≤ 255) (hn : xs.length ≤ 9223372036854775807) :
    Calls Try.prog 12 #[.string (strOfNums xs)] w fun e w' => e = .returned (.int .u32 (up 0 xs)) ∧ w' = w := by
  have HY : Hid (∀ y ∈ xs, 0 ≤ y ∧ y ≤ 255) := hb
  have hsl := str_len xs
  obtain ⟨n, hnd⟩ : ∃ n, n = xs.length := ⟨_, rfl⟩
  rw [← hnd] at hn hsl
  have HL : Hid (xs.length = n) := hnd.symm
  clear hb hnd
  go_enter Try.func12, Try.ntmps12
  go_wp2
  go_loop [3, 4] (fun x3 x4 => ∃ k : Nat, k ≤ n ∧ x4 = .int .i64 k ∧ x3 = .int .u32 (reg 4294967295 ((xs.take k).map Int.toNat) : Nat)) (fun _ x4 => n - (intOf x4).toNat)
  case atStart => exact ⟨0, by omega, rfl, rfl⟩
  case round =>
    obtain ⟨k, hk, hx4, hx3⟩ := hrel
    have HRL := reg_lt ((xs.take k).map Int.toNat) 4294967295 (by decide) (nat_bytes fun y hy => HY.out y (List.mem_of_mem_take hy))
    obtain ⟨r, hrd⟩ : ∃ r, r = reg 4294967295 ((xs.take k).map Int.toNat) := ⟨_, rfl⟩
    rw [← hrd] at HRL hx3
    have HRD : Hid (r = reg 4294967295 ((xs.take k).map Int.toNat)) := hrd
    clear hrd
    subst hx4 hx3
    by_cases hlt : k < n
    · have hat := str_at xs k (by have := HL.out; omega) HY.out
      have hxr := HY.out (xs.getD k 0) (by have := HL.out; simp [show k < xs.length by omega])
      have HN := reg_snoc 4294967295 xs k (by have := HL.out; omega)
      rw [← HRD.out] at HN
      obtain ⟨x, hx⟩ : ∃ x : Nat, (x : Int) = xs.getD k 0 := ⟨(xs.getD k 0).toNat, by omega⟩
      rw [← hx] at hxr HN hat
      rw [Int.toNat_natCast] at HN
      have HN' : Hid (reg 4294967295 ((xs.take (k + 1)).map Int.toNat) = tk r x) := HN
      clear hx HN
      go_wp2_with fail
      refine (take_any r x _ HRL (by omega)).mono ?_
      rintro e w' ⟨rfl, hw'⟩
      obtain rfl : w = w' := hw'.symm
      go_wp2
      go_round
      case rel => exact ⟨k + 1, by omega, by go_num, by rw [HN'.out]⟩
      case measure => simp [intOf]; omega
    · obtain rfl : k = n := by omega
      obtain ⟨z, hz⟩ : ∃ z : Nat, (4294967295 : Int) - (r : Int) = (z : Int) := ⟨4294967295 - r, by omega⟩
      have HU2 : Hid (up 0 xs = z) := by
        show 4294967295 - reg (4294967295 - 0) (xs.map Int.toNat) = _
        have e := HRD.out
        rw [show xs.take k = xs from List.take_of_length_le (by have := HL.out; omega)] at e
        show 4294967295 - reg 4294967295 (xs.map Int.toNat) = _
        rw [← e]
        omega
      go_wp2
      go_ret
      exact ⟨by rw [HU2.out]; rfl, rfl⟩
set_option maxHeartbeats 2000000 in
theorem refUpdate_any (s : Nat) (xs : List Int) (w : World) (hs : s < 4294967296) (hb : ∀ y ∈ xs, 0 ≤ y ∧ y ≤ 255) (hn : xs.length ≤ 9223372036854775807) :
    Calls Try.prog 13 #[.int .u32 s, .string (strOfNums xs)] w fun e w' => e = .returned (.int .u32 (up s xs)) ∧ w' = w := by
  have HY : Hid (∀ y ∈ xs, 0 ≤ y ∧ y ≤ 255) := hb
  have hsl := str_len xs
  obtain ⟨n, hnd⟩ : ∃ n, n = xs.length := ⟨_, rfl⟩
  rw [← hnd] at hn hsl
  have HL : Hid (xs.length = n) := hnd.symm
  clear hb hnd
  obtain ⟨r0, hr0⟩ : ∃ r0 : Nat, (4294967295 : Int) - (s : Int) = (r0 : Int) := ⟨4294967295 - s, by omega⟩
  have hr0l : r0 < 4294967296 := by omega
  have HR0 : Hid (4294967295 - s = r0) := by show 4294967295 - s = r0; omega
  go_enter Try.func13, Try.ntmps13
  go_wp2
  go_loop [5, 6] (fun x4 x5 => ∃ k : Nat, k ≤ n ∧ x5 = .int .i64 k ∧ x4 = .int .u32 (reg r0 ((xs.take k).map Int.toNat) : Nat)) (fun _ x5 => n - (intOf x5).toNat)
  case atStart => exact ⟨0, by omega, rfl, rfl⟩
  case round =>
    obtain ⟨k, hk, hx5, hx4⟩ := hrel
    have HRL := reg_lt ((xs.take k).map Int.toNat) r0 hr0l (nat_bytes fun y hy => HY.out y (List.mem_of_mem_take hy))
    obtain ⟨r, hrd⟩ : ∃ r, r = reg r0 ((xs.take k).map Int.toNat) := ⟨_, rfl⟩
    rw [← hrd] at HRL hx4
    have HRD : Hid (r = reg r0 ((xs.take k).map Int.toNat)) := hrd
    clear hrd
    subst hx5 hx4
    by_cases hlt : k < n
    · have hat := str_at xs k (by have := HL.out; omega) HY.out
      have hxr := HY.out (xs.getD k 0) (by have := HL.out; simp [show k < xs.length by omega])
      have HN := reg_snoc r0 xs k (by have := HL.out; omega)
      rw [← HRD.out] at HN
      obtain ⟨x, hx⟩ : ∃ x : Nat, (x : Int) = xs.getD k 0 := ⟨(xs.getD k 0).toNat, by omega⟩
      rw [← hx] at hxr HN hat
      rw [Int.toNat_natCast] at HN
      have HN' : Hid (reg r0 ((xs.take (k + 1)).map Int.toNat) = tk r x) := HN
      clear hx HN
      go_wp2_with fail
      refine (take_any r x _ HRL (by omega)).mono ?_
      rintro e w' ⟨rfl, hw'⟩
      obtain rfl : w = w' := hw'.symm
      go_wp2
      go_round
      case rel => exact ⟨k + 1, by omega, by go_num, by rw [HN'.out]⟩
      case measure => simp [intOf]; omega
    · obtain rfl : k = n := by omega
      obtain ⟨z, hz⟩ : ∃ z : Nat, (4294967295 : Int) - (r : Int) = (z : Int) := ⟨4294967295 - r, by omega⟩
      have HU2 : Hid (up s xs = z) := by
        show 4294967295 - reg (4294967295 - s) (xs.map Int.toNat) = _
        have e := HRD.out
        rw [show xs.take k = xs from List.take_of_length_le (by have := HL.out; omega)] at e
        rw [HR0.out, ← e]
        omega
      go_wp2
      go_ret
      exact ⟨by rw [HU2.out]; rfl, rfl⟩
end Go.Proofs.Ytdfkoiblcebimaa
