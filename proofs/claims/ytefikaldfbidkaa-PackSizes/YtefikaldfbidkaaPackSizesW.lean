/- The walk of PackSizes: whatever the number and the text: true. -/
import Derived.Test.YtefikaldfbidkaaPackE
namespace Go.Proofs.Ytefikaldfbidkaa
open Go.RowKit
set_option linter.unusedVariables false

theorem shr_some (v : Int) (k : Nat) (h0 : 0 ≤ v) (h1 : 1 ≤ k) (h9 : k ≤ 9) : v / 2 ^ (7 * k) ≠ 0 ↔ k < (pk v).length := by
  rw [pk_many v k h1 h9, Int.pow_mul]
  have hp := pow_pos k
  show v / 128 ^ k ≠ 0 ↔ _
  constructor
  · intro h
    rcases Int.lt_or_le v (128 ^ k) with g | g
    · exact absurd (Int.ediv_eq_zero_of_lt h0 g) h
    · exact g
  · intro h g
    have := Int.le_ediv_of_mul_le (show (0 : Int) < 128 ^ k by omega) (show 1 * 128 ^ k ≤ v by omega)
    omega

set_option maxHeartbeats 1000000 in
theorem packSizes_walk (v : Int) (s : ByteArray) (w : World) (h0 : 0 ≤ v) (h1 : v ≤ 18446744073709551615) (hs : s.size ≤ 9223372036854775807) :
    Calls Try.prog 8 #[.int .u64 v, .string s] w fun e w' => e = .returned (.bool true) ∧ Below w.heap.size w w' := by
  obtain ⟨n0, hn0⟩ : ∃ n0, n0 = min s.size 500 := ⟨_, rfl⟩
  have hmin := min_run s.size n0 500 (by omega)
  have hcut := str_cut s s.size n0 500 rfl (by omega) (by omega)
  obtain ⟨ts, hts⟩ : ∃ ts, ts = (nums s).take n0 := ⟨_, rfl⟩
  have hrt : ∀ y ∈ ts, 0 ≤ y ∧ y ≤ 255 := by rw [hts]; exact fun y hy => nums_rng s y (List.mem_of_mem_take hy)
  have hlt : ts.length ≤ 500 := by rw [hts]; simp; omega
  rw [← hts] at hcut
  have HRT : Hid (∀ y ∈ ts, 0 ≤ y ∧ y ≤ 255) := hrt
  have hsz := strOfNums_size ts
  have hl := pk_len v
  have hl' := pk_len (ts.length : Nat)
  have HPL : Hid ((pt ts).length = (pk (ts.length : Nat)).length + ts.length) := pt_len ts
  clear hn0 hts hrt
  go_enter Try.func8, Try.ntmps8
  go_wp2_with (first | (go_at_call 9; refine (shown_any _).mono ?_; rintro e w1 ⟨rfl, hb1⟩; have HB1 : Hid (Below w.heap.size w w1) := hb1; clear hb1))
  go_loop [6] (fun x6 => ∃ k : Nat, 1 ≤ k ∧ k ≤ (pk v).length ∧ x6 = .int .i64 k) (fun x6 => 10 - (intOf x6).toNat)
  case atStart => exact ⟨1, by omega, by omega, rfl⟩
  case round =>
    obtain ⟨k, hk1, hk2, hx6⟩ := hrel
    subst hx6
    by_cases hk : k < (pk v).length
    · have hk9 : k ≤ 9 := by omega
      have hne := (shr_some v k h0 hk1 hk9).2 hk
      obtain ⟨q, hq⟩ : ∃ q, v / 2 ^ (7 * k) = q := ⟨_, rfl⟩
      rw [hq] at hne
      go_wp2
      go_round
      case rel => exact ⟨k + 1, by omega, by omega, by go_num⟩
      case measure => simp [intOf]; omega
    · have hke : k = (pk v).length := by omega
      have HKE : Hid (k = (pk v).length) := hke
      have fin : ∀ W0 : World, True := fun _ => trivial
      by_cases hk10 : k ≤ 9
      · have hq : v / 2 ^ (7 * k) = 0 := by
          by_cases h : v / 2 ^ (7 * k) = 0
          · exact h
          · exact absurd ((shr_some v k h0 hk1 hk10).1 h) hk
        clear hke hk
        go_wp2_with fail
        refine (size_any v _ h0 h1).mono ?_
        rw [← HKE.out]
        rintro e w' ⟨rfl, hw'⟩
        obtain rfl : w1 = w' := hw'.symm
        go_wp2_with fail
        refine (put_any none 0 0 [] v _ h0 h1 (rd_nil _ _) (fun _ => rfl) (by omega)).mono ?_
        rw [← HKE.out]
        rintro e w2 ⟨hb2, a2, cap2, rfl, hc2, hm2, hr2, _⟩
        have HB2 : Hid (Below w.heap.size w w2) := HB1.out.trans (hb2.mono HB1.out.size)
        clear hb2 hr2 hc2 hm2
        go_wp2_with fail
        refine (puttext_any none 0 0 [] ts _ (by omega) HRT.out (rd_nil _ _) (fun _ => rfl) (by omega)).mono ?_
        rw [HPL.out]
        rintro e w3 ⟨hb3, a3, cap3, rfl, hc3, hm3, hr3, _⟩
        have HB3 : Hid (Below w.heap.size w w3) := HB2.out.trans (hb3.mono HB2.out.size)
        clear hb3 hr3 hc3 hm3
        go_wp2_with fail
        refine (size_any (ts.length : Nat) _ (by omega) (by omega)).mono ?_
        rintro e w' ⟨rfl, hw'⟩
        obtain rfl : w3 = w' := hw'.symm
        go_wp2
        go_ret
        exact ⟨ret_bool (by simp; omega), HB3.out⟩
      · clear hke hk
        go_wp2_with fail
        refine (size_any v _ h0 h1).mono ?_
        rw [← HKE.out]
        rintro e w' ⟨rfl, hw'⟩
        obtain rfl : w1 = w' := hw'.symm
        go_wp2_with fail
        refine (put_any none 0 0 [] v _ h0 h1 (rd_nil _ _) (fun _ => rfl) (by omega)).mono ?_
        rw [← HKE.out]
        rintro e w2 ⟨hb2, a2, cap2, rfl, hc2, hm2, hr2, _⟩
        have HB2 : Hid (Below w.heap.size w w2) := HB1.out.trans (hb2.mono HB1.out.size)
        clear hb2 hr2 hc2 hm2
        go_wp2_with fail
        refine (puttext_any none 0 0 [] ts _ (by omega) HRT.out (rd_nil _ _) (fun _ => rfl) (by omega)).mono ?_
        rw [HPL.out]
        rintro e w3 ⟨hb3, a3, cap3, rfl, hc3, hm3, hr3, _⟩
        have HB3 : Hid (Below w.heap.size w w3) := HB2.out.trans (hb3.mono HB2.out.size)
        clear hb3 hr3 hc3 hm3
        go_wp2_with fail
        refine (size_any (ts.length : Nat) _ (by omega) (by omega)).mono ?_
        rintro e w' ⟨rfl, hw'⟩
        obtain rfl : w3 = w' := hw'.symm
        go_wp2
        go_ret
        exact ⟨ret_bool (by simp; omega), HB3.out⟩
end Go.Proofs.Ytefikaldfbidkaa
