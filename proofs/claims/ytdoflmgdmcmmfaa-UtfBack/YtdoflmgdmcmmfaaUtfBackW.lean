/- The walk of UtfBack: whatever the characters and the bytes: true. -/
import Derived.Test.YtdoflmgdmcmmfaaUtfS
namespace Go.Proofs.Ytdoflmgdmcmmfaa
open Go.RowKit
set_option linter.unusedVariables false

set_option maxHeartbeats 2000000 in
theorem utfBack_walk (a0 a1 : Option Addr) (len0 cap0 len1 cap1 n0 n1 : Nat) (xs ys : List Int) (w : World) (hc0 : len0 ≤ cap0) (hc1 : len1 ≤ cap1) (hm1 : cap1 ≤ 9223372036854775807)
    (hn0 : n0 = min len0 300) (hn1 : n1 = min len1 1000) (h0 : Rd .i32 w a0 n0 xs) (h1 : Rd .u8 w a1 n1 ys) (hy : ∀ y ∈ ys, 0 ≤ y ∧ y ≤ 255) :
    Calls Try.prog 4 #[.slice a0 len0 cap0, .slice a1 len1 cap1] w fun e w' => e = .returned (.bool true) ∧ Below w.heap.size w w' := by
  have hm0 := min_run len0 n0 300 (by omega)
  have hm1' := min_run len1 n1 1000 (by omega)
  have hs0 := cut_runes a0 len0 cap0 n0 (by omega)
  have hs1 := cut_bytes a1 len1 cap1 n1 (by omega)
  have hl0 : n0 ≤ 300 := by omega
  have hl1 : n1 ≤ 1000 := by omega
  have hl1c : n1 ≤ cap1 := by omega
  have H0 : Hid (Rd .i32 w a0 n0 xs) := h0
  have H1 : Hid (Rd .u8 w a1 n1 ys) := h1
  have HY : Hid (∀ y ∈ ys, 0 ≤ y ∧ y ≤ 255) := hy
  clear hn0 hn1 h0 h1 hy
  cases hd : dec ys with
  | none =>
    have HD : Hid (dec ys = none) := hd
    clear hd
    by_cases ho : oks xs = true
    · have HO : Hid (oks xs = true) := ho
      clear ho
      go_enter Try.func4, Try.ntmps4
      go_wp2_with (first | (go_at_call 9; refine (shown_any _).mono ?_; rintro e w1 ⟨rfl, hb1⟩))
      have HB1 : Hid (Below w.heap.size w w1) := hb1
      clear hb1
      refine (encode_ok xs _ _ _ _ (by omega) (H0.out.later HB1.out) HO.out).mono ?_
      rintro e w2 ⟨hb2, a2, cap2, rfl, hc2, hm2, hr2⟩
      have HB2 : Hid (Below w.heap.size w w2) := HB1.out.trans (hb2.mono HB1.out.size)
      have HR2 : Hid (Rd .u8 w2 a2 (encs xs).length (encs xs)) := hr2
      have HEL : Hid ((encs xs).length ≤ 1200) := by show (encs xs).length ≤ 1200; have := encs_len xs; have := H0.out.1; omega
      clear hb2 hr2
      go_wp2_with fail
      refine (decode_ok (encs xs) _ _ _ _ xs hc2 hm2 (by have := HEL.out; omega) (encs_rng xs HO.out) HR2.out (dec_encs xs HO.out)).mono ?_
      rw [H0.out.1]
      rintro e w3 ⟨hb3, a3, cap3, rfl, hc3, hm3, hr3⟩
      have HB3 : Hid (Below w.heap.size w w3) := HB2.out.trans (hb3.mono HB2.out.size)
      have HR3 : Hid (Rd .i32 w3 a3 n0 xs) := hr3
      clear hb3 hr3 hc2 hm2 hc3 hm3
      go_wp2_with fail
      refine (same_true _ _ n0 _ _ xs _ (by omega) HR3.out (H0.out.later HB3.out)).mono ?_
      rintro e w4 ⟨rfl, hb4⟩
      have HB4 : Hid (Below w.heap.size w w4) := HB3.out.trans (hb4.mono HB3.out.size)
      clear hb4
      go_wp2_with fail
      refine (decode_bad ys _ _ _ _ hl1c hm1 (by omega) HY.out (H1.out.later HB4.out) HD.out).mono ?_
      rintro e w5 ⟨hb5, rfl⟩
      have HB5 : Hid (Below w.heap.size w w5) := HB4.out.trans (hb5.mono HB4.out.size)
      clear hb5
      go_wp2
      go_ret
      exact ⟨rfl, HB5.out⟩
    · have HO : Hid (oks xs = false) := by show oks xs = false; simpa using ho
      clear ho
      go_enter Try.func4, Try.ntmps4
      go_wp2_with (first | (go_at_call 9; refine (shown_any _).mono ?_; rintro e w1 ⟨rfl, hb1⟩))
      have HB1 : Hid (Below w.heap.size w w1) := hb1
      clear hb1
      refine (encode_bad xs _ _ _ _ (by omega) (H0.out.later HB1.out) HO.out).mono ?_
      rintro e w4 ⟨hb4, rfl⟩
      have HB4 : Hid (Below w.heap.size w w4) := HB1.out.trans (hb4.mono HB1.out.size)
      clear hb4
      go_wp2_with fail
      refine (decode_bad ys _ _ _ _ hl1c hm1 (by omega) HY.out (H1.out.later HB4.out) HD.out).mono ?_
      rintro e w5 ⟨hb5, rfl⟩
      have HB5 : Hid (Below w.heap.size w w5) := HB4.out.trans (hb5.mono HB4.out.size)
      clear hb5
      go_wp2
      go_ret
      exact ⟨rfl, HB5.out⟩
  | some cs =>
    have HD : Hid (dec ys = some cs) := hd
    have HI : Hid (oks cs = true ∧ encs cs = ys) := dec_inv ys.length ys cs (Nat.le_refl _) HY.out hd
    have HCL : Hid (cs.length ≤ 1000) := by
      show cs.length ≤ 1000
      have h1 := H1.out.1
      have h2 := len_le_encs cs
      rw [HI.out.2] at h2
      omega
    clear hd
    by_cases ho : oks xs = true
    · have HO : Hid (oks xs = true) := ho
      clear ho
      go_enter Try.func4, Try.ntmps4
      go_wp2_with (first | (go_at_call 9; refine (shown_any _).mono ?_; rintro e w1 ⟨rfl, hb1⟩))
      have HB1 : Hid (Below w.heap.size w w1) := hb1
      clear hb1
      refine (encode_ok xs _ _ _ _ (by omega) (H0.out.later HB1.out) HO.out).mono ?_
      rintro e w2 ⟨hb2, a2, cap2, rfl, hc2, hm2, hr2⟩
      have HB2 : Hid (Below w.heap.size w w2) := HB1.out.trans (hb2.mono HB1.out.size)
      have HR2 : Hid (Rd .u8 w2 a2 (encs xs).length (encs xs)) := hr2
      have HEL : Hid ((encs xs).length ≤ 1200) := by show (encs xs).length ≤ 1200; have := encs_len xs; have := H0.out.1; omega
      clear hb2 hr2
      go_wp2_with fail
      refine (decode_ok (encs xs) _ _ _ _ xs hc2 hm2 (by have := HEL.out; omega) (encs_rng xs HO.out) HR2.out (dec_encs xs HO.out)).mono ?_
      rw [H0.out.1]
      rintro e w3 ⟨hb3, a3, cap3, rfl, hc3, hm3, hr3⟩
      have HB3 : Hid (Below w.heap.size w w3) := HB2.out.trans (hb3.mono HB2.out.size)
      have HR3 : Hid (Rd .i32 w3 a3 n0 xs) := hr3
      clear hb3 hr3 hc2 hm2 hc3 hm3
      go_wp2_with fail
      refine (same_true _ _ n0 _ _ xs _ (by omega) HR3.out (H0.out.later HB3.out)).mono ?_
      rintro e w4 ⟨rfl, hb4⟩
      have HB4 : Hid (Below w.heap.size w w4) := HB3.out.trans (hb4.mono HB3.out.size)
      clear hb4
      go_wp2_with fail
      refine (decode_ok ys _ _ _ _ cs hl1c hm1 (by omega) HY.out (H1.out.later HB4.out) HD.out).mono ?_
      rintro e w5 ⟨hb5, a5, cap5, rfl, hc5, hm5, hr5⟩
      have HB5 : Hid (Below w.heap.size w w5) := HB4.out.trans (hb5.mono HB4.out.size)
      have HR5 : Hid (Rd .i32 w5 a5 cs.length cs) := hr5
      clear hb5 hr5 hc5 hm5
      go_wp2_with fail
      refine (encode_ok cs _ _ _ _ (by have := HCL.out; omega) HR5.out HI.out.1).mono ?_
      rw [HI.out.2]
      rintro e w6 ⟨hb6, a6, cap6, rfl, hc6, hm6, hr6⟩
      have HB6 : Hid (Below w.heap.size w w6) := HB5.out.trans (hb6.mono HB5.out.size)
      have hcv6 := conv_str (cap := cap6) hr6
      have hcv1 := conv_str (cap := cap1) (H1.out.later HB6.out)
      clear hb6 hr6 hc6 hm6
      go_wp2
      go_ret
      exact ⟨ret_bool (by simp), HB6.out⟩
    · have HO : Hid (oks xs = false) := by show oks xs = false; simpa using ho
      clear ho
      go_enter Try.func4, Try.ntmps4
      go_wp2_with (first | (go_at_call 9; refine (shown_any _).mono ?_; rintro e w1 ⟨rfl, hb1⟩))
      have HB1 : Hid (Below w.heap.size w w1) := hb1
      clear hb1
      refine (encode_bad xs _ _ _ _ (by omega) (H0.out.later HB1.out) HO.out).mono ?_
      rintro e w4 ⟨hb4, rfl⟩
      have HB4 : Hid (Below w.heap.size w w4) := HB1.out.trans (hb4.mono HB1.out.size)
      clear hb4
      go_wp2_with fail
      refine (decode_ok ys _ _ _ _ cs hl1c hm1 (by omega) HY.out (H1.out.later HB4.out) HD.out).mono ?_
      rintro e w5 ⟨hb5, a5, cap5, rfl, hc5, hm5, hr5⟩
      have HB5 : Hid (Below w.heap.size w w5) := HB4.out.trans (hb5.mono HB4.out.size)
      have HR5 : Hid (Rd .i32 w5 a5 cs.length cs) := hr5
      clear hb5 hr5 hc5 hm5
      go_wp2_with fail
      refine (encode_ok cs _ _ _ _ (by have := HCL.out; omega) HR5.out HI.out.1).mono ?_
      rw [HI.out.2]
      rintro e w6 ⟨hb6, a6, cap6, rfl, hc6, hm6, hr6⟩
      have HB6 : Hid (Below w.heap.size w w6) := HB5.out.trans (hb6.mono HB5.out.size)
      have hcv6 := conv_str (cap := cap6) hr6
      have hcv1 := conv_str (cap := cap1) (H1.out.later HB6.out)
      clear hb6 hr6 hc6 hm6
      go_wp2
      go_ret
      exact ⟨ret_bool (by simp), HB6.out⟩
end Go.Proofs.Ytdoflmgdmcmmfaa
