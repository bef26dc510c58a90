/- The walk of UtfOrder: whatever the two rows of characters: true. -/
import Derived.Test.YtdoflmgdmcmmfaaUtfH
namespace Go.Proofs.Ytdoflmgdmcmmfaa
open Go.RowKit
set_option linter.unusedVariables false

set_option maxHeartbeats 1000000 in
theorem utfOrder_walk (a0 a1 : Option Addr) (len0 cap0 len1 cap1 n0 n1 : Nat) (xs ys : List Int) (w : World) (hc0 : len0 ≤ cap0) (hc1 : len1 ≤ cap1)
    (hn0 : n0 = min len0 50) (hn1 : n1 = min len1 50) (h0 : Rd .i32 w a0 n0 xs) (h1 : Rd .i32 w a1 n1 ys) :
    Calls Try.prog 7 #[.slice a0 len0 cap0, .slice a1 len1 cap1] w fun e w' => e = .returned (.bool true) ∧ Below w.heap.size w w' := by
  have hm0 := min_run len0 n0 50 (by omega)
  have hm1 := min_run len1 n1 50 (by omega)
  have hs0 := cut_runes a0 len0 cap0 n0 (by omega)
  have hs1 := cut_runes a1 len1 cap1 n1 (by omega)
  have hl0 : n0 ≤ 50 := by omega
  have hl1 : n1 ≤ 50 := by omega
  have H0 : Hid (Rd .i32 w a0 n0 xs) := h0
  have H1 : Hid (Rd .i32 w a1 n1 ys) := h1
  clear hn0 hn1 h0 h1
  by_cases ho0 : oks xs = true
  · by_cases ho1 : oks ys = true
    · have HO0 : Hid (oks xs = true) := ho0
      have HO1 : Hid (oks ys = true) := ho1
      clear ho0 ho1
      go_enter Try.func7, Try.ntmps7
      go_wp2_with (first | (go_at_call 9; refine (shown_any _).mono ?_; rintro e w1 ⟨rfl, hb1⟩))
      have HB1 : Hid (Below w.heap.size w w1) := hb1
      clear hb1
      refine (encode_ok xs _ _ _ _ (by omega) (H0.out.later HB1.out) HO0.out).mono ?_
      rintro e w2 ⟨hb2, a2, cap2, rfl, hc2, hm2, hr2⟩
      have HB2 : Hid (Below w.heap.size w w2) := HB1.out.trans (hb2.mono HB1.out.size)
      have HR2 : Hid (Rd .u8 w2 a2 (encs xs).length (encs xs)) := hr2
      clear hb2 hr2 hc2 hm2
      go_wp2_with fail
      refine (encode_ok ys _ _ _ _ (by omega) (H1.out.later HB2.out) HO1.out).mono ?_
      rintro e w3 ⟨hb3, a3, cap3, rfl, hc3, hm3, hr3⟩
      have HB3 : Hid (Below w.heap.size w w3) := HB2.out.trans (hb3.mono HB2.out.size)
      have HR3 : Hid (Rd .u8 w3 a3 (encs ys).length (encs ys)) := hr3
      have HR2' : Hid (Rd .u8 w3 a2 (encs xs).length (encs xs)) := HR2.out.later hb3
      clear hb3 hr3 hc3 hm3 HR2
      go_wp2
      go_loopw [10, 11] (fun v10 i wr => ∃ k : Nat, k ≤ n0 ∧ k ≤ n1 ∧ i = .int .i64 k ∧ v10 = .bool (decide (n0 < n1)) ∧ lexI xs ys = lexI (xs.drop k) (ys.drop k) ∧ Below w3.heap.size w3 wr) (fun _ i _ => n0 - (intOf i).toNat)
      case atStart => exact ⟨0, by omega, by omega, rfl, rfl, rfl, Below.refl _ _⟩
      case round =>
        obtain ⟨k, hk0, hk1, rfl, rfl, hlx, hbr⟩ := hrel
        have HLX : Hid (lexI xs ys = lexI (xs.drop k) (ys.drop k)) := hlx
        have HBR : Hid (Below w3.heap.size w3 wr) := hbr
        clear hlx hbr
        have HBW : Hid (Below w.heap.size w wr) := HB3.out.trans (HBR.out.mono HB3.out.size)
        by_cases hlt : k < n0 ∧ k < n1
        · obtain ⟨hlt0, hlt1⟩ := hlt
          obtain ⟨b0, o0, rfl, hcl0⟩ := (H0.out.later HBW.out).2 (by omega)
          obtain ⟨b1, o1, rfl, hcl1⟩ := (H1.out.later HBW.out).2 (by omega)
          have hp := hcl0 k hlt0
          have hq := hcl1 k hlt1
          obtain ⟨p, hpd⟩ : ∃ p, p = xs.getD k 0 := ⟨_, rfl⟩
          obtain ⟨q, hqd⟩ : ∃ q, q = ys.getD k 0 := ⟨_, rfl⟩
          rw [← hpd] at hp
          rw [← hqd] at hq
          have HP : Hid (p = xs.getD k 0) := hpd
          have HQ : Hid (q = ys.getD k 0) := hqd
          clear hcl0 hcl1 hpd hqd
          by_cases hpq : p = q
          · subst hpq
            have HX := lexI_drop xs ys k (by have := H0.out.1; omega) (by have := H1.out.1; omega) (by rw [← HP.out, ← HQ.out])
            have HX' : Hid (lexI (xs.drop k) (ys.drop k) = lexI (xs.drop (k + 1)) (ys.drop (k + 1))) := HX
            clear HX
            go_wp2
            go_region
            all_goals go_wp2
            all_goals go_roundw
            case rel => exact ⟨k + 1, by omega, by omega, by go_num, rfl, HLX.out.trans HX'.out, HBR.out.drew⟩
            case measure => simp [intOf]; omega
          · have hpq' : (p != q) = true := by simpa using hpq
            have HX := lexI_diff xs ys k (by have := H0.out.1; omega) (by have := H1.out.1; omega) (by rw [← HP.out, ← HQ.out]; exact hpq)
            rw [← HP.out, ← HQ.out] at HX
            have HX' : Hid (lexI (xs.drop k) (ys.drop k) = decide (p < q)) := HX
            have hcv2 := conv_str (cap := cap2) (HR2'.out.later HBR.out.drew.drew)
            have hcv3 := conv_str (cap := cap3) (HR3.out.later HBR.out.drew.drew)
            have HS : Hid (Op.bytesLess (strOfNums (encs xs)).toList (strOfNums (encs ys)).toList = lexI xs ys) := by
              show _ = _; rw [str_less _ _ (encs_rng xs HO0.out) (encs_rng ys HO1.out), lexI_encs xs ys HO0.out HO1.out]
            clear HX hpq
            go_wp2
            go_region
            all_goals go_wp2
            all_goals go_region
            all_goals go_wp2
            all_goals go_ret
            all_goals exact ⟨ret_bool (by rw [HS.out, HLX.out, HX'.out]; simp), HB3.out.trans (HBR.out.drew.drew.mono HB3.out.size)⟩
        · have HX := lexI_end xs ys k (by have := H0.out.1; omega) (by have := H1.out.1; omega) (by have := H0.out.1; have := H1.out.1; omega)
          rw [H0.out.1, H1.out.1] at HX
          have HX' : Hid (lexI (xs.drop k) (ys.drop k) = decide (n0 < n1)) := HX
          have hcv2 := conv_str (cap := cap2) (HR2'.out.later HBR.out)
          have hcv3 := conv_str (cap := cap3) (HR3.out.later HBR.out)
          have HS : Hid (Op.bytesLess (strOfNums (encs xs)).toList (strOfNums (encs ys)).toList = lexI xs ys) := by
            show _ = _; rw [str_less _ _ (encs_rng xs HO0.out) (encs_rng ys HO1.out), lexI_encs xs ys HO0.out HO1.out]
          clear HX
          by_cases hk0' : k < n0
          · have hk1' : ¬ k < n1 := by omega
            clear hlt
            go_wp2
            go_ret
            exact ⟨ret_bool (by rw [HS.out, HLX.out, HX'.out]; simp), HBW.out⟩
          · clear hlt
            go_wp2
            go_ret
            exact ⟨ret_bool (by rw [HS.out, HLX.out, HX'.out]; simp), HBW.out⟩
    · have HO0 : Hid (oks xs = true) := ho0
      have HO1 : Hid (oks ys = false) := by show oks ys = false; simpa using ho1
      clear ho0 ho1
      go_enter Try.func7, Try.ntmps7
      go_wp2_with (first | (go_at_call 9; refine (shown_any _).mono ?_; rintro e w1 ⟨rfl, hb1⟩))
      have HB1 : Hid (Below w.heap.size w w1) := hb1
      clear hb1
      refine (encode_ok xs _ _ _ _ (by omega) (H0.out.later HB1.out) HO0.out).mono ?_
      rintro e w2 ⟨hb2, a2, cap2, rfl, hc2, hm2, hr2⟩
      have HB2 : Hid (Below w.heap.size w w2) := HB1.out.trans (hb2.mono HB1.out.size)
      clear hb2 hr2 hc2 hm2
      go_wp2_with fail
      refine (encode_bad ys _ _ _ _ (by omega) (H1.out.later HB2.out) HO1.out).mono ?_
      rintro e w3 ⟨hb3, rfl⟩
      have HB3 : Hid (Below w.heap.size w w3) := HB2.out.trans (hb3.mono HB2.out.size)
      clear hb3
      go_wp2
      go_ret
      exact ⟨rfl, HB3.out⟩
  · have HO0 : Hid (oks xs = false) := by show oks xs = false; simpa using ho0
    clear ho0
    go_enter Try.func7, Try.ntmps7
    go_wp2_with (first | (go_at_call 9; refine (shown_any _).mono ?_; rintro e w1 ⟨rfl, hb1⟩))
    have HB1 : Hid (Below w.heap.size w w1) := hb1
    clear hb1
    refine (encode_bad xs _ _ _ _ (by omega) (H0.out.later HB1.out) HO0.out).mono ?_
    rintro e w2 ⟨hb2, rfl⟩
    have HB2 : Hid (Below w.heap.size w w2) := HB1.out.trans (hb2.mono HB1.out.size)
    clear hb2
    go_wp2_with fail
    refine (encode_any ys _ _ _ _ (by omega) (H1.out.later HB2.out)).mono ?_
    rintro e w3 ⟨hb3, he⟩
    have HB3 : Hid (Below w.heap.size w w3) := HB2.out.trans (hb3.mono HB2.out.size)
    clear hb3
    rcases he with ⟨_, rfl⟩ | ⟨_, v3, rfl, _⟩
    · go_wp2
      go_ret
      exact ⟨rfl, HB3.out⟩
    · go_wp2
      go_ret
      exact ⟨rfl, HB3.out⟩
end Go.Proofs.Ytdoflmgdmcmmfaa
