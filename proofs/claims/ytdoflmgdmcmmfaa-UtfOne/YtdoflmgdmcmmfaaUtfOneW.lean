/- The walk of UtfOne: whatever the number, the bytes behind and the cut: true. -/
import Derived.Test.YtdoflmgdmcmmfaaUtfR
namespace Go.Proofs.Ytdoflmgdmcmmfaa
open Go.RowKit
set_option linter.unusedVariables false

set_option maxHeartbeats 2000000 in
theorem utfOne_bad (c : Int) (a1 : Option Addr) (len1 cap1 n1 : Nat) (at' : Int) (w : World) (hc1 : len1 ≤ cap1) (hn1 : n1 = min len1 20) (hs : sz c = 0) :
    Calls Try.prog 6 #[.int .i32 c, .slice a1 len1 cap1, .int .i64 at'] w fun e w' => e = .returned (.bool true) ∧ Below w.heap.size w w' := by
  have hm1 := min_run len1 n1 20 (by omega)
  have hs1 := cut_bytes a1 len1 cap1 n1 (by omega)
  have HS : Hid (sz c = 0) := hs
  have hcase : c < 0 ∨ (0 ≤ c ∧ 1114111 < c) ∨ (55296 ≤ c ∧ c ≤ 57343) := by
    unfold sz at hs; repeat' split at hs
    all_goals omega
  clear hn1
  rcases hcase with h | ⟨h, h'⟩ | ⟨h, h'⟩
  all_goals
    try have hdd : (decide (c < 55296) || decide (57343 < c)) = false := by simp; omega
    go_enter Try.func6, Try.ntmps6
    go_wp2_with (first | (go_at_call 9; refine (shown_any _).mono ?_; rintro e w1 ⟨rfl, hb1⟩; have HB1 : Hid (Below w.heap.size w w1) := hb1; clear hb1) | (go_at_call 10; refine (encode_bad [c] _ _ _ _ (by omega) (rd_one .i32 _ c _ _ rfl) (by simp [oks, HS.out])).mono ?_; rintro e w2 ⟨hb2, rfl⟩; have HB2 : Hid (Below w.heap.size w w2) := (HB1.out.alloc HB1.out.size _).trans (hb2.mono (by have := HB1.out.size; simp; omega)); clear hb2) | (go_at_call 17; refine (size_any _ _).mono ?_; rw [HS.out]; rintro e w' ⟨rfl, rfl⟩))
    go_ret
    exact ⟨rfl, HB2.out⟩

set_option maxHeartbeats 2000000 in
theorem utfOne_ok (c : Int) (a1 : Option Addr) (len1 cap1 n1 : Nat) (ms : List Int) (at' : Int) (w : World) (hc1 : len1 ≤ cap1) (hn1 : n1 = min len1 20) (hs : sz c ≠ 0)
    (h1 : Rd .u8 w a1 n1 ms) (hy : ∀ y ∈ ms, 0 ≤ y ∧ y ≤ 255) (hz1 : a1 = none → cap1 = 0) :
    Calls Try.prog 6 #[.int .i32 c, .slice a1 len1 cap1, .int .i64 at'] w fun e w' => e = .returned (.bool true) ∧ Below w.heap.size w w' := by
  obtain ⟨i0, hi, hzz0, hzz1, hzz2⟩ := info_parts info_u8
  have hm1 := min_run len1 n1 20 (by omega)
  have hs1 := cut_bytes a1 len1 cap1 n1 (by omega)
  have hl1 : n1 ≤ 20 := by omega
  have HS : Hid (sz c ≠ 0) := hs
  have H1 : Hid (Rd .u8 w a1 n1 ms) := h1
  have HZ1 : Hid (a1 = none → cap1 = 0) := hz1
  have HY : Hid (∀ y ∈ ms, 0 ≤ y ∧ y ≤ 255) := hy
  have hp := sz_pos c hs
  have hp0 : 0 ≤ c := hp.1
  have hp1 : c ≤ 1114111 := hp.2.1
  have hand := and_255 at'
  obtain ⟨B, hB⟩ : ∃ B, B = by8 c := ⟨_, rfl⟩
  have HBB : Hid (B = by8 c) := hB
  have hBl := by8_len c
  rw [← hB] at hBl
  have hBl1 : 1 ≤ B.length := hBl.1
  have hBl2 : B.length ≤ 4 := hBl.2
  have hszc : sz c = (B.length : Int) := by rw [hB]; exact (sz_len c hs).symm
  have HE : Hid (encs [c] = B) := by show encs [c] = B; rw [hB]; simp [encs]
  have HRG : Hid (∀ y ∈ B, 0 ≤ y ∧ y ≤ 255) := by rw [hB]; exact by8_rng c hs
  obtain ⟨K, hK⟩ : ∃ K : Nat, at' % 256 % (B.length : Int) = (K : Int) := ⟨(at' % 256 % (B.length : Int)).toNat, by
    have := Int.emod_nonneg (at' % 256) (show (B.length : Int) ≠ 0 by omega); omega⟩
  have hKl : K < B.length := by have := Int.emod_lt_of_pos (at' % 256) (show 0 < (B.length : Int) by omega); omega
  have hat0 : 0 ≤ at' % 256 := by omega
  have hat1 : at' % 256 ≤ 255 := by omega
  have hcase : (c < 55296) ∨ (57343 < c) := hp.2.2
  clear hn1 h1 hz1 hy hs hp hB hBl
  rcases hcase with hca | hca
  all_goals
    go_enter Try.func6, Try.ntmps6
    go_wp2_with (first | (go_at_call 9; refine (shown_any _).mono ?_; rintro e w1 ⟨rfl, hb1⟩; have HB1 : Hid (Below w.heap.size w w1) := hb1; clear hb1))
    refine (encode_ok [c] _ _ _ _ (by omega) (rd_one .i32 _ c _ _ rfl) (by simp [oks, HS.out])).mono ?_
    rw [HE.out]
    rintro e w2 ⟨hb2, a2, cap2, rfl, hc2, hm2, hr2⟩
    have HB2 : Hid (Below w.heap.size w w2) := (HB1.out.alloc HB1.out.size _).trans (hb2.mono (by have := HB1.out.size; simp; omega))
    have HR2 : Hid (Rd .u8 w2 a2 B.length B) := hr2
    have hcutK := cut_bytes a2 B.length cap2 K (by omega)
    have HOA : Hid ((w2.alloc (.cells #[] 5)).ownsRow w2.heap.size 5 1 (.slice (some ⟨w2.heap.size, 0, none⟩) 0 0) 0 []) := own_none (w := w2) w2.heap.size 5 (Nat.le_refl _) _ rfl
    have HBA : Hid (∀ o : Obj, Below w2.heap.size w2 (w2.alloc o)) := fun o => (Below.refl _ w2).alloc (Nat.le_refl _) o
    have HN2 : Hid (a2 = none → cap2 = 0) := by
      intro h; subst h; obtain ⟨_, _, hx, _⟩ := HR2.out.2 (by omega); cases hx
    clear hb2 hr2
    go_wp2_with (first | (go_at_call 17; refine (size_any _ _).mono ?_; rw [hszc]; rintro e w' ⟨rfl, hw⟩; obtain rfl : w2 = w' := hw.symm) | (at_builtin; refine wpList_append_rd rfl (.tmp 81) (.tmp 82) 23 rfl w2.heap.size 5 i0 (.int .u8 0) 1 Try.underlying23 hi hzz0 hzz1 hzz2 rfl _ 0 [] rfl HOA.out a2 B.length cap2 .u8 B rfl (HR2.out.later (HBA.out _)) HN2.out ?h63 ?hby ?hbase ?_))
    case h63 => unfold maxLen; omega
    case hby => omega
    case hbase => simp
    intro v3 w3 hown3 hgrow3
    have HG3 : Hid (Below w2.heap.size w2 w3) := below_own HOA.out hgrow3
    have HO3 : Hid (w3.ownsRow w2.heap.size 5 1 v3 B.length (B.map (Value.int .u8))) := by simpa [Hid] using hown3
    have HB3 : Hid (Below w.heap.size w w3) := HB2.out.trans (HG3.out.mono HB2.out.size)
    clear hown3 hgrow3
    go_wp2_with (first | (at_builtin; refine wpList_append_rd rfl (.tmp 83) (.tmp 84) 23 rfl w2.heap.size 5 i0 (.int .u8 0) 1 Try.underlying23 hi hzz0 hzz1 hzz2 rfl _ B.length (B.map (Value.int .u8)) rfl HO3.out a1 n1 cap1 .u8 ms rfl (H1.out.later HB3.out) HZ1.out ?h63b ?hbyb ?hbaseb ?_))
    case h63b => unfold maxLen; omega
    case hbyb => omega
    case hbaseb => exact HG3.out.size
    intro v4 w4 hown4 hgrow4
    have HG4 : Hid (Below w2.heap.size w2 w4) := HG3.out.grown hgrow4 HG3.out.size (fun k hk => (HO3.out.lt k hk).1)
    have HO4 : ∃ a4 cap4, v4 = .slice a4 (B.length + n1) cap4 ∧ (B.length + n1) ≤ cap4 ∧ cap4 ≤ 9223372036854775807 ∧ Rd .u8 w4 a4 (B.length + n1) (B ++ ms) := rd_own (by simpa using hown4)
    have HB4 : Hid (Below w.heap.size w w4) := HB2.out.trans (HG4.out.mono HB2.out.size)
    clear hown4 hgrow4 HO3 HG3 HB3 HOA HBA
    obtain ⟨a4, cap4, hv4, hc4, hm4, hr4⟩ := HO4
    have HR4 : Hid (Rd .u8 w4 a4 (B.length + n1) (B ++ ms)) := hr4
    clear hr4
    rw [hv4]
    clear hv4
    have HF : Hid (first (B ++ ms) = (c, (B.length : Int), 0)) := by show first (B ++ ms) = _; rw [HBB.out, first_enc c HS.out, hszc, HBB.out]
    have HRK : Hid (Rd .u8 w4 a2 K (B.take K)) := (HR2.out.later HG4.out).take K (by omega)
    have HRT : Hid (∀ y ∈ B.take K, 0 ≤ y ∧ y ≤ 255) := fun y hy => HRG.out y (List.mem_of_mem_take hy)
    have hKc : K ≤ cap2 := by omega
    go_wp2_with fail
    refine (first_any (B ++ ms) _ _ _ _ hc4 hm4 (fun y hy => (List.mem_append.1 hy).elim (HRG.out y) (HY.out y)) HR4.out).mono ?_
    rw [HF.out]
    rintro e w5 ⟨rfl, hw5⟩
    obtain rfl : w4 = w5 := hw5.symm
    by_cases hK0 : K = 0
    · subst hK0
      go_wp2_with fail
      refine (first_any [] _ _ _ _ hKc hm2 (by simp) (by simpa using HRK.out)).mono ?_
      rw [show first [] = (0, 0, 5) from rfl]
      rintro e w5 ⟨rfl, hw5⟩
      obtain rfl : w4 = w5 := hw5.symm
      go_wp2
      go_ret
      exact ⟨rfl, HB4.out⟩
    · have HF2 : Hid (first (B.take K) = (0, 0, 6)) := by show first (B.take K) = _; rw [HBB.out]; exact first_cutoff c HS.out K (by omega) (by rw [← HBB.out]; omega)
      have HT2 : Hid (tail8 (B.take K) = K) := by show tail8 (B.take K) = _; rw [HBB.out]; exact tail_cutoff c HS.out K (by omega) (by rw [← HBB.out]; omega)
      have hK1 : ((K : Int) == 0) = false := by simpa using hK0
      go_wp2_with fail
      refine (first_any (B.take K) _ _ _ _ hKc hm2 HRT.out HRK.out).mono ?_
      rw [HF2.out]
      rintro e w5 ⟨rfl, hw5⟩
      obtain rfl : w4 = w5 := hw5.symm
      go_wp2_with (first | (go_at_call 19; refine (tail_any (B.take K) _ _ _ _ hKc hm2 HRT.out HRK.out).mono ?_; rw [HT2.out]; rintro e w6 ⟨rfl, hw6⟩; obtain rfl : w4 = w6 := hw6.symm))
      go_ret
      exact ⟨ret_bool (by simp), HB4.out⟩

theorem utfOne_walk (c : Int) (a1 : Option Addr) (len1 cap1 n1 : Nat) (ms : List Int) (at' : Int) (w : World) (hc1 : len1 ≤ cap1) (hn1 : n1 = min len1 20)
    (h1 : Rd .u8 w a1 n1 ms) (hy : ∀ y ∈ ms, 0 ≤ y ∧ y ≤ 255) (hz1 : a1 = none → cap1 = 0) :
    Calls Try.prog 6 #[.int .i32 c, .slice a1 len1 cap1, .int .i64 at'] w fun e w' => e = .returned (.bool true) ∧ Below w.heap.size w w' := by
  by_cases hs : sz c = 0
  · exact utfOne_bad c a1 len1 cap1 n1 at' w hc1 hn1 hs
  · exact utfOne_ok c a1 len1 cap1 n1 ms at' w hc1 hn1 hs h1 hy hz1
end Go.Proofs.Ytdoflmgdmcmmfaa
