/- The walk of UtfTells: whatever the characters, the bytes and the number: true. -/
import Derived.Test.YtdoflmgdmcmmfaaUtfZB
namespace Go.Proofs.Ytdoflmgdmcmmfaa
open Go.RowKit
set_option linter.unusedVariables false

theorem rencode_ok (l : List Int) (a : Option Addr) (len cap : Nat) (w : World) (hlen : len ≤ 10000000000) (hrd : Rd .i32 w a len l) (ho : oks l = true) :
    Calls Try.prog 11 #[.slice a len cap] w fun e w' => Below w.heap.size w w' ∧ e = .returned (.tuple #[.string (strOfNums (encs l)), .int .i64 0]) := by
  refine (rencode_any l a len cap w hlen hrd).mono fun e w' ⟨hb, h⟩ => ⟨hb, ?_⟩
  rcases h with ⟨h, _⟩ | ⟨_, h⟩
  · rw [ho] at h; cases h
  · exact h
theorem rencode_bad (l : List Int) (a : Option Addr) (len cap : Nat) (w : World) (hlen : len ≤ 10000000000) (hrd : Rd .i32 w a len l) (ho : oks l = false) :
    Calls Try.prog 11 #[.slice a len cap] w fun e w' => Below w.heap.size w w' ∧ e = .returned (.tuple #[.string (strOfNums []), .int .i64 1]) := by
  refine (rencode_any l a len cap w hlen hrd).mono fun e w' ⟨hb, h⟩ => ⟨hb, ?_⟩
  rcases h with ⟨_, h⟩ | ⟨h, _⟩
  · exact h
  · rw [ho] at h; cases h
theorem rdecode_ok (bs cs : List Int) (w : World) (hlen : bs.length ≤ 100000000000) (hr : ∀ y ∈ bs, 0 ≤ y ∧ y ≤ 255) (hd : dec bs = some cs) :
    Calls Try.prog 15 #[.string (strOfNums bs)] w fun e w' => Below w.heap.size w w' ∧ ∃ a' cap', e = .returned (.tuple #[.slice a' cs.length cap', .int .i64 0]) ∧ Rd .i32 w' a' cs.length cs := by
  refine (rdecode_any bs w hlen hr).mono fun e w' ⟨hb, h⟩ => ⟨hb, ?_⟩
  rcases h with ⟨h, _⟩ | ⟨cs', v, h, _, he, ho⟩
  · rw [hd] at h; cases h
  · rw [hd] at h; cases h
    obtain ⟨a', cap', rfl, _, _, h3⟩ := rd_own ho
    exact ⟨a', cap', he, h3⟩
theorem rdecode_bad (bs : List Int) (w : World) (hlen : bs.length ≤ 100000000000) (hr : ∀ y ∈ bs, 0 ≤ y ∧ y ≤ 255) (hd : dec bs = none) :
    Calls Try.prog 15 #[.string (strOfNums bs)] w fun e w' => Below w.heap.size w w' ∧ e = .returned (.tuple #[.slice none 0 0, .int .i64 2]) := by
  refine (rdecode_any bs w hlen hr).mono fun e w' ⟨hb, h⟩ => ⟨hb, ?_⟩
  rcases h with ⟨_, h⟩ | ⟨cs', v, h, _⟩
  · exact h
  · rw [hd] at h; cases h
theorem rd_nothing (k : IntKind) (w : World) : Rd k w none 0 [] := ⟨rfl, fun h => absurd h (by omega)⟩

set_option maxHeartbeats 4000000 in
theorem utfTells_ok_ok (a0 a1 : Option Addr) (len0 cap0 len1 cap1 n0 n1 : Nat) (xs ys cs : List Int) (c : Int) (w : World) (hc0 : len0 ≤ cap0) (hc1 : len1 ≤ cap1)
    (hn0 : n0 = min len0 300) (hn1 : n1 = min len1 1000) (h0 : Rd .i32 w a0 n0 xs) (h1 : Rd .u8 w a1 n1 ys) (hy : ∀ y ∈ ys, 0 ≤ y ∧ y ≤ 255) (hz0 : a0 = none → cap0 = 0) (hz1 : a1 = none → cap1 = 0)
    (ho : oks xs = true) (hd : dec ys = some cs) :
    Calls Try.prog 3 #[.slice a0 len0 cap0, .slice a1 len1 cap1, .int .i32 c] w fun e w' => e = .returned (.bool true) ∧ Below w.heap.size w w' := by
  obtain ⟨i0, hi, hzz0, hzz1, hzz2⟩ := info_parts info_i32
  obtain ⟨j0, hj, hjz0, hjz1, hjz2⟩ := info_parts info_u8
  have hm0 := min_run len0 n0 300 (by omega)
  have hm1 := min_run len1 n1 1000 (by omega)
  have hs0 := cut_runes a0 len0 cap0 n0 (by omega)
  have hs1 := cut_bytes a1 len1 cap1 n1 (by omega)
  have hl0 : n0 ≤ 300 := by omega
  have hl1 : n1 ≤ 1000 := by omega
  have H0 : Hid (Rd .i32 w a0 n0 xs) := h0
  have H1 : Hid (Rd .u8 w a1 n1 ys) := h1
  have HY : Hid (∀ y ∈ ys, 0 ≤ y ∧ y ≤ 255) := hy
  have HZ0 : Hid (a0 = none → cap0 = 0) := hz0
  have HZ1 : Hid (a1 = none → cap1 = 0) := hz1
  have HYL : Hid (ys.length = n1) := h1.1
  have HO : Hid (oks xs = true) := ho
  have HD : Hid (dec ys = some cs) := hd
  have HCL : Hid (cs.length ≤ 1000) := by
    show cs.length ≤ 1000
    have h2 := len_le_encs cs
    rw [(dec_inv ys.length ys cs (Nat.le_refl _) hy hd).2] at h2
    have := HYL.out
    omega
  clear hn0 hn1 h0 h1 hy hz0 hz1 ho hd
  go_enter Try.func3, Try.ntmps3
  go_wp2_with (first | (go_at_call 9; refine (shown_any _).mono ?_; rintro e w1 ⟨rfl, hb1⟩; have HB1 : Hid (Below w.heap.size w w1) := hb1; clear hb1) | (at_builtin; refine wpList_append_rd rfl (.tmp 25) (.tmp 30) 22 rfl w1.heap.size 21 i0 (.int .i32 0) 4 Try.underlying22 hi hzz0 hzz1 hzz2 rfl _ 0 [] rfl (own_none (w := w1) w1.heap.size 21 (Nat.le_refl _) _ rfl) a0 n0 cap0 .i32 xs rfl (H0.out.later (HB1.out.alloc HB1.out.size _)) HZ0.out ?h63 ?hby ?hbase ?_))
  case h63 => unfold maxLen; omega
  case hby => omega
  case hbase => simp
  intro v2 w2 hown2 hgrow2
  have HB2 : Hid (Below w.heap.size w w2) := HB1.out.trans ((below_own (own_none (w := w1) w1.heap.size 21 (Nat.le_refl _) _ rfl) hgrow2).mono HB1.out.size)
  obtain ⟨a2, cap2, hv2, hc2, hm2, hr2⟩ := rd_own (xs := xs) (by simpa using hown2)
  have HR2 : Hid (Rd .i32 w2 a2 n0 xs) := by simpa [Hid] using hr2
  have hc2' : n0 ≤ cap2 := by omega
  have hv2' : v2 = .slice a2 n0 cap2 := by simpa using hv2
  clear hown2 hgrow2 hr2 hv2 hc2
  rw [hv2']
  clear hv2'
  go_wp2_with (first | (at_builtin; refine wpList_append_rd rfl (.tmp 32) (.tmp 37) 23 rfl w2.heap.size 5 j0 (.int .u8 0) 1 Try.underlying23 hj hjz0 hjz1 hjz2 rfl _ 0 [] rfl (own_none (w := w2) w2.heap.size 5 (Nat.le_refl _) _ rfl) a1 n1 cap1 .u8 ys rfl (H1.out.later (HB2.out.alloc HB2.out.size _)) HZ1.out ?h63b ?hbyb ?hbaseb ?_))
  case h63b => unfold maxLen; omega
  case hbyb => omega
  case hbaseb => simp
  intro v3 w3 hown3 hgrow3
  have HG3 : Hid (Below w2.heap.size w2 w3) := below_own (own_none (w := w2) w2.heap.size 5 (Nat.le_refl _) _ rfl) hgrow3
  have HB3 : Hid (Below w.heap.size w w3) := HB2.out.trans (HG3.out.mono HB2.out.size)
  obtain ⟨a3, cap3, hv3, hc3, hm3, hr3⟩ := rd_own (xs := ys) (by simpa using hown3)
  have HR3 : Hid (Rd .u8 w3 a3 n1 ys) := by simpa [Hid] using hr3
  have HR2' : Hid (Rd .i32 w3 a2 n0 xs) := HR2.out.later HG3.out
  have hc3' : n1 ≤ cap3 := by omega
  have hv3' : v3 = .slice a3 n1 cap3 := by simpa using hv3
  clear hown3 hgrow3 hr3 hv3 hc3
  rw [hv3']
  clear hv3'
  have hcv3 := conv_str (cap := cap3) HR3.out
  go_wp2_with fail
  refine (encode_ok xs _ _ _ _ (by omega) HR2'.out HO.out).mono ?_
  rintro e w4 ⟨hb4, a4, cap4, rfl, hc4, hm4, hr4⟩
  have HB34 : Hid (Below w3.heap.size w3 w4) := hb4
  have HR4 : Hid (Rd .u8 w4 a4 (encs xs).length (encs xs)) := hr4
  clear hb4 hr4 hc4 hm4 hcv3
  go_wp2_with fail
  refine (rencode_ok xs _ _ _ _ (by omega) (HR2'.out.later HB34.out) HO.out).mono ?_
  rintro e w5 ⟨hb5, rfl⟩
  have HB45 : Hid (Below w4.heap.size w4 w5) := hb5
  have HB35 : Hid (Below w3.heap.size w3 w5) := HB34.out.trans (HB45.out.mono HB34.out.size)
  clear hb5
  obtain ⟨⟨p, n, g⟩, hF⟩ : ∃ F : Int × Int × Int, F = first ys := ⟨_, rfl⟩
  have HF : Hid ((p, n, g) = first ys) := hF
  clear hF
  go_wp2_with fail
  refine (first_any ys _ _ _ _ hc3' hm3 HY.out (HR3.out.later HB35.out)).mono ?_
  rw [← HF.out]
  rintro e w' ⟨rfl, hw'⟩
  obtain rfl : w5 = w' := hw'.symm
  go_wp2_with fail
  refine (rfirst_any ys _ (by have := HYL.out; omega) HY.out).mono ?_
  rw [← HF.out]
  rintro e w6 ⟨rfl, hb6⟩
  have HB56 : Hid (Below w5.heap.size w5 w6) := hb6
  have HB36 : Hid (Below w3.heap.size w3 w6) := HB35.out.trans (HB56.out.mono HB35.out.size)
  clear hb6
  go_wp2_with fail
  refine (decode_ok ys _ _ _ _ cs hc3' hm3 (by omega) HY.out (HR3.out.later HB36.out) HD.out).mono ?_
  rintro e w7 ⟨hb7, a7, cap7, rfl, hc7, hm7, hr7⟩
  have HB67 : Hid (Below w6.heap.size w6 w7) := hb7
  have HR7 : Hid (Rd .i32 w7 a7 cs.length cs) := hr7
  clear hb7 hr7 hc7 hm7
  go_wp2_with fail
  refine (rdecode_ok ys cs _ (by have := HYL.out; omega) HY.out HD.out).mono ?_
  rintro e w8 ⟨hb8, a8, cap8, rfl, hr8⟩
  have HB78 : Hid (Below w7.heap.size w7 w8) := hb8
  have HR8 : Hid (Rd .i32 w8 a8 cs.length cs) := hr8
  clear hb8 hr8
  go_wp2_with fail
  refine (same_true _ _ cs.length _ _ cs _ (by have := HCL.out; omega) (HR7.out.later HB78.out) HR8.out).mono ?_
  rintro e w9 ⟨rfl, hb9⟩
  have HB89 : Hid (Below w8.heap.size w8 w9) := hb9
  have HB79 : Hid (Below w7.heap.size w7 w9) := HB78.out.trans (HB89.out.mono HB78.out.size)
  have HB69 : Hid (Below w6.heap.size w6 w9) := HB67.out.trans (HB79.out.mono HB67.out.size)
  have HB59 : Hid (Below w5.heap.size w5 w9) := HB56.out.trans (HB69.out.mono HB56.out.size)
  have HB49 : Hid (Below w4.heap.size w4 w9) := HB45.out.trans (HB59.out.mono HB45.out.size)
  have HB39 : Hid (Below w3.heap.size w3 w9) := HB34.out.trans (HB49.out.mono HB34.out.size)
  have HB9 : Hid (Below w.heap.size w w9) := HB3.out.trans (HB39.out.mono HB3.out.size)
  have hcvx := conv_str (cap := cap4) (HR4.out.later HB49.out)
  clear hb9
  go_wp2_with (first | (go_at_call 17; refine (size_any _ _).mono ?_; rintro e w' ⟨rfl, hw'⟩; obtain rfl : w9 = w' := hw'.symm) | (go_at_call 18; refine (rsize_any _ _).mono ?_; rintro e w' ⟨rfl, hw'⟩; obtain rfl : w9 = w' := hw'.symm) | (go_at_call 19; refine (tail_any ys _ _ _ _ hc3' hm3 HY.out (HR3.out.later HB39.out)).mono ?_; rintro e w' ⟨rfl, hw'⟩; obtain rfl : w9 = w' := hw'.symm) | (go_at_call 20; refine (rtail_any ys _ (by have := HYL.out; omega) HY.out).mono ?_; rintro e w10 ⟨rfl, hb10⟩; have HB10 : Hid (Below w9.heap.size w9 w10) := hb10; have hcvb := conv_str (cap := cap3) (HR3.out.later (HB39.out.trans (hb10.mono HB39.out.size))); clear hb10))
  go_ret
  exact ⟨ret_bool (by simp), HB9.out.trans (HB10.out.mono HB9.out.size)⟩
set_option maxHeartbeats 4000000 in
theorem utfTells_ok_bad (a0 a1 : Option Addr) (len0 cap0 len1 cap1 n0 n1 : Nat) (xs ys : List Int) (c : Int) (w : World) (hc0 : len0 ≤ cap0) (hc1 : len1 ≤ cap1)
    (hn0 : n0 = min len0 300) (hn1 : n1 = min len1 1000) (h0 : Rd .i32 w a0 n0 xs) (h1 : Rd .u8 w a1 n1 ys) (hy : ∀ y ∈ ys, 0 ≤ y ∧ y ≤ 255) (hz0 : a0 = none → cap0 = 0) (hz1 : a1 = none → cap1 = 0)
    (ho : oks xs = true) (hd : dec ys = none) :
    Calls Try.prog 3 #[.slice a0 len0 cap0, .slice a1 len1 cap1, .int .i32 c] w fun e w' => e = .returned (.bool true) ∧ Below w.heap.size w w' := by
  obtain ⟨i0, hi, hzz0, hzz1, hzz2⟩ := info_parts info_i32
  obtain ⟨j0, hj, hjz0, hjz1, hjz2⟩ := info_parts info_u8
  have hm0 := min_run len0 n0 300 (by omega)
  have hm1 := min_run len1 n1 1000 (by omega)
  have hs0 := cut_runes a0 len0 cap0 n0 (by omega)
  have hs1 := cut_bytes a1 len1 cap1 n1 (by omega)
  have hl0 : n0 ≤ 300 := by omega
  have hl1 : n1 ≤ 1000 := by omega
  have H0 : Hid (Rd .i32 w a0 n0 xs) := h0
  have H1 : Hid (Rd .u8 w a1 n1 ys) := h1
  have HY : Hid (∀ y ∈ ys, 0 ≤ y ∧ y ≤ 255) := hy
  have HZ0 : Hid (a0 = none → cap0 = 0) := hz0
  have HZ1 : Hid (a1 = none → cap1 = 0) := hz1
  have HYL : Hid (ys.length = n1) := h1.1
  have HO : Hid (oks xs = true) := ho
  have HD : Hid (dec ys = none) := hd
  clear hn0 hn1 h0 h1 hy hz0 hz1 ho hd
  go_enter Try.func3, Try.ntmps3
  go_wp2_with (first | (go_at_call 9; refine (shown_any _).mono ?_; rintro e w1 ⟨rfl, hb1⟩; have HB1 : Hid (Below w.heap.size w w1) := hb1; clear hb1) | (at_builtin; refine wpList_append_rd rfl (.tmp 25) (.tmp 30) 22 rfl w1.heap.size 21 i0 (.int .i32 0) 4 Try.underlying22 hi hzz0 hzz1 hzz2 rfl _ 0 [] rfl (own_none (w := w1) w1.heap.size 21 (Nat.le_refl _) _ rfl) a0 n0 cap0 .i32 xs rfl (H0.out.later (HB1.out.alloc HB1.out.size _)) HZ0.out ?h63 ?hby ?hbase ?_))
  case h63 => unfold maxLen; omega
  case hby => omega
  case hbase => simp
  intro v2 w2 hown2 hgrow2
  have HB2 : Hid (Below w.heap.size w w2) := HB1.out.trans ((below_own (own_none (w := w1) w1.heap.size 21 (Nat.le_refl _) _ rfl) hgrow2).mono HB1.out.size)
  obtain ⟨a2, cap2, hv2, hc2, hm2, hr2⟩ := rd_own (xs := xs) (by simpa using hown2)
  have HR2 : Hid (Rd .i32 w2 a2 n0 xs) := by simpa [Hid] using hr2
  have hc2' : n0 ≤ cap2 := by omega
  have hv2' : v2 = .slice a2 n0 cap2 := by simpa using hv2
  clear hown2 hgrow2 hr2 hv2 hc2
  rw [hv2']
  clear hv2'
  go_wp2_with (first | (at_builtin; refine wpList_append_rd rfl (.tmp 32) (.tmp 37) 23 rfl w2.heap.size 5 j0 (.int .u8 0) 1 Try.underlying23 hj hjz0 hjz1 hjz2 rfl _ 0 [] rfl (own_none (w := w2) w2.heap.size 5 (Nat.le_refl _) _ rfl) a1 n1 cap1 .u8 ys rfl (H1.out.later (HB2.out.alloc HB2.out.size _)) HZ1.out ?h63b ?hbyb ?hbaseb ?_))
  case h63b => unfold maxLen; omega
  case hbyb => omega
  case hbaseb => simp
  intro v3 w3 hown3 hgrow3
  have HG3 : Hid (Below w2.heap.size w2 w3) := below_own (own_none (w := w2) w2.heap.size 5 (Nat.le_refl _) _ rfl) hgrow3
  have HB3 : Hid (Below w.heap.size w w3) := HB2.out.trans (HG3.out.mono HB2.out.size)
  obtain ⟨a3, cap3, hv3, hc3, hm3, hr3⟩ := rd_own (xs := ys) (by simpa using hown3)
  have HR3 : Hid (Rd .u8 w3 a3 n1 ys) := by simpa [Hid] using hr3
  have HR2' : Hid (Rd .i32 w3 a2 n0 xs) := HR2.out.later HG3.out
  have hc3' : n1 ≤ cap3 := by omega
  have hv3' : v3 = .slice a3 n1 cap3 := by simpa using hv3
  clear hown3 hgrow3 hr3 hv3 hc3
  rw [hv3']
  clear hv3'
  have hcv3 := conv_str (cap := cap3) HR3.out
  go_wp2_with fail
  refine (encode_ok xs _ _ _ _ (by omega) HR2'.out HO.out).mono ?_
  rintro e w4 ⟨hb4, a4, cap4, rfl, hc4, hm4, hr4⟩
  have HB34 : Hid (Below w3.heap.size w3 w4) := hb4
  have HR4 : Hid (Rd .u8 w4 a4 (encs xs).length (encs xs)) := hr4
  clear hb4 hr4 hc4 hm4 hcv3
  go_wp2_with fail
  refine (rencode_ok xs _ _ _ _ (by omega) (HR2'.out.later HB34.out) HO.out).mono ?_
  rintro e w5 ⟨hb5, rfl⟩
  have HB45 : Hid (Below w4.heap.size w4 w5) := hb5
  have HB35 : Hid (Below w3.heap.size w3 w5) := HB34.out.trans (HB45.out.mono HB34.out.size)
  clear hb5
  obtain ⟨⟨p, n, g⟩, hF⟩ : ∃ F : Int × Int × Int, F = first ys := ⟨_, rfl⟩
  have HF : Hid ((p, n, g) = first ys) := hF
  clear hF
  go_wp2_with fail
  refine (first_any ys _ _ _ _ hc3' hm3 HY.out (HR3.out.later HB35.out)).mono ?_
  rw [← HF.out]
  rintro e w' ⟨rfl, hw'⟩
  obtain rfl : w5 = w' := hw'.symm
  go_wp2_with fail
  refine (rfirst_any ys _ (by have := HYL.out; omega) HY.out).mono ?_
  rw [← HF.out]
  rintro e w6 ⟨rfl, hb6⟩
  have HB56 : Hid (Below w5.heap.size w5 w6) := hb6
  have HB36 : Hid (Below w3.heap.size w3 w6) := HB35.out.trans (HB56.out.mono HB35.out.size)
  clear hb6
  go_wp2_with fail
  refine (decode_bad ys _ _ _ _ hc3' hm3 (by omega) HY.out (HR3.out.later HB36.out) HD.out).mono ?_
  rintro e w7 ⟨hb7, rfl⟩
  have HB67 : Hid (Below w6.heap.size w6 w7) := hb7
  clear hb7
  go_wp2_with fail
  refine (rdecode_bad ys _ (by have := HYL.out; omega) HY.out HD.out).mono ?_
  rintro e w8 ⟨hb8, rfl⟩
  have HB78 : Hid (Below w7.heap.size w7 w8) := hb8
  clear hb8
  go_wp2_with fail
  refine (same_true _ _ 0 _ _ [] _ (by omega) (rd_nothing .i32 _) (rd_nothing .i32 _)).mono ?_
  rintro e w9 ⟨rfl, hb9⟩
  have HB89 : Hid (Below w8.heap.size w8 w9) := hb9
  have HB79 : Hid (Below w7.heap.size w7 w9) := HB78.out.trans (HB89.out.mono HB78.out.size)
  have HB69 : Hid (Below w6.heap.size w6 w9) := HB67.out.trans (HB79.out.mono HB67.out.size)
  have HB59 : Hid (Below w5.heap.size w5 w9) := HB56.out.trans (HB69.out.mono HB56.out.size)
  have HB49 : Hid (Below w4.heap.size w4 w9) := HB45.out.trans (HB59.out.mono HB45.out.size)
  have HB39 : Hid (Below w3.heap.size w3 w9) := HB34.out.trans (HB49.out.mono HB34.out.size)
  have HB9 : Hid (Below w.heap.size w w9) := HB3.out.trans (HB39.out.mono HB3.out.size)
  have hcvx := conv_str (cap := cap4) (HR4.out.later HB49.out)
  clear hb9
  go_wp2_with (first | (go_at_call 17; refine (size_any _ _).mono ?_; rintro e w' ⟨rfl, hw'⟩; obtain rfl : w9 = w' := hw'.symm) | (go_at_call 18; refine (rsize_any _ _).mono ?_; rintro e w' ⟨rfl, hw'⟩; obtain rfl : w9 = w' := hw'.symm) | (go_at_call 19; refine (tail_any ys _ _ _ _ hc3' hm3 HY.out (HR3.out.later HB39.out)).mono ?_; rintro e w' ⟨rfl, hw'⟩; obtain rfl : w9 = w' := hw'.symm) | (go_at_call 20; refine (rtail_any ys _ (by have := HYL.out; omega) HY.out).mono ?_; rintro e w10 ⟨rfl, hb10⟩; have HB10 : Hid (Below w9.heap.size w9 w10) := hb10; have hcvb := conv_str (cap := cap3) (HR3.out.later (HB39.out.trans (hb10.mono HB39.out.size))); clear hb10))
  go_ret
  exact ⟨ret_bool (by simp), HB9.out.trans (HB10.out.mono HB9.out.size)⟩
set_option maxHeartbeats 4000000 in
theorem utfTells_bad_ok (a0 a1 : Option Addr) (len0 cap0 len1 cap1 n0 n1 : Nat) (xs ys cs : List Int) (c : Int) (w : World) (hc0 : len0 ≤ cap0) (hc1 : len1 ≤ cap1)
    (hn0 : n0 = min len0 300) (hn1 : n1 = min len1 1000) (h0 : Rd .i32 w a0 n0 xs) (h1 : Rd .u8 w a1 n1 ys) (hy : ∀ y ∈ ys, 0 ≤ y ∧ y ≤ 255) (hz0 : a0 = none → cap0 = 0) (hz1 : a1 = none → cap1 = 0)
    (ho : oks xs = false) (hd : dec ys = some cs) :
    Calls Try.prog 3 #[.slice a0 len0 cap0, .slice a1 len1 cap1, .int .i32 c] w fun e w' => e = .returned (.bool true) ∧ Below w.heap.size w w' := by
  obtain ⟨i0, hi, hzz0, hzz1, hzz2⟩ := info_parts info_i32
  obtain ⟨j0, hj, hjz0, hjz1, hjz2⟩ := info_parts info_u8
  have hm0 := min_run len0 n0 300 (by omega)
  have hm1 := min_run len1 n1 1000 (by omega)
  have hs0 := cut_runes a0 len0 cap0 n0 (by omega)
  have hs1 := cut_bytes a1 len1 cap1 n1 (by omega)
  have hl0 : n0 ≤ 300 := by omega
  have hl1 : n1 ≤ 1000 := by omega
  have H0 : Hid (Rd .i32 w a0 n0 xs) := h0
  have H1 : Hid (Rd .u8 w a1 n1 ys) := h1
  have HY : Hid (∀ y ∈ ys, 0 ≤ y ∧ y ≤ 255) := hy
  have HZ0 : Hid (a0 = none → cap0 = 0) := hz0
  have HZ1 : Hid (a1 = none → cap1 = 0) := hz1
  have HYL : Hid (ys.length = n1) := h1.1
  have HO : Hid (oks xs = false) := ho
  have HD : Hid (dec ys = some cs) := hd
  have HCL : Hid (cs.length ≤ 1000) := by
    show cs.length ≤ 1000
    have h2 := len_le_encs cs
    rw [(dec_inv ys.length ys cs (Nat.le_refl _) hy hd).2] at h2
    have := HYL.out
    omega
  clear hn0 hn1 h0 h1 hy hz0 hz1 ho hd
  go_enter Try.func3, Try.ntmps3
  go_wp2_with (first | (go_at_call 9; refine (shown_any _).mono ?_; rintro e w1 ⟨rfl, hb1⟩; have HB1 : Hid (Below w.heap.size w w1) := hb1; clear hb1) | (at_builtin; refine wpList_append_rd rfl (.tmp 25) (.tmp 30) 22 rfl w1.heap.size 21 i0 (.int .i32 0) 4 Try.underlying22 hi hzz0 hzz1 hzz2 rfl _ 0 [] rfl (own_none (w := w1) w1.heap.size 21 (Nat.le_refl _) _ rfl) a0 n0 cap0 .i32 xs rfl (H0.out.later (HB1.out.alloc HB1.out.size _)) HZ0.out ?h63 ?hby ?hbase ?_))
  case h63 => unfold maxLen; omega
  case hby => omega
  case hbase => simp
  intro v2 w2 hown2 hgrow2
  have HB2 : Hid (Below w.heap.size w w2) := HB1.out.trans ((below_own (own_none (w := w1) w1.heap.size 21 (Nat.le_refl _) _ rfl) hgrow2).mono HB1.out.size)
  obtain ⟨a2, cap2, hv2, hc2, hm2, hr2⟩ := rd_own (xs := xs) (by simpa using hown2)
  have HR2 : Hid (Rd .i32 w2 a2 n0 xs) := by simpa [Hid] using hr2
  have hc2' : n0 ≤ cap2 := by omega
  have hv2' : v2 = .slice a2 n0 cap2 := by simpa using hv2
  clear hown2 hgrow2 hr2 hv2 hc2
  rw [hv2']
  clear hv2'
  go_wp2_with (first | (at_builtin; refine wpList_append_rd rfl (.tmp 32) (.tmp 37) 23 rfl w2.heap.size 5 j0 (.int .u8 0) 1 Try.underlying23 hj hjz0 hjz1 hjz2 rfl _ 0 [] rfl (own_none (w := w2) w2.heap.size 5 (Nat.le_refl _) _ rfl) a1 n1 cap1 .u8 ys rfl (H1.out.later (HB2.out.alloc HB2.out.size _)) HZ1.out ?h63b ?hbyb ?hbaseb ?_))
  case h63b => unfold maxLen; omega
  case hbyb => omega
  case hbaseb => simp
  intro v3 w3 hown3 hgrow3
  have HG3 : Hid (Below w2.heap.size w2 w3) := below_own (own_none (w := w2) w2.heap.size 5 (Nat.le_refl _) _ rfl) hgrow3
  have HB3 : Hid (Below w.heap.size w w3) := HB2.out.trans (HG3.out.mono HB2.out.size)
  obtain ⟨a3, cap3, hv3, hc3, hm3, hr3⟩ := rd_own (xs := ys) (by simpa using hown3)
  have HR3 : Hid (Rd .u8 w3 a3 n1 ys) := by simpa [Hid] using hr3
  have HR2' : Hid (Rd .i32 w3 a2 n0 xs) := HR2.out.later HG3.out
  have hc3' : n1 ≤ cap3 := by omega
  have hv3' : v3 = .slice a3 n1 cap3 := by simpa using hv3
  clear hown3 hgrow3 hr3 hv3 hc3
  rw [hv3']
  clear hv3'
  have hcv3 := conv_str (cap := cap3) HR3.out
  go_wp2_with fail
  refine (encode_bad xs _ _ _ _ (by omega) HR2'.out HO.out).mono ?_
  rintro e w4 ⟨hb4, rfl⟩
  have HB34 : Hid (Below w3.heap.size w3 w4) := hb4
  clear hb4 hcv3
  go_wp2_with fail
  refine (rencode_bad xs _ _ _ _ (by omega) (HR2'.out.later HB34.out) HO.out).mono ?_
  rintro e w5 ⟨hb5, rfl⟩
  have HB45 : Hid (Below w4.heap.size w4 w5) := hb5
  have HB35 : Hid (Below w3.heap.size w3 w5) := HB34.out.trans (HB45.out.mono HB34.out.size)
  clear hb5
  obtain ⟨⟨p, n, g⟩, hF⟩ : ∃ F : Int × Int × Int, F = first ys := ⟨_, rfl⟩
  have HF : Hid ((p, n, g) = first ys) := hF
  clear hF
  go_wp2_with fail
  refine (first_any ys _ _ _ _ hc3' hm3 HY.out (HR3.out.later HB35.out)).mono ?_
  rw [← HF.out]
  rintro e w' ⟨rfl, hw'⟩
  obtain rfl : w5 = w' := hw'.symm
  go_wp2_with fail
  refine (rfirst_any ys _ (by have := HYL.out; omega) HY.out).mono ?_
  rw [← HF.out]
  rintro e w6 ⟨rfl, hb6⟩
  have HB56 : Hid (Below w5.heap.size w5 w6) := hb6
  have HB36 : Hid (Below w3.heap.size w3 w6) := HB35.out.trans (HB56.out.mono HB35.out.size)
  clear hb6
  go_wp2_with fail
  refine (decode_ok ys _ _ _ _ cs hc3' hm3 (by omega) HY.out (HR3.out.later HB36.out) HD.out).mono ?_
  rintro e w7 ⟨hb7, a7, cap7, rfl, hc7, hm7, hr7⟩
  have HB67 : Hid (Below w6.heap.size w6 w7) := hb7
  have HR7 : Hid (Rd .i32 w7 a7 cs.length cs) := hr7
  clear hb7 hr7 hc7 hm7
  go_wp2_with fail
  refine (rdecode_ok ys cs _ (by have := HYL.out; omega) HY.out HD.out).mono ?_
  rintro e w8 ⟨hb8, a8, cap8, rfl, hr8⟩
  have HB78 : Hid (Below w7.heap.size w7 w8) := hb8
  have HR8 : Hid (Rd .i32 w8 a8 cs.length cs) := hr8
  clear hb8 hr8
  go_wp2_with fail
  refine (same_true _ _ cs.length _ _ cs _ (by have := HCL.out; omega) (HR7.out.later HB78.out) HR8.out).mono ?_
  rintro e w9 ⟨rfl, hb9⟩
  have HB89 : Hid (Below w8.heap.size w8 w9) := hb9
  have HB79 : Hid (Below w7.heap.size w7 w9) := HB78.out.trans (HB89.out.mono HB78.out.size)
  have HB69 : Hid (Below w6.heap.size w6 w9) := HB67.out.trans (HB79.out.mono HB67.out.size)
  have HB59 : Hid (Below w5.heap.size w5 w9) := HB56.out.trans (HB69.out.mono HB56.out.size)
  have HB49 : Hid (Below w4.heap.size w4 w9) := HB45.out.trans (HB59.out.mono HB45.out.size)
  have HB39 : Hid (Below w3.heap.size w3 w9) := HB34.out.trans (HB49.out.mono HB34.out.size)
  have HB9 : Hid (Below w.heap.size w w9) := HB3.out.trans (HB39.out.mono HB3.out.size)
  have hcvx := conv_str (cap := 0) (rd_nothing .u8 w9)
  clear hb9
  go_wp2_with (first | (go_at_call 17; refine (size_any _ _).mono ?_; rintro e w' ⟨rfl, hw'⟩; obtain rfl : w9 = w' := hw'.symm) | (go_at_call 18; refine (rsize_any _ _).mono ?_; rintro e w' ⟨rfl, hw'⟩; obtain rfl : w9 = w' := hw'.symm) | (go_at_call 19; refine (tail_any ys _ _ _ _ hc3' hm3 HY.out (HR3.out.later HB39.out)).mono ?_; rintro e w' ⟨rfl, hw'⟩; obtain rfl : w9 = w' := hw'.symm) | (go_at_call 20; refine (rtail_any ys _ (by have := HYL.out; omega) HY.out).mono ?_; rintro e w10 ⟨rfl, hb10⟩; have HB10 : Hid (Below w9.heap.size w9 w10) := hb10; have hcvb := conv_str (cap := cap3) (HR3.out.later (HB39.out.trans (hb10.mono HB39.out.size))); clear hb10))
  go_ret
  exact ⟨ret_bool (by simp), HB9.out.trans (HB10.out.mono HB9.out.size)⟩
set_option maxHeartbeats 4000000 in
theorem utfTells_bad_bad (a0 a1 : Option Addr) (len0 cap0 len1 cap1 n0 n1 : Nat) (xs ys : List Int) (c : Int) (w : World) (hc0 : len0 ≤ cap0) (hc1 : len1 ≤ cap1)
    (hn0 : n0 = min len0 300) (hn1 : n1 = min len1 1000) (h0 : Rd .i32 w a0 n0 xs) (h1 : Rd .u8 w a1 n1 ys) (hy : ∀ y ∈ ys, 0 ≤ y ∧ y ≤ 255) (hz0 : a0 = none → cap0 = 0) (hz1 : a1 = none → cap1 = 0)
    (ho : oks xs = false) (hd : dec ys = none) :
    Calls Try.prog 3 #[.slice a0 len0 cap0, .slice a1 len1 cap1, .int .i32 c] w fun e w' => e = .returned (.bool true) ∧ Below w.heap.size w w' := by
  obtain ⟨i0, hi, hzz0, hzz1, hzz2⟩ := info_parts info_i32
  obtain ⟨j0, hj, hjz0, hjz1, hjz2⟩ := info_parts info_u8
  have hm0 := min_run len0 n0 300 (by omega)
  have hm1 := min_run len1 n1 1000 (by omega)
  have hs0 := cut_runes a0 len0 cap0 n0 (by omega)
  have hs1 := cut_bytes a1 len1 cap1 n1 (by omega)
  have hl0 : n0 ≤ 300 := by omega
  have hl1 : n1 ≤ 1000 := by omega
  have H0 : Hid (Rd .i32 w a0 n0 xs) := h0
  have H1 : Hid (Rd .u8 w a1 n1 ys) := h1
  have HY : Hid (∀ y ∈ ys, 0 ≤ y ∧ y ≤ 255) := hy
  have HZ0 : Hid (a0 = none → cap0 = 0) := hz0
  have HZ1 : Hid (a1 = none → cap1 = 0) := hz1
  have HYL : Hid (ys.length = n1) := h1.1
  have HO : Hid (oks xs = false) := ho
  have HD : Hid (dec ys = none) := hd
  clear hn0 hn1 h0 h1 hy hz0 hz1 ho hd
  go_enter Try.func3, Try.ntmps3
  go_wp2_with (first | (go_at_call 9; refine (shown_any _).mono ?_; rintro e w1 ⟨rfl, hb1⟩; have HB1 : Hid (Below w.heap.size w w1) := hb1; clear hb1) | (at_builtin; refine wpList_append_rd rfl (.tmp 25) (.tmp 30) 22 rfl w1.heap.size 21 i0 (.int .i32 0) 4 Try.underlying22 hi hzz0 hzz1 hzz2 rfl _ 0 [] rfl (own_none (w := w1) w1.heap.size 21 (Nat.le_refl _) _ rfl) a0 n0 cap0 .i32 xs rfl (H0.out.later (HB1.out.alloc HB1.out.size _)) HZ0.out ?h63 ?hby ?hbase ?_))
  case h63 => unfold maxLen; omega
  case hby => omega
  case hbase => simp
  intro v2 w2 hown2 hgrow2
  have HB2 : Hid (Below w.heap.size w w2) := HB1.out.trans ((below_own (own_none (w := w1) w1.heap.size 21 (Nat.le_refl _) _ rfl) hgrow2).mono HB1.out.size)
  obtain ⟨a2, cap2, hv2, hc2, hm2, hr2⟩ := rd_own (xs := xs) (by simpa using hown2)
  have HR2 : Hid (Rd .i32 w2 a2 n0 xs) := by simpa [Hid] using hr2
  have hc2' : n0 ≤ cap2 := by omega
  have hv2' : v2 = .slice a2 n0 cap2 := by simpa using hv2
  clear hown2 hgrow2 hr2 hv2 hc2
  rw [hv2']
  clear hv2'
  go_wp2_with (first | (at_builtin; refine wpList_append_rd rfl (.tmp 32) (.tmp 37) 23 rfl w2.heap.size 5 j0 (.int .u8 0) 1 Try.underlying23 hj hjz0 hjz1 hjz2 rfl _ 0 [] rfl (own_none (w := w2) w2.heap.size 5 (Nat.le_refl _) _ rfl) a1 n1 cap1 .u8 ys rfl (H1.out.later (HB2.out.alloc HB2.out.size _)) HZ1.out ?h63b ?hbyb ?hbaseb ?_))
  case h63b => unfold maxLen; omega
  case hbyb => omega
  case hbaseb => simp
  intro v3 w3 hown3 hgrow3
  have HG3 : Hid (Below w2.heap.size w2 w3) := below_own (own_none (w := w2) w2.heap.size 5 (Nat.le_refl _) _ rfl) hgrow3
  have HB3 : Hid (Below w.heap.size w w3) := HB2.out.trans (HG3.out.mono HB2.out.size)
  obtain ⟨a3, cap3, hv3, hc3, hm3, hr3⟩ := rd_own (xs := ys) (by simpa using hown3)
  have HR3 : Hid (Rd .u8 w3 a3 n1 ys) := by simpa [Hid] using hr3
  have HR2' : Hid (Rd .i32 w3 a2 n0 xs) := HR2.out.later HG3.out
  have hc3' : n1 ≤ cap3 := by omega
  have hv3' : v3 = .slice a3 n1 cap3 := by simpa using hv3
  clear hown3 hgrow3 hr3 hv3 hc3
  rw [hv3']
  clear hv3'
  have hcv3 := conv_str (cap := cap3) HR3.out
  go_wp2_with fail
  refine (encode_bad xs _ _ _ _ (by omega) HR2'.out HO.out).mono ?_
  rintro e w4 ⟨hb4, rfl⟩
  have HB34 : Hid (Below w3.heap.size w3 w4) := hb4
  clear hb4 hcv3
  go_wp2_with fail
  refine (rencode_bad xs _ _ _ _ (by omega) (HR2'.out.later HB34.out) HO.out).mono ?_
  rintro e w5 ⟨hb5, rfl⟩
  have HB45 : Hid (Below w4.heap.size w4 w5) := hb5
  have HB35 : Hid (Below w3.heap.size w3 w5) := HB34.out.trans (HB45.out.mono HB34.out.size)
  clear hb5
  obtain ⟨⟨p, n, g⟩, hF⟩ : ∃ F : Int × Int × Int, F = first ys := ⟨_, rfl⟩
  have HF : Hid ((p, n, g) = first ys) := hF
  clear hF
  go_wp2_with fail
  refine (first_any ys _ _ _ _ hc3' hm3 HY.out (HR3.out.later HB35.out)).mono ?_
  rw [← HF.out]
  rintro e w' ⟨rfl, hw'⟩
  obtain rfl : w5 = w' := hw'.symm
  go_wp2_with fail
  refine (rfirst_any ys _ (by have := HYL.out; omega) HY.out).mono ?_
  rw [← HF.out]
  rintro e w6 ⟨rfl, hb6⟩
  have HB56 : Hid (Below w5.heap.size w5 w6) := hb6
  have HB36 : Hid (Below w3.heap.size w3 w6) := HB35.out.trans (HB56.out.mono HB35.out.size)
  clear hb6
  go_wp2_with fail
  refine (decode_bad ys _ _ _ _ hc3' hm3 (by omega) HY.out (HR3.out.later HB36.out) HD.out).mono ?_
  rintro e w7 ⟨hb7, rfl⟩
  have HB67 : Hid (Below w6.heap.size w6 w7) := hb7
  clear hb7
  go_wp2_with fail
  refine (rdecode_bad ys _ (by have := HYL.out; omega) HY.out HD.out).mono ?_
  rintro e w8 ⟨hb8, rfl⟩
  have HB78 : Hid (Below w7.heap.size w7 w8) := hb8
  clear hb8
  go_wp2_with fail
  refine (same_true _ _ 0 _ _ [] _ (by omega) (rd_nothing .i32 _) (rd_nothing .i32 _)).mono ?_
  rintro e w9 ⟨rfl, hb9⟩
  have HB89 : Hid (Below w8.heap.size w8 w9) := hb9
  have HB79 : Hid (Below w7.heap.size w7 w9) := HB78.out.trans (HB89.out.mono HB78.out.size)
  have HB69 : Hid (Below w6.heap.size w6 w9) := HB67.out.trans (HB79.out.mono HB67.out.size)
  have HB59 : Hid (Below w5.heap.size w5 w9) := HB56.out.trans (HB69.out.mono HB56.out.size)
  have HB49 : Hid (Below w4.heap.size w4 w9) := HB45.out.trans (HB59.out.mono HB45.out.size)
  have HB39 : Hid (Below w3.heap.size w3 w9) := HB34.out.trans (HB49.out.mono HB34.out.size)
  have HB9 : Hid (Below w.heap.size w w9) := HB3.out.trans (HB39.out.mono HB3.out.size)
  have hcvx := conv_str (cap := 0) (rd_nothing .u8 w9)
  clear hb9
  go_wp2_with (first | (go_at_call 17; refine (size_any _ _).mono ?_; rintro e w' ⟨rfl, hw'⟩; obtain rfl : w9 = w' := hw'.symm) | (go_at_call 18; refine (rsize_any _ _).mono ?_; rintro e w' ⟨rfl, hw'⟩; obtain rfl : w9 = w' := hw'.symm) | (go_at_call 19; refine (tail_any ys _ _ _ _ hc3' hm3 HY.out (HR3.out.later HB39.out)).mono ?_; rintro e w' ⟨rfl, hw'⟩; obtain rfl : w9 = w' := hw'.symm) | (go_at_call 20; refine (rtail_any ys _ (by have := HYL.out; omega) HY.out).mono ?_; rintro e w10 ⟨rfl, hb10⟩; have HB10 : Hid (Below w9.heap.size w9 w10) := hb10; have hcvb := conv_str (cap := cap3) (HR3.out.later (HB39.out.trans (hb10.mono HB39.out.size))); clear hb10))
  go_ret
  exact ⟨ret_bool (by simp), HB9.out.trans (HB10.out.mono HB9.out.size)⟩

theorem utfTells_walk (a0 a1 : Option Addr) (len0 cap0 len1 cap1 n0 n1 : Nat) (xs ys : List Int) (c : Int) (w : World) (hc0 : len0 ≤ cap0) (hc1 : len1 ≤ cap1)
    (hn0 : n0 = min len0 300) (hn1 : n1 = min len1 1000) (h0 : Rd .i32 w a0 n0 xs) (h1 : Rd .u8 w a1 n1 ys) (hy : ∀ y ∈ ys, 0 ≤ y ∧ y ≤ 255) (hz0 : a0 = none → cap0 = 0) (hz1 : a1 = none → cap1 = 0) :
    Calls Try.prog 3 #[.slice a0 len0 cap0, .slice a1 len1 cap1, .int .i32 c] w fun e w' => e = .returned (.bool true) ∧ Below w.heap.size w w' := by
  cases ho : oks xs with
  | true =>
    cases hd : dec ys with
    | some cs => exact utfTells_ok_ok a0 a1 len0 cap0 len1 cap1 n0 n1 xs ys cs c w hc0 hc1 hn0 hn1 h0 h1 hy hz0 hz1 ho hd
    | none => exact utfTells_ok_bad a0 a1 len0 cap0 len1 cap1 n0 n1 xs ys c w hc0 hc1 hn0 hn1 h0 h1 hy hz0 hz1 ho hd
  | false =>
    cases hd : dec ys with
    | some cs => exact utfTells_bad_ok a0 a1 len0 cap0 len1 cap1 n0 n1 xs ys cs c w hc0 hc1 hn0 hn1 h0 h1 hy hz0 hz1 ho hd
    | none => exact utfTells_bad_bad a0 a1 len0 cap0 len1 cap1 n0 n1 xs ys c w hc0 hc1 hn0 hn1 h0 h1 hy hz0 hz1 ho hd
end Go.Proofs.Ytdoflmgdmcmmfaa
