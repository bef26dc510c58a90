/- The walk of PackPuts: whatever the bytes, the number and the text: true. -/
import Derived.Test.YtefikaldfbidkaaPackR
namespace Go.Proofs.Ytefikaldfbidkaa
open Go.RowKit
set_option linter.unusedVariables false

set_option maxHeartbeats 4000000 in
theorem packPuts_walk (a0 : Option Addr) (len0 cap0 n0 : Nat) (zs : List Int) (v : Int) (s : ByteArray) (w : World) (h0 : 0 ≤ v) (h1 : v ≤ 18446744073709551615) (hs : s.size ≤ 9223372036854775807)
    (hc0 : len0 ≤ cap0) (hn0 : n0 = min len0 1000) (hr0 : Rd .u8 w a0 n0 zs) (hb0 : ∀ y ∈ zs, 0 ≤ y ∧ y ≤ 255) (hz0 : a0 = none → cap0 = 0) :
    Calls Try.prog 3 #[.slice a0 len0 cap0, .int .u64 v, .string s] w fun e w' => e = .returned (.bool true) ∧ Below w.heap.size w w' := by
  obtain ⟨i0, hi, hzz0, hzz1, hzz2⟩ := info_parts info_u8
  obtain ⟨ns, hns⟩ : ∃ ns, ns = min s.size 1000 := ⟨_, rfl⟩
  have hmin := min_run s.size ns 1000 (by omega)
  have hcut := str_cut s s.size ns 1000 rfl (by omega) (by omega)
  have hmin0 := min_run len0 n0 1000 (by omega)
  have hcut0 := cut_bytes a0 len0 cap0 n0 (by omega)
  obtain ⟨ts, hts⟩ : ∃ ts, ts = (nums s).take ns := ⟨_, rfl⟩
  have HRT : Hid (∀ y ∈ ts, 0 ≤ y ∧ y ≤ 255) := by rw [hts]; exact fun y hy => nums_rng s y (List.mem_of_mem_take hy)
  have hlt : ts.length ≤ 1000 := by rw [hts]; simp; omega
  rw [← hts] at hcut
  have hn1000 : n0 ≤ 1000 := by omega
  have HR0 : Hid (Rd .u8 w a0 n0 zs) := hr0
  have HY0 : Hid (∀ y ∈ zs, 0 ≤ y ∧ y ≤ 255) := hb0
  have HZ0 : Hid (a0 = none → cap0 = 0) := hz0
  have HL0 : Hid (zs.length = n0) := hr0.1
  clear hns hts hn0 hr0 hb0 hz0
  go_enter Try.func3, Try.ntmps3
  go_wp2_with (first | (go_at_call 9; refine (shown_any _).mono ?_; rintro e w1 ⟨rfl, hb1⟩; have HB1 : Hid (Below w.heap.size w w1) := hb1; clear hb1) | (at_builtin; refine wpList_append_rd rfl (.tmp 24) (.tmp 25) 22 rfl w1.heap.size 5 i0 (.int .u8 0) 1 Try.underlying22 hi hzz0 hzz1 hzz2 rfl _ 0 [] rfl (own_none (w := w1) w1.heap.size 5 (Nat.le_refl _) _ rfl) a0 n0 cap0 .u8 zs rfl ((HR0.out.later HB1.out).later ((Below.refl _ w1).alloc (Nat.le_refl _) _)) HZ0.out ?h63 ?hby ?hbase ?_))
  case h63 => unfold maxLen; omega
  case hby => omega
  case hbase => simp
  intro v2 w2 hown2 hgrow2
  have HG2 : Hid (Below w1.heap.size w1 w2) := ((Below.refl _ w1).alloc (Nat.le_refl _) _).grown hgrow2 (by simp) (fun k hk => ((own_none (w := w1) w1.heap.size 5 (Nat.le_refl _) _ rfl).lt k hk).1)
  have HB2 : Hid (Below w.heap.size w w2) := HB1.out.trans (HG2.out.mono HB1.out.size)
  have hown2' : w2.ownsRow w1.heap.size 5 1 v2 n0 (zs.map (Value.int .u8)) := by simpa using hown2
  obtain ⟨a2, cap2, hv2, hc2, hm2, hr2⟩ := rd_own hown2'
  subst hv2
  have HR2 : Hid (Rd .u8 w2 a2 n0 zs) := hr2
  have hroom := cut_room a2 n0 cap2 hc2
  clear hown2 hown2' hgrow2 hr2 HG2
  go_wp2_with fail
  refine (put_any a2 n0 n0 zs v _ h0 h1 HR2.out (rd_none HR2.out) (by omega)).mono ?_
  rintro e w3 ⟨hb3, a3, cap3, rfl, hc3, hm3, hr3, hz3⟩
  have HB3 : Hid (Below w.heap.size w w3) := HB2.out.trans (hb3.mono HB2.out.size)
  have HR23 : Hid (Rd .u8 w3 a2 n0 zs) := HR2.out.later hb3
  have HR3 : Hid (Rd .u8 w3 a3 (n0 + (pk v).length) (zs ++ pk v)) := hr3
  clear hb3 hr3 hz3 hc3 hm3
  go_wp2_with fail
  refine (puttext_any a2 n0 n0 zs ts _ (by omega) HRT.out HR23.out (rd_none HR23.out) (by omega)).mono ?_
  rintro e w4 ⟨hb4, a4, cap4, rfl, hc4, hm4, hr4, hz4⟩
  have HB4 : Hid (Below w.heap.size w w4) := HB3.out.trans (hb4.mono HB3.out.size)
  have HR04 : Hid (Rd .u8 w4 a0 n0 zs) := HR0.out.later HB4.out
  have HR24 : Hid (Rd .u8 w4 a2 n0 zs) := HR23.out.later hb4
  have HR34 : Hid (Rd .u8 w4 a3 (n0 + (pk v).length) (zs ++ pk v)) := HR3.out.later hb4
  have HR44 : Hid (Rd .u8 w4 a4 (n0 + (pt ts).length) (zs ++ pt ts)) := hr4
  have c0 := conv4 (cap := cap0) HR04.out
  have c3 := conv4 (cap := cap3) HR34.out
  clear hb4 hr4 hz4 hc4 hm4 HR23 HR3 HR2
  obtain ⟨c00, c01, c02, c03⟩ := c0
  obtain ⟨c30, c31, c32, c33⟩ := c3
  obtain ⟨nx, hnx⟩ : ∃ nx, nx = n0 + (pk v).length := ⟨_, rfl⟩
  obtain ⟨X, hX⟩ : ∃ X, X = zs ++ pk v := ⟨_, rfl⟩
  obtain ⟨ny, hny⟩ : ∃ ny, ny = n0 + (pt ts).length := ⟨_, rfl⟩
  obtain ⟨Y, hY⟩ : ∃ Y, Y = zs ++ pt ts := ⟨_, rfl⟩
  rw [← hnx, ← hX] at c30 c31 c32 c33 HR34
  rw [← hny, ← hY] at HR44
  have HX : Hid (X = zs ++ pk v) := hX
  have HY : Hid (Y = zs ++ pt ts) := hY
  rw [← hnx, ← hny]
  clear hX hnx hY hny c02 c03 c32 c33
  go_wp2
  go_region_with (go_at_call 12; refine (rput_any v zs _ h0 h1 (by have := HL0.out; omega)).mono ?_; rw [← HX.out]; rintro e w5 ⟨rfl, hb5⟩; have HB5 : Hid (Below w4.heap.size w4 w5) := below_undrew hb5; have c35 := conv_str (cap := cap3) (HR34.out.later HB5.out); clear hb5)
  all_goals
    clear c00 c01 c30 c31
    try clear c35
    have HW5 : Hid (Below w.heap.size w w5) := HB4.out.trans (HB5.out.mono HB4.out.size)
    obtain ⟨d00, d01, _, _⟩ := conv4 (cap := cap0) (HR04.out.later HB5.out)
    obtain ⟨d40, d41, _, _⟩ := conv4 (cap := cap4) (HR44.out.later HB5.out)
    go_wp2
    go_region_with (go_at_call 13; refine (rputtext_any zs ts _ (by have := HL0.out; omega) (by omega)).mono ?_; rw [← HY.out]; rintro e w6 ⟨rfl, hb6⟩; have HB6 : Hid (Below w5.heap.size w5 w6) := below_undrew hb6; have d46 := conv_str (cap := cap4) ((HR44.out.later HB5.out).later HB6.out); clear hb6)
  all_goals
    clear d00 d01 d40 d41
    try clear d46
    have HW6 : Hid (Below w.heap.size w w6) := HW5.out.trans (HB6.out.mono HW5.out.size)
    have f0 := conv_str (cap := cap0) ((HR04.out.later HB5.out).later HB6.out)
    have f2 := conv_str (cap := cap2) ((HR24.out.later HB5.out).later HB6.out)
    go_wp2_with fail
    refine (size_any v _ h0 h1).mono ?_
    rintro e w' ⟨rfl, hw'⟩
    obtain rfl : w6 = w' := hw'.symm
    go_wp2_with fail
    rw [← str_nil]
    refine (rput_any v [] _ h0 h1 (by simp)).mono ?_
    rw [List.nil_append]
    rintro e w7 ⟨rfl, hb7⟩
    have HB7 : Hid (Below w.heap.size w w7) := HW6.out.trans (hb7.mono HW6.out.size)
    have hszv := strOfNums_size (pk v)
    clear hb7
    go_wp2
    go_ret
    exact ⟨ret_bool (by simp), HB7.out⟩
end Go.Proofs.Ytefikaldfbidkaa
