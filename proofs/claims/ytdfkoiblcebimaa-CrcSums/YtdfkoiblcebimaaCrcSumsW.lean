/- The walk of CrcSums: whatever the bytes and the sum: true. -/
import Derived.Test.YtdfkoiblcebimaaCrcR
namespace Go.Proofs.Ytdfkoiblcebimaa
open Go.RowKit
set_option linter.unusedVariables false

set_option maxRecDepth 100000 in
set_option maxHeartbeats 4000000 in
theorem crcSums_walk (a0 : Option Addr) (len0 cap0 n : Nat) (xs : List Int) (s : Nat) (w : World) (hc0 : len0 ≤ cap0) (hn : n = min len0 2000) (hr : Rd .u8 w a0 n xs) (hb : ∀ y ∈ xs, 0 ≤ y ∧ y ≤ 255) (hz : a0 = none → cap0 = 0) (hs : s < 4294967296) :
    Calls Try.prog 3 #[.slice a0 len0 cap0, .int .u32 s] w fun e w' => e = .returned (.bool true) ∧ Below w.heap.size w w' := by
  obtain ⟨i0, hi, hzz0, hzz1, hzz2⟩ := info_parts info_u8
  have HR : Hid (Rd .u8 w a0 n xs) := hr
  have HY : Hid (∀ y ∈ xs, 0 ≤ y ∧ y ≤ 255) := hb
  have HL : Hid (xs.length = n) := hr.1
  have HZ : Hid (a0 = none → cap0 = 0) := hz
  have hmin := min_run len0 n 2000 (by omega)
  have hcut := cut_bytes a0 len0 cap0 n (by omega)
  have hn2 : n ≤ 2000 := by omega
  clear hr hb hz hn
  go_enter Try.func3, Try.ntmps3
  go_wp2_with fail
  refine (shown_any _).mono ?_
  rintro e w1 ⟨rfl, hb1⟩
  have HB1 : Hid (Below w.heap.size w w1) := hb1
  clear hb1
  go_wp2_with (at_builtin; refine wpList_append_rd rfl (.tmp 15) (.tmp 16) 22 rfl w1.heap.size 5 i0 (.int .u8 0) 1 Try.underlying22 hi hzz0 hzz1 hzz2 rfl _ 0 [] rfl (own_none (w := w1) w1.heap.size 5 (Nat.le_refl _) _ rfl) a0 n cap0 .u8 xs rfl ((HR.out.later HB1.out).later ((Below.refl _ w1).alloc (Nat.le_refl _) _)) HZ.out ?h63 ?hby ?hbase ?_)
  case h63 => unfold maxLen; omega
  case hby => omega
  case hbase => simp
  intro v2 w2 hown2 hgrow2
  have HB2 : Hid (Below w1.heap.size w1 w2) := ((Below.refl _ w1).alloc (Nat.le_refl _) _).grown hgrow2 (by simp) (fun k hk => ((own_none (w := w1) w1.heap.size 5 (Nat.le_refl _) _ rfl).lt k hk).1)
  have hown2' : w2.ownsRow w1.heap.size 5 1 v2 n (xs.map (Value.int .u8)) := by simpa using hown2
  obtain ⟨a2, cap2, hv2, hc2, hm2, hr2⟩ := rd_own hown2'
  subst hv2
  have HR2 : Hid (Rd .u8 w2 a2 n xs) := hr2
  have HBW2 : Hid (Below w.heap.size w w2) := HB1.out.trans (HB2.out.mono HB1.out.size)
  clear hown2 hown2' hgrow2 hr2 hmin hcut
  go_wp2_with fail
  refine (sum_any xs a2 n cap2 _ HY.out HR2.out (by omega)).mono ?_
  rintro e w3 ⟨rfl, hb3⟩
  have HR3 : Hid (Rd .u8 w3 a2 n xs) := HR2.out.later hb3
  have HBW3 : Hid (Below w.heap.size w w3) := HBW2.out.trans (hb3.mono HBW2.out.size)
  clear hb3
  go_wp2_with fail
  refine (update_any s xs a2 n cap2 _ hs HY.out HR3.out (by omega)).mono ?_
  rintro e w4 ⟨rfl, hb4⟩
  have HBW4 : Hid (Below w.heap.size w w4) := HBW3.out.trans (hb4.mono HBW3.out.size)
  have hcv := conv_str (cap := cap2) (HR3.out.later hb4)
  have hcv0 := conv_str (cap := cap0) (HR.out.later HBW4.out)
  clear hb4
  go_wp2_with fail
  refine (refSum_any xs _ HY.out (by have := HL.out; omega)).mono ?_
  rintro e w' ⟨rfl, hw'⟩
  obtain rfl : w4 = w' := hw'.symm
  go_wp2_with fail
  refine (refUpdate_any s xs _ hs HY.out (by have := HL.out; omega)).mono ?_
  rintro e w' ⟨rfl, hw'⟩
  obtain rfl : w4 = w' := hw'.symm
  go_wp2
  go_ret
  exact ⟨rfl, HBW4.out⟩
end Go.Proofs.Ytdfkoiblcebimaa
