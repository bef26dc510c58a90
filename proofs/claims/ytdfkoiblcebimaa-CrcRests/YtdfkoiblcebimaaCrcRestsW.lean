/- The walk of CrcRests: whatever the bytes: true. -/
import Derived.Test.YtdfkoiblcebimaaCrcN
namespace Go.Proofs.Ytdfkoiblcebimaa
open Go.RowKit
set_option linter.unusedVariables false

theorem mk_4 (w : World) : (Instr.makeSlice 22 (.int .i64 4) (.int .i64 4)).run Try.prog w = .ok (.slice (some ⟨w.heap.size, 0, none⟩) 4 4) (w.alloc (.cells #[.int .u8 0, .int .u8 0, .int .u8 0, .int .u8 0] 5)) := by kernel_rfl
set_option maxRecDepth 100000 in
set_option maxHeartbeats 4000000 in
theorem crcRests_walk (a0 : Option Addr) (len0 cap0 n : Nat) (xs : List Int) (w : World) (hc0 : len0 ≤ cap0) (hn : n = min len0 2000) (hr : Rd .u8 w a0 n xs) (hb : ∀ y ∈ xs, 0 ≤ y ∧ y ≤ 255) (hz : a0 = none → cap0 = 0) :
    Calls Try.prog 7 #[.slice a0 len0 cap0] w fun e w' => e = .returned (.bool true) ∧ Below w.heap.size w w' := by
  obtain ⟨i0, hi, hzz0, hzz1, hzz2⟩ := info_parts info_u8
  have HR : Hid (Rd .u8 w a0 n xs) := hr
  have HY : Hid (∀ y ∈ xs, 0 ≤ y ∧ y ≤ 255) := hb
  have HL : Hid (xs.length = n) := hr.1
  have HZ : Hid (a0 = none → cap0 = 0) := hz
  have hmin := min_run len0 n 2000 (by omega)
  have hcut := cut_bytes a0 len0 cap0 n (by omega)
  have hn2 : n ≤ 2000 := by omega
  have HU1 := up_append 0 xs (four (up 0 xs)) (by decide) hb
  have hSl := up_lt 0 xs
  obtain ⟨S, hS⟩ : ∃ S, S = up 0 xs := ⟨_, rfl⟩
  rw [← hS] at HU1 hSl
  rw [up_rest S hSl] at HU1
  have HU1' : Hid (up 0 (xs ++ four S) = 558161692) := HU1
  have HS : Hid (up 0 xs = S) := hS.symm
  clear hr hb hz hn HU1 hS
  go_enter Try.func7, Try.ntmps7
  go_wp2_with fail
  refine (shown_any _).mono ?_
  rintro e w1 ⟨rfl, hb1⟩
  have HB1 : Hid (Below w.heap.size w w1) := hb1
  clear hb1
  go_wp2_with fail
  refine (sum_any xs a0 n cap0 _ HY.out (HR.out.later HB1.out) (by omega)).mono ?_
  rw [HS.out]
  rintro e w2 ⟨rfl, hb2⟩
  have HB2 : Hid (Below w.heap.size w w2) := HB1.out.trans (hb2.mono HB1.out.size)
  clear hb2 hmin hcut
  go_wp2_with (at_builtin; refine wpList_append_rd rfl (.tmp 14) (.tmp 15) 22 rfl w2.heap.size 5 i0 (.int .u8 0) 1 Try.underlying22 hi hzz0 hzz1 hzz2 rfl _ 0 [] rfl (own_none (w := w2) w2.heap.size 5 (Nat.le_refl _) _ rfl) a0 n cap0 .u8 xs rfl ((HR.out.later HB2.out).later ((Below.refl _ w2).alloc (Nat.le_refl _) _)) HZ.out ?h63 ?hby ?hbase ?_)
  case h63 => unfold maxLen; omega
  case hby => omega
  case hbase => simp
  intro v3 w3 hown3 hgrow3
  have HB3 : Hid (Below w2.heap.size w2 w3) := ((Below.refl _ w2).alloc (Nat.le_refl _) _).grown hgrow3 (by simp) (fun k hk => ((own_none (w := w2) w2.heap.size 5 (Nat.le_refl _) _ rfl).lt k hk).1)
  have HO3 : Hid (w3.ownsRow w2.heap.size 5 1 v3 n (xs.map (Value.int .u8))) := by show World.ownsRow _ _ _ _ _ _ _; simpa using hown3
  have hsz3 := HB3.out.size
  clear hown3 hgrow3
  go_wp2_with (at_builtin; refine wpList_append_own _ rfl (.tmp 16) (.tmp 28) 22 rfl w2.heap.size 5 i0 (.int .u8 0) 1 1 Try.underlying22 hi hzz0 hzz1 hzz2 rfl (by decide) _ _ _ rfl (HO3.out.alloc _) ⟨_, 0, none⟩ 4 4 ((four S).map (Value.int .u8)) rfl rfl (news_pre (rest := []) (heap_alloc_new _ _) (by rw [List.append_nil]; rfl)) ?hone ?h63 ?hby ?hbase ?_)
  case hone => simp [Value.oneCell', four]
  case h63 => unfold maxLen; omega
  case hby => omega
  case hbase => simp; omega
  intro v4 w4 hown4 hgrow4 _
  have HB4 : Hid (Below w2.heap.size w2 w4) := (HB3.out.alloc hsz3 _).grown hgrow4 (by simp; omega) (fun k hk => (HO3.out.lt k hk).1)
  have hown4' : w4.ownsRow w2.heap.size 5 1 v4 (n + 4) ((xs ++ four S).map (Value.int .u8)) := by simpa using hown4
  obtain ⟨a4, cap4, hv4, hc4, hm4, hr4⟩ := rd_own hown4'
  subst hv4
  have HR4 : Hid (Rd .u8 w4 a4 (n + 4) (xs ++ four S)) := hr4
  have HY4 : Hid (∀ y ∈ xs ++ four S, 0 ≤ y ∧ y ≤ 255) := fun y hy => (List.mem_append.1 hy).elim (HY.out y) (four_rng S hSl y)
  have HW4 : Hid (Below w.heap.size w w4) := HB2.out.trans (HB4.out.mono HB2.out.size)
  clear hown4 hown4' hgrow4 hr4 HO3 HB3 HB4 hsz3
  go_wp2_with fail
  refine (sum_any (xs ++ four S) a4 (n + 4) cap4 _ HY4.out HR4.out (by omega)).mono ?_
  rw [HU1'.out]
  rintro e w5 ⟨rfl, hb5⟩
  have HW5 : Hid (Below w.heap.size w w5) := HW4.out.trans (hb5.mono HW4.out.size)
  have HR5 : Hid (Rd .u8 w5 a4 (n + 4) (xs ++ four S)) := HR4.out.later hb5
  clear hb5
  have hmk := mk_4
  go_wp2_with fail
  refine (sum_any [0, 0, 0, 0] _ 4 4 _ (by simp) (rd_block w5 _ #[.int .u8 0, .int .u8 0, .int .u8 0, .int .u8 0] _ rfl _ rfl 4 rfl) (by omega)).mono ?_
  rw [up_noughts]
  rintro e w6 ⟨rfl, hb6⟩
  have HB6 : Hid (Below w5.heap.size w5 w6) := (((Below.refl _ w5).alloc (Nat.le_refl _) _).trans (hb6.mono (by simp)))
  have HW6 : Hid (Below w.heap.size w w6) := HW5.out.trans (HB6.out.mono HW5.out.size)
  obtain ⟨a6, hcut6, hr6⟩ := cut_from (HR5.out.later HB6.out) n (by omega) hc4
  have HR6 : Hid (Rd .u8 w6 a6 4 (four S)) := by
    show Rd _ _ _ _ _
    rw [show (xs ++ four S).drop n = four S by rw [← HL.out]; simp, show n + 4 - n = 4 by omega] at hr6
    exact hr6
  rw [show n + 4 - n = 4 by omega] at hcut6
  have HUR : Hid (up S (four S) = 558161692) := up_rest S hSl
  clear hb6 hr6 hmk
  go_wp2_with fail
  refine (update_any S (four S) a6 4 _ _ hSl (four_rng S hSl) HR6.out (by omega)).mono ?_
  rw [HUR.out]
  rintro e w7 ⟨rfl, hb7⟩
  have HW7 : Hid (Below w.heap.size w w7) := HW6.out.trans (hb7.mono HW6.out.size)
  clear hb7
  go_wp2
  go_ret
  exact ⟨rfl, HW7.out⟩
end Go.Proofs.Ytdfkoiblcebimaa
