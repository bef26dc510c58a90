/- The walk of PackBack: whatever the number, the text and the bytes behind: true. -/
import Derived.Test.YtefikaldfbidkaaPackE
namespace Go.Proofs.Ytefikaldfbidkaa
open Go.RowKit
set_option linter.unusedVariables false

theorem and_65535 (n : Int) : bits .and .i64 n 65535 = n % 65536 := and_low n 65535 16 (by decide) (by decide)

set_option maxHeartbeats 2000000 in
theorem packBack_walk (v : Int) (s : ByteArray) (a2 : Option Addr) (len2 cap2 n2 : Nat) (ms : List Int) (at' : Int) (w : World) (h0 : 0 ≤ v) (h1 : v ≤ 18446744073709551615) (hs : s.size ≤ 9223372036854775807)
    (hc2 : len2 ≤ cap2) (hn2 : n2 = min len2 100) (hr2 : Rd .u8 w a2 n2 ms) (hb2 : ∀ y ∈ ms, 0 ≤ y ∧ y ≤ 255) (hz2 : a2 = none → cap2 = 0) :
    Calls Try.prog 5 #[.int .u64 v, .string s, .slice a2 len2 cap2, .int .i64 at'] w fun e w' => e = .returned (.bool true) ∧ Below w.heap.size w w' := by
  obtain ⟨i0, hi, hzz0, hzz1, hzz2⟩ := info_parts info_u8
  obtain ⟨n0, hn0⟩ : ∃ n0, n0 = min s.size 1000 := ⟨_, rfl⟩
  have hmin := min_run s.size n0 1000 (by omega)
  have hcut := str_cut s s.size n0 1000 rfl (by omega) (by omega)
  have hmin2 := min_run len2 n2 100 (by omega)
  have hcut2 := cut_bytes a2 len2 cap2 n2 (by omega)
  obtain ⟨ts, hts⟩ : ∃ ts, ts = (nums s).take n0 := ⟨_, rfl⟩
  have HRT : Hid (∀ y ∈ ts, 0 ≤ y ∧ y ≤ 255) := by rw [hts]; exact fun y hy => nums_rng s y (List.mem_of_mem_take hy)
  have hlt : ts.length ≤ 1000 := by rw [hts]; simp; omega
  rw [← hts] at hcut
  have hn100 : n2 ≤ 100 := by omega
  have HR2 : Hid (Rd .u8 w a2 n2 ms) := hr2
  have HY2 : Hid (∀ y ∈ ms, 0 ≤ y ∧ y ≤ 255) := hb2
  have HZ2 : Hid (a2 = none → cap2 = 0) := hz2
  have HL2 : Hid (ms.length = n2) := hr2.1
  have hand := and_65535 at'
  obtain ⟨A, hA⟩ : ∃ A, A = pk v := ⟨_, rfl⟩
  have hAl : 1 ≤ A.length ∧ A.length ≤ 10 := by rw [hA]; exact pk_len v
  have HAR : Hid (∀ y ∈ A, 0 ≤ y ∧ y ≤ 255) := by rw [hA]; exact pk_rng v h0 h1
  have HA : Hid (A = pk v) := hA
  obtain ⟨B, hB⟩ : ∃ B, B = pt ts := ⟨_, rfl⟩
  have hBl : 1 ≤ B.length ∧ B.length ≤ 2000 := by rw [hB, pt_len]; have := pk_len (ts.length : Nat); omega
  have HBR : Hid (∀ y ∈ B, 0 ≤ y ∧ y ≤ 255) := by
    rw [hB]; intro y hy
    rcases List.mem_append.1 hy with h | h
    · exact pk_rng _ (by omega) (by omega) y h
    · exact HRT.out y h
  have HB : Hid (B = pt ts) := hB
  obtain ⟨hA1, hA2⟩ := hAl
  obtain ⟨hB1, hB2⟩ := hBl
  obtain ⟨p, hp⟩ : ∃ p : Nat, (p : Int) = at' % 65536 % (A.length : Nat) := ⟨(at' % 65536 % (A.length : Nat)).toNat, Int.toNat_of_nonneg (Int.emod_nonneg _ (by omega))⟩
  have hpl : p < A.length := by have := Int.emod_lt_of_pos (at' % 65536) (show (0 : Int) < (A.length : Nat) by omega); omega
  obtain ⟨q, hq⟩ : ∃ q : Nat, (q : Int) = at' % 65536 % (B.length : Nat) := ⟨(at' % 65536 % (B.length : Nat)).toNat, Int.toNat_of_nonneg (Int.emod_nonneg _ (by omega))⟩
  have hql : q < B.length := by have := Int.emod_lt_of_pos (at' % 65536) (show (0 : Int) < (B.length : Nat) by omega); omega
  have hp' := hp.symm
  have hq' := hq.symm
  have hneA : (A.length : Int) ≠ 0 := by omega
  have hneB : (B.length : Int) ≠ 0 := by omega
  have HGA : Hid (ga (A ++ ms) = (v, (A.length : Int), true)) := by rw [hA]; exact ga_some _ _ _ (gt_back v ms h0 h1)
  have HGB : Hid (ta (B ++ ms) = (ts, (B.length : Int), true)) := by rw [hB]; exact ta_some _ _ _ (tx_back ts ms (by omega))
  have HGP : Hid (ga (A.take p) = (0, 0, false)) := by show ga _ = _; rw [hA] at hpl ⊢; exact ga_none _ (gt_cut v p hpl)
  have HGQ : Hid (ta (B.take q) = ([], 0, false)) := by show ta _ = _; rw [hB] at hql ⊢; exact ta_none _ (tx_cut ts q (by omega) hql)
  clear hn0 hts hn2 hr2 hb2 hz2 hA hB hp hq
  go_enter Try.func5, Try.ntmps5
  go_wp2_with (first | (go_at_call 9; refine (shown_any _).mono ?_; rintro e w1 ⟨rfl, hb1⟩; have HB1 : Hid (Below w.heap.size w w1) := hb1; clear hb1))
  refine (put_any none 0 0 [] v _ h0 h1 (rd_nil _ _) (fun _ => rfl) (by omega)).mono ?_
  rw [← HA.out, List.nil_append, Nat.zero_add]
  rintro e w2 ⟨hb, a3, cap3, rfl, hc3, hm3, hr3, hz3⟩
  have HB2 : Hid (Below w.heap.size w w2) := HB1.out.trans (hb.mono HB1.out.size)
  have HR3 : Hid (Rd .u8 w2 a3 A.length A) := hr3
  have HZ3 : Hid (a3 = none → cap3 = 0) := hz3
  clear hb hr3 hz3
  go_wp2_with fail
  refine (puttext_any none 0 0 [] ts _ (by omega) HRT.out (rd_nil _ _) (fun _ => rfl) (by omega)).mono ?_
  rw [← HB.out, List.nil_append, Nat.zero_add]
  rintro e w3 ⟨hb, a4, cap4, rfl, hc4, hm4, hr4, hz4⟩
  have HB3 : Hid (Below w.heap.size w w3) := HB2.out.trans (hb.mono HB2.out.size)
  have HR3' : Hid (Rd .u8 w3 a3 A.length A) := HR3.out.later hb
  have HR4 : Hid (Rd .u8 w3 a4 B.length B) := hr4
  have HZ4 : Hid (a4 = none → cap4 = 0) := hz4
  clear hb hr4 hz4 HR3
  go_wp2_with (at_builtin; refine wpList_append_rd rfl (.tmp 53) (.tmp 54) 22 rfl w3.heap.size 5 i0 (.int .u8 0) 1 Try.underlying22 hi hzz0 hzz1 hzz2 rfl _ 0 [] rfl (own_none (w := w3) w3.heap.size 5 (Nat.le_refl _) _ rfl) a3 A.length cap3 .u8 A rfl (HR3'.out.later ((Below.refl _ w3).alloc (Nat.le_refl _) _)) HZ3.out ?h63 ?hby ?hbase ?_)
  case h63 => unfold maxLen; omega
  case hby => omega
  case hbase => simp
  intro v5 w5 hown5 hgrow5
  have HB5 : Hid (Below w3.heap.size w3 w5) := ((Below.refl _ w3).alloc (Nat.le_refl _) _).grown hgrow5 (by simp) (fun k hk => ((own_none (w := w3) w3.heap.size 5 (Nat.le_refl _) _ rfl).lt k hk).1)
  have HO5 : Hid (w5.ownsRow w3.heap.size 5 1 v5 A.length (A.map (Value.int .u8))) := by show World.ownsRow _ _ _ _ _ _ _; simpa using hown5
  clear hown5 hgrow5
  go_wp2_with (at_builtin; refine wpList_append_rd rfl (.tmp 55) (.tmp 56) 22 rfl w3.heap.size 5 i0 (.int .u8 0) 1 Try.underlying22 hi hzz0 hzz1 hzz2 rfl _ A.length _ rfl HO5.out a2 n2 cap2 .u8 ms rfl (HR2.out.later (HB3.out.trans (HB5.out.mono HB3.out.size))) HZ2.out ?h63 ?hby ?hbase ?_)
  case h63 => unfold maxLen; omega
  case hby => omega
  case hbase => exact HB5.out.size
  intro v6 w6 hown6 hgrow6
  have HB6 : Hid (Below w3.heap.size w3 w6) := HB5.out.grown hgrow6 HB5.out.size (fun k hk => (HO5.out.lt k hk).1)
  have hown6' : w6.ownsRow w3.heap.size 5 1 v6 (A.length + n2) ((A ++ ms).map (Value.int .u8)) := by simpa using hown6
  obtain ⟨a6, cap6, rfl, hc6, hm6, hr6⟩ := rd_own hown6'
  have HR6 : Hid (Rd .u8 w6 a6 (A.length + n2) (A ++ ms)) := hr6
  clear hown6 hown6' hgrow6 hr6 HO5 HB5
  go_wp2_with fail
  refine (get_any (A ++ ms) _ _ _ _ (fun y hy => (List.mem_append.1 hy).elim (HAR.out y) (HY2.out y)) HR6.out (by omega)).mono ?_
  rw [HGA.out]
  rintro e w' ⟨rfl, hw'⟩
  obtain rfl : w6 = w' := hw'.symm
  have HW6 : Hid (Below w.heap.size w w6) := HB3.out.trans (HB6.out.mono HB3.out.size)
  have HR46 : Hid (Rd .u8 w6 a4 B.length B) := HR4.out.later HB6.out
  have HR36 : Hid (Rd .u8 w6 a3 A.length A) := HR3'.out.later HB6.out
  clear HR6 HB6 HR4 HR3' hc6 hm6
  go_wp2_with (at_builtin; refine wpList_append_rd rfl (.tmp 63) (.tmp 64) 22 rfl w6.heap.size 5 i0 (.int .u8 0) 1 Try.underlying22 hi hzz0 hzz1 hzz2 rfl _ 0 [] rfl (own_none (w := w6) w6.heap.size 5 (Nat.le_refl _) _ rfl) a4 B.length cap4 .u8 B rfl (HR46.out.later ((Below.refl _ w6).alloc (Nat.le_refl _) _)) HZ4.out ?h63 ?hby ?hbase ?_)
  case h63 => unfold maxLen; omega
  case hby => omega
  case hbase => simp
  intro v7 w7 hown7 hgrow7
  have HB7 : Hid (Below w6.heap.size w6 w7) := ((Below.refl _ w6).alloc (Nat.le_refl _) _).grown hgrow7 (by simp) (fun k hk => ((own_none (w := w6) w6.heap.size 5 (Nat.le_refl _) _ rfl).lt k hk).1)
  have HO7 : Hid (w7.ownsRow w6.heap.size 5 1 v7 B.length (B.map (Value.int .u8))) := by show World.ownsRow _ _ _ _ _ _ _; simpa using hown7
  clear hown7 hgrow7
  go_wp2_with (at_builtin; refine wpList_append_rd rfl (.tmp 65) (.tmp 66) 22 rfl w6.heap.size 5 i0 (.int .u8 0) 1 Try.underlying22 hi hzz0 hzz1 hzz2 rfl _ B.length _ rfl HO7.out a2 n2 cap2 .u8 ms rfl (HR2.out.later (HW6.out.trans (HB7.out.mono HW6.out.size))) HZ2.out ?h63 ?hby ?hbase ?_)
  case h63 => unfold maxLen; omega
  case hby => omega
  case hbase => exact HB7.out.size
  intro v8 w8 hown8 hgrow8
  have HB8 : Hid (Below w6.heap.size w6 w8) := HB7.out.grown hgrow8 HB7.out.size (fun k hk => (HO7.out.lt k hk).1)
  have hown8' : w8.ownsRow w6.heap.size 5 1 v8 (B.length + n2) ((B ++ ms).map (Value.int .u8)) := by simpa using hown8
  obtain ⟨a8, cap8, rfl, hc8, hm8, hr8⟩ := rd_own hown8'
  have HR8 : Hid (Rd .u8 w8 a8 (B.length + n2) (B ++ ms)) := hr8
  clear hown8 hown8' hgrow8 hr8 HO7 HB7
  go_wp2_with fail
  refine (text_any (B ++ ms) _ _ _ _ (fun y hy => (List.mem_append.1 hy).elim (HBR.out y) (HY2.out y)) HR8.out hc8 (by omega)).mono ?_
  rw [HGB.out]
  rintro e w' ⟨rfl, hw'⟩
  obtain rfl : w8 = w' := hw'.symm
  have HW8 : Hid (Below w.heap.size w w8) := HW6.out.trans (HB8.out.mono HW6.out.size)
  have HR48 : Hid (Rd .u8 w8 a4 B.length B) := HR46.out.later HB8.out
  have HR38 : Hid (Rd .u8 w8 a3 A.length A) := HR36.out.later HB8.out
  have hcp := cut_bytes a3 A.length cap3 p (by omega)
  have hcq := cut_bytes a4 B.length cap4 q (by omega)
  clear HR8 HB8 HR46 HR36 hc8 hm8
  go_wp2_with fail
  refine (get_any (A.take p) _ _ _ _ (fun y hy => HAR.out y (List.mem_of_mem_take hy)) (HR38.out.take p (by omega)) (by omega)).mono ?_
  rw [HGP.out]
  rintro e w' ⟨rfl, hw'⟩
  obtain rfl : w8 = w' := hw'.symm
  go_wp2_with fail
  refine (text_any (B.take q) _ _ _ _ (fun y hy => HBR.out y (List.mem_of_mem_take hy)) (HR48.out.take q (by omega)) (by omega) (by omega)).mono ?_
  rw [HGQ.out]
  rintro e w' ⟨rfl, hw'⟩
  obtain rfl : w8 = w' := hw'.symm
  go_wp2
  go_ret
  exact ⟨ret_bool (by simp), HW8.out⟩
end Go.Proofs.Ytefikaldfbidkaa
