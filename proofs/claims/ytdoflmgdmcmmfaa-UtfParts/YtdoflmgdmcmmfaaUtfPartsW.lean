/- The walk of UtfParts: whatever the characters and the cut: true. -/
import Derived.Test.YtdoflmgdmcmmfaaUtfR
namespace Go.Proofs.Ytdoflmgdmcmmfaa
open Go.RowKit
set_option linter.unusedVariables false

theorem rd_from {w : World} {a : Option Addr} {len n cap : Nat} {xs : List Int} {k : IntKind} (h : Rd k w a len xs) (hn : n ≤ len) (hc : len ≤ cap) :
    ∃ a' c', (∀ W, (Instr.slice 23 (.slice a len cap) (some (.int .i64 n)) none none).run Try.prog W = .ok (.slice a' (len - n) c') W) ∧ len - n ≤ c' ∧ c' ≤ cap ∧ Rd k w a' (len - n) (xs.drop n) := by
  have h0 : (0 : Int) ≤ (n : Int) := by omega
  have h1 : (n : Int) ≤ (len : Int) := by omega
  by_cases hz : len = 0
  · have hnz : n = 0 := by omega
    subst hz hnz
    have hx : xs = [] := by have := h.1; cases xs with
      | nil => rfl
      | cons _ _ => simp at this
    subst hx
    refine ⟨if cap = 0 then a else a.map (·.add 0), cap, fun W => ?_, by omega, by omega, ⟨rfl, fun hp => absurd hp (by omega)⟩⟩
    go_simp
  · obtain ⟨b, off, rfl, hcl⟩ := h.2 (by omega)
    by_cases hcn : cap = n
    · subst hcn
      refine ⟨some ⟨b, off, none⟩, 0, fun W => ?_, by omega, by omega, ⟨by have := h.1; simp; omega, fun hp => absurd hp (by omega)⟩⟩
      go_simp
    · refine ⟨some ⟨b, off + n, none⟩, cap - n, fun W => ?_, by omega, by omega, Rd.drop h.1 hcl hn⟩
      go_simp
      first | done | (by_cases hn0 : n = 0 <;> simp [hn0, Addr.add])

theorem rd_own2 {k : IntKind} {w : World} {B : Nat} {e : TypeId} {v : Value} {n : Nat} {xs : List Int} (h : w.ownsRow B e 1 v n (xs.map (Value.int k))) :
    ∃ a cap, v = .slice a n cap ∧ (a = none → cap = 0) ∧ Rd k w a n xs := by
  obtain ⟨a, cap, hv, _, _, hr⟩ := rd_own h
  refine ⟨a, cap, hv, fun ha => ?_, hr⟩
  rcases h.2 with ⟨h', _⟩ | ⟨g, cap', cur, h', _⟩
  · rw [hv] at h'; cases h'; rfl
  · rw [hv, ha] at h'; cases h'
theorem decode_ok2 (bs : List Int) (a : Option Addr) (len cap : Nat) (w : World) (cs : List Int) (hcap : len ≤ cap) (hm : cap ≤ 9223372036854775807) (hlen : len ≤ 100000000000) (hr : ∀ y ∈ bs, 0 ≤ y ∧ y ≤ 255) (hrd : Rd .u8 w a len bs) (hok : dec bs = some cs) :
    Calls Try.prog 14 #[.slice a len cap] w fun e w' => Below w.heap.size w w' ∧ ∃ a' cap', e = .returned (.tuple #[.slice a' cs.length cap', .int .i64 0]) ∧ (a' = none → cap' = 0) ∧ Rd .i32 w' a' cs.length cs := by
  refine (decode_any bs a len cap w hcap hm hlen hr hrd).mono fun e w' ⟨hb, h⟩ => ⟨hb, ?_⟩
  rcases h with ⟨h, _⟩ | ⟨cs', v, hd, _, he, ho⟩
  · rw [hok] at h; cases h
  · rw [hok] at hd; cases hd
    obtain ⟨a', cap', rfl, h1, h3⟩ := rd_own2 ho
    exact ⟨a', cap', he, h1, h3⟩

set_option maxHeartbeats 2000000 in
theorem utfParts_walk (a0 : Option Addr) (len0 cap0 n0 : Nat) (xs : List Int) (at' : Int) (w : World) (hc0 : len0 ≤ cap0) (hn0 : n0 = min len0 100) (h0 : Rd .i32 w a0 n0 xs) :
    Calls Try.prog 5 #[.slice a0 len0 cap0, .int .i64 at'] w fun e w' => e = .returned (.bool true) ∧ Below w.heap.size w w' := by
  obtain ⟨i0, hi, hzz0, hzz1, hzz2⟩ := info_parts info_i32
  have hm0 := min_run len0 n0 100 (by omega)
  have hs0 := cut_runes a0 len0 cap0 n0 (by omega)
  have hl0 : n0 ≤ 100 := by omega
  have H0 : Hid (Rd .i32 w a0 n0 xs) := h0
  have HL : Hid (xs.length = n0) := h0.1
  clear hn0 h0
  by_cases ho : oks xs = true
  · have HO : Hid (oks xs = true) := ho
    obtain ⟨E, hE⟩ : ∃ E, E = encs xs := ⟨_, rfl⟩
    have HE : Hid (E = encs xs) := hE
    have hEl : E.length ≤ 400 := by rw [hE]; have := encs_len xs; have := HL.out; omega
    have HER : Hid (∀ y ∈ E, 0 ≤ y ∧ y ≤ 255) := by rw [hE]; exact encs_rng xs ho
    have hand := and_1023 at'
    obtain ⟨K, hK⟩ : ∃ K : Nat, at' % 1024 % ((E.length : Int) + 1) = (K : Int) := ⟨(at' % 1024 % ((E.length : Int) + 1)).toNat, by
      have := Int.emod_nonneg (at' % 1024) (show (E.length : Int) + 1 ≠ 0 by omega); omega⟩
    have hKl : K ≤ E.length := by have := Int.emod_lt_of_pos (at' % 1024) (show 0 < (E.length : Int) + 1 by omega); omega
    have hat0 : 0 ≤ at' % 1024 := by omega
    have hat1 : at' % 1024 ≤ 1023 := by omega
    obtain ⟨l1, l2, hxs, ht3, htk, he1, he2, ho1, ho2⟩ := cut_parts xs ho K (by rw [← hE]; exact hKl)
    rw [← hE] at ht3 htk he1 he2
    obtain ⟨T, hT⟩ : ∃ T, T = tail8 (E.take K) := ⟨_, rfl⟩
    have HT : Hid (T = tail8 (E.take K)) := hT
    rw [← hT] at ht3 htk he1 he2
    have HXS : Hid (xs = l1 ++ l2) := hxs
    have HE1 : Hid (E.take (K - T) = encs l1) := he1
    have HE2 : Hid (E.drop (K - T) = encs l2) := he2
    have HO1 : Hid (oks l1 = true) := ho1
    have HO2 : Hid (oks l2 = true) := ho2
    have HN : Hid (l1.length + l2.length = n0) := by show _ = _; rw [← HL.out, hxs]; simp
    have hll1 : l1.length ≤ 100 := by have := HN.out; omega
    have hll2 : l2.length ≤ 100 := by have := HN.out; omega
    have hKT : (((K - T : Nat) : Nat) : Int) = (K : Int) - (T : Int) := by omega
    have HKT : Hid ((((K - T : Nat) : Nat) : Int) = (K : Int) - (T : Int)) := hKT
    clear ho hE hxs he1 he2 ho1 ho2 hT hKT
    go_enter Try.func5, Try.ntmps5
    go_wp2_with (first | (go_at_call 9; refine (shown_any _).mono ?_; rintro e w1 ⟨rfl, hb1⟩; have HB1 : Hid (Below w.heap.size w w1) := hb1; clear hb1))
    refine (encode_ok xs _ _ _ _ (by omega) (H0.out.later HB1.out) HO.out).mono ?_
    rw [← HE.out]
    rintro e w2 ⟨hb2, a2, cap2, rfl, hc2, hm2, hr2⟩
    have HB2 : Hid (Below w.heap.size w w2) := HB1.out.trans (hb2.mono HB1.out.size)
    have HR2 : Hid (Rd .u8 w2 a2 E.length E) := hr2
    have hcutK := cut_bytes a2 E.length cap2 K (by omega)
    have hcutT := cut_bytes a2 E.length cap2 (K - T) (by omega)
    rw [HKT.out] at hcutT
    obtain ⟨a3, cap3, hcutD, hc3, hm3, hr3⟩ := rd_from (n := K - T) HR2.out (by omega) hc2
    rw [HKT.out] at hcutD
    have HR3 : Hid (Rd .u8 w2 a3 (E.length - (K - T)) (E.drop (K - T))) := hr3
    clear hb2 hr2 hr3
    go_wp2_with fail
    refine (tail_any (E.take K) _ _ _ _ (by omega) hm2 (fun y hy => HER.out y (List.mem_of_mem_take hy)) (HR2.out.take K hKl)).mono ?_
    rw [← HT.out]
    rintro e w' ⟨rfl, hw'⟩
    obtain rfl : w2 = w' := hw'.symm
    go_wp2_with fail
    refine (decode_ok2 (encs l1) _ _ _ _ l1 (by omega) hm2 (by omega) (encs_rng l1 HO1.out) (by have := HR2.out.take (K - T) (by omega); rw [HE1.out] at this; exact this) (dec_encs l1 HO1.out)).mono ?_
    rintro e w4 ⟨hb4, a4, cap4, rfl, hz4, hr4⟩
    have HB4 : Hid (Below w.heap.size w w4) := HB2.out.trans (hb4.mono HB2.out.size)
    have HB24 : Hid (Below w2.heap.size w2 w4) := hb4
    have HR4 : Hid (Rd .i32 w4 a4 l1.length l1) := hr4
    have HZ4 : Hid (a4 = none → cap4 = 0) := hz4
    clear hb4 hr4 hz4
    go_wp2_with fail
    refine (decode_ok2 (encs l2) _ _ _ _ l2 hc3 (by omega) (by omega) (encs_rng l2 HO2.out) (by have := HR3.out.later HB24.out; rw [HE2.out] at this; exact this) (dec_encs l2 HO2.out)).mono ?_
    rintro e w5 ⟨hb5, a5, cap5, rfl, hz5, hr5⟩
    have HB5 : Hid (Below w.heap.size w w5) := HB4.out.trans (hb5.mono HB4.out.size)
    have HR5 : Hid (Rd .i32 w5 a5 l2.length l2) := hr5
    have HR4' : Hid (Rd .i32 w5 a4 l1.length l1) := HR4.out.later hb5
    have HZ5 : Hid (a5 = none → cap5 = 0) := hz5
    clear hb5 hr5 hz5
    have HOA : Hid ((w5.alloc (.cells #[] 21)).ownsRow w5.heap.size 21 1 (.slice (some ⟨w5.heap.size, 0, none⟩) 0 0) 0 []) := own_none (w := w5) w5.heap.size 21 (Nat.le_refl _) _ rfl
    have HBA : Hid (∀ o : Obj, Below w5.heap.size w5 (w5.alloc o)) := fun o => (Below.refl _ w5).alloc (Nat.le_refl _) o
    go_wp2_with (first | (at_builtin; refine wpList_append_rd rfl (.tmp 68) (.tmp 69) 22 rfl w5.heap.size 21 i0 (.int .i32 0) 4 Try.underlying22 hi hzz0 hzz1 hzz2 rfl _ 0 [] rfl HOA.out a4 l1.length cap4 .i32 l1 rfl (HR4'.out.later (HBA.out _)) HZ4.out ?h63 ?hby ?hbase ?_))
    case h63 => unfold maxLen; omega
    case hby => omega
    case hbase => simp
    intro v6 w6 hown6 hgrow6
    have HG6 : Hid (Below w5.heap.size w5 w6) := below_own HOA.out hgrow6
    have HO6 : Hid (w6.ownsRow w5.heap.size 21 1 v6 l1.length (l1.map (Value.int .i32))) := by simpa [Hid] using hown6
    clear hown6 hgrow6
    go_wp2_with (first | (at_builtin; refine wpList_append_rd rfl (.tmp 70) (.tmp 71) 22 rfl w5.heap.size 21 i0 (.int .i32 0) 4 Try.underlying22 hi hzz0 hzz1 hzz2 rfl _ l1.length (l1.map (Value.int .i32)) rfl HO6.out a5 l2.length cap5 .i32 l2 rfl (HR5.out.later HG6.out) HZ5.out ?h63b ?hbyb ?hbaseb ?_))
    case h63b => unfold maxLen; omega
    case hbyb => omega
    case hbaseb => exact HG6.out.size
    intro v7 w7 hown7 hgrow7
    have HG7 : Hid (Below w5.heap.size w5 w7) := HG6.out.grown hgrow7 HG6.out.size (fun k hk => (HO6.out.lt k hk).1)
    have HB7 : Hid (Below w.heap.size w w7) := HB5.out.trans (HG7.out.mono HB5.out.size)
    have HO7 : ∃ a7 cap7, v7 = .slice a7 n0 cap7 ∧ n0 ≤ cap7 ∧ cap7 ≤ 9223372036854775807 ∧ Rd .i32 w7 a7 n0 xs := rd_own (by rw [HN.out] at hown7; rw [HXS.out]; simpa using hown7)
    clear hown7 hgrow7 HO6 HG6 HOA HBA
    obtain ⟨a7, cap7, hv7, _, _, hr7⟩ := HO7
    have HR7 : Hid (Rd .i32 w7 a7 n0 xs) := hr7
    clear hr7
    rw [hv7]
    clear hv7
    go_wp2_with (first | (go_at_call 16; refine (same_true _ _ n0 _ _ xs _ (by omega) HR7.out (H0.out.later HB7.out)).mono ?_; rintro e w8 ⟨rfl, hb8⟩; have HB8 : Hid (Below w7.heap.size w7 w8) := hb8; clear hb8))
    go_ret
    exact ⟨rfl, HB7.out.trans (HB8.out.mono HB7.out.size)⟩
  · have HO : Hid (oks xs = false) := by show oks xs = false; simpa using ho
    clear ho
    go_enter Try.func5, Try.ntmps5
    go_wp2_with (first | (go_at_call 9; refine (shown_any _).mono ?_; rintro e w1 ⟨rfl, hb1⟩; have HB1 : Hid (Below w.heap.size w w1) := hb1; clear hb1))
    refine (encode_bad xs _ _ _ _ (by omega) (H0.out.later HB1.out) HO.out).mono ?_
    rintro e w2 ⟨hb2, rfl⟩
    have HB2 : Hid (Below w.heap.size w w2) := HB1.out.trans (hb2.mono HB1.out.size)
    clear hb2
    go_wp2
    go_ret
    exact ⟨rfl, HB2.out⟩
end Go.Proofs.Ytdoflmgdmcmmfaa
