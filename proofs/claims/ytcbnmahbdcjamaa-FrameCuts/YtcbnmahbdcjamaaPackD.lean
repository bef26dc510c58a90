/- The walks of number, Get, Text: the number or the text at the beginning, or none. -/
import Derived.Test.YtcbnmahbdcjamaaPackC
namespace Go.Proofs.Ytcbnmahbdcjamaa
open Go.RowKit
set_option linter.unusedVariables false

theorem pow_two (k : Nat) : (128 : Nat) ^ k = 2 ^ (7 * k) := by rw [Nat.pow_mul]
theorem or_part (v y : Int) (k : Nat) (hv0 : 0 ≤ v) (hv : v < 128 ^ k) (hy0 : 0 ≤ y) (hy : v + y * 128 ^ k < 18446744073709551616) : bits .or .u64 v (y * 128 ^ k) = v + y * 128 ^ k := by
  obtain ⟨a, rfl⟩ := Int.eq_ofNat_of_zero_le hv0
  obtain ⟨b, rfl⟩ := Int.eq_ofNat_of_zero_le hy0
  have ha : a < 128 ^ k := by exact_mod_cast hv
  have e : ((b : Int) * 128 ^ k) = ((b * 128 ^ k : Nat) : Int) := by rw [Int.natCast_mul, Int.natCast_pow]; rfl
  have hab : a + b * 128 ^ k < 18446744073709551616 := by rw [e] at hy; omega
  rw [e, bits_or_u64_nat a (b * 128 ^ k) (by omega) (by omega)]
  rw [pow_two] at ha ⊢
  rw [Nat.or_comm, Nat.mul_comm, ← Nat.two_pow_add_eq_or_of_lt ha b]
  omega
theorem shl_run (y : Int) (k : Nat) : IntKind.u64.wrap (y * 2 ^ (7 * k)) = (y * 128 ^ k) % 18446744073709551616 := by
  rw [IntKind.wrap_u64, Int.pow_mul]
  rfl
theorem high_all : ∀ n : Fin 256, bits .and .u8 (n.val : Int) 128 = if n.val < 128 then 0 else 128 := by decide +kernel
theorem high_low (x : Int) (h0 : 0 ≤ x) (h1 : x < 128) : bits .and .u8 x 128 = 0 := by
  have h := high_all ⟨x.toNat, by omega⟩
  simp only [Int.toNat_of_nonneg h0] at h
  rw [h, if_pos (by omega)]
theorem high_high (x : Int) (h0 : 128 ≤ x) (h1 : x ≤ 255) : bits .and .u8 x 128 = 128 := by
  have h := high_all ⟨x.toNat, by omega⟩
  simp only [Int.toNat_of_nonneg (show 0 ≤ x by omega)] at h
  rw [h, if_neg (by omega)]
theorem and8_127 (x : Int) (h0 : 0 ≤ x) (h1 : x ≤ 255) : bits .and .u8 x 127 = x % 128 := bits_mask .u8 8 (by decide) wraps_u8 7 (by decide) x h0 (by omega)

/-- What number answers. -/
def ga (bs : List Int) : Int × Int × Bool := match gt bs with
  | none => (0, 0, false)
  | some (v, n) => (v, n, true)
theorem ga_none (bs : List Int) (h : gt bs = none) : ga bs = (0, 0, false) := by unfold ga; rw [h]
theorem ga_some (bs : List Int) (v : Int) (n : Nat) (h : gt bs = some (v, n)) : ga bs = (v, (n : Int), true) := by unfold ga; rw [h]

/-- Where number stands: behind k bytes, which came to v. -/
def NumAt (bs : List Int) (k : Nat) (v : Int) : Prop :=
  (k ≤ 9 → 0 ≤ v ∧ v < 128 ^ k ∧ gt bs = (gtF (10 - k) (bs.drop k)).map fun p => (v + 128 ^ k * p.1, p.2 + k)) ∧ (10 ≤ k → gt bs = none)
theorem numAt_start (bs : List Int) : NumAt bs 0 0 := by
  refine ⟨fun _ => ⟨by omega, by simp, ?_⟩, fun h => by omega⟩
  show gtF 10 bs = _
  simp
theorem drop_at (bs : List Int) (k : Nat) (h : k < bs.length) : bs.drop k = bs.getD k 0 :: bs.drop (k + 1) := by
  rw [List.drop_eq_getElem_cons h]; simp [h]
theorem numAt_step (bs : List Int) (k : Nat) (v x S V : Int) (hk : k ≤ 9) (hl : k < bs.length) (h : NumAt bs k v) (hx : x = bs.getD k 0) (h0 : 128 ≤ x) (h1 : x ≤ 255)
    (hS : S = (x % 128 * 128 ^ k) % 18446744073709551616) (hV : V = bits .or .u64 v S) : NumAt bs (k + 1) V := by
  obtain ⟨a1, a2, a3⟩ := h.1 hk
  rw [drop_at bs k hl, ← hx, show 10 - k = (9 - k) + 1 by omega, gtF, if_neg (by omega)] at a3
  have hp := pow_pos k
  refine ⟨fun h9 => ?_, fun h10 => ?_⟩
  · have hm : (128 : Int) ^ k ≤ 128 ^ 8 := pow_mono k 8 (by omega)
    have hm' : (128 : Int) ^ 8 = 72057594037927936 := by decide
    have hb : x % 128 * 128 ^ k ≤ 127 * 128 ^ k := Int.mul_le_mul_of_nonneg_right (by omega) (by omega)
    have hb0 : 0 ≤ x % 128 * 128 ^ k := Int.mul_nonneg (by omega) (by omega)
    have hS' : S = x % 128 * 128 ^ k := by rw [hS]; omega
    rw [hS', or_part v (x % 128) k a1 a2 (by omega) (by omega)] at hV
    have hs := pow_s k
    refine ⟨by omega, by omega, ?_⟩
    rw [a3, Option.map_map]
    rw [show 10 - (k + 1) = 9 - k by omega]
    congr 1
    funext p
    simp only [Function.comp_apply, Prod.mk.injEq]
    refine ⟨?_, by omega⟩
    rw [hV, hs]
    have e1 : 128 ^ k * (x - 128 + 128 * p.1) = (x - 128) * 128 ^ k + 128 * 128 ^ k * p.1 := by
      rw [Int.mul_add, Int.mul_comm, ← Int.mul_assoc, Int.mul_comm (128 ^ k) 128]
    rw [e1, show x % 128 = x - 128 by omega]
    omega
  · rw [a3, show 9 - k = 0 by omega]
    rfl
theorem numAt_end (bs : List Int) (k n : Nat) (v : Int) (h : NumAt bs k v) (hn : n = min bs.length 10) (hk : k = n) : gt bs = none := by
  by_cases h9 : k ≤ 9
  · rw [(h.1 h9).2.2, List.drop_eq_nil_of_le (by omega), show 10 - k = (9 - k) + 1 by omega]
    rfl
  · exact h.2 (by omega)
theorem numAt_last (bs : List Int) (k : Nat) (v x : Int) (hk : k ≤ 9) (hl : k < bs.length) (h : NumAt bs k v) (hx : x = bs.getD k 0) (h0 : 0 ≤ x) (h1 : x < 128) :
    (((k : Int) = 9 ∧ 1 < x) ∨ ((k : Int) ≠ 0 ∧ x = 0) → gt bs = none) ∧ (¬ (((k : Int) = 9 ∧ 1 < x) ∨ ((k : Int) ≠ 0 ∧ x = 0)) → ∀ S V, S = (x % 128 * 128 ^ k) % 18446744073709551616 → V = bits .or .u64 v S → gt bs = some (V, k + 1)) := by
  obtain ⟨a1, a2, a3⟩ := h.1 hk
  rw [drop_at bs k hl, ← hx, show 10 - k = (9 - k) + 1 by omega, gtF, if_pos h1] at a3
  have hp := pow_pos k
  refine ⟨fun hc => ?_, fun hc S V hS hV => ?_⟩
  · rw [if_pos (by omega)] at a3
    exact a3
  · rw [if_neg (by omega)] at a3
    have hsum : v + x * 128 ^ k < 18446744073709551616 := by
      by_cases h9 : k = 9
      · subst h9
        have : (128 : Int) ^ 9 = 9223372036854775808 := by decide
        have hx1 : x ≤ 1 := by omega
        have : x * 128 ^ 9 ≤ 1 * 128 ^ 9 := Int.mul_le_mul_of_nonneg_right hx1 (by omega)
        omega
      · have hm : (128 : Int) ^ k ≤ 128 ^ 8 := pow_mono k 8 (by omega)
        have hm' : (128 : Int) ^ 8 = 72057594037927936 := by decide
        have : x * 128 ^ k ≤ 127 * 128 ^ k := Int.mul_le_mul_of_nonneg_right (by omega) (by omega)
        omega
    have hb0 : 0 ≤ x * 128 ^ k := Int.mul_nonneg (by omega) (by omega)
    rw [show x % 128 = x by omega] at hS
    have hS' : S = x * 128 ^ k := by rw [hS]; omega
    rw [hS', or_part v x k a1 a2 h0 hsum] at hV
    rw [a3, hV]
    simp
    exact ⟨Int.mul_comm _ _, by omega⟩

set_option maxHeartbeats 1000000 in
theorem number_any (bs : List Int) (a : Option Addr) (len cap : Nat) (w : World) (hr : ∀ y ∈ bs, 0 ≤ y ∧ y ≤ 255) (hrd : Rd .u8 w a len bs) (hm : len ≤ 9223372036854775807) :
    Calls Try.prog 154 #[.slice a len cap] w fun e w' => e = .returned (.tuple #[.int .u64 (ga bs).1, .int .i64 (ga bs).2.1, .bool (ga bs).2.2]) ∧ w' = w := by
  obtain ⟨n, hn⟩ : ∃ n, n = min len 10 := ⟨_, rfl⟩
  have hmin := min_run len n 10 (by omega)
  have hn10 : n ≤ 10 := by omega
  have hnl : n ≤ len := by omega
  have HL : Hid (bs.length = len) := hrd.1
  have HR : Hid (∀ y ∈ bs, 0 ≤ y ∧ y ≤ 255) := hr
  have HD : Hid (Rd .u8 w a len bs) := hrd
  have HN : Hid (n = min len 10) := hn
  obtain ⟨G, hG⟩ : ∃ G, G = ga bs := ⟨_, rfl⟩
  rw [← hG]
  have HG : Hid (G = ga bs) := hG
  clear hr hrd hn hG
  go_enter Try.func154, Try.ntmps154
  go_wp2
  go_loop [5, 11] (fun x5 x11 => ∃ (k : Nat) (v : Int), k ≤ n ∧ x11 = .int .i64 k ∧ x5 = .int .u64 v ∧ NumAt bs k v) (fun _ x11 => n - (intOf x11).toNat)
  case atStart => exact ⟨0, 0, by omega, rfl, rfl, numAt_start bs⟩
  case round =>
    obtain ⟨k, v, hk, hx11, hx5, hat⟩ := hrel
    subst hx11 hx5
    have HA : Hid (NumAt bs k v) := hat
    clear hat
    by_cases hlt : k < n
    · obtain ⟨b, off, rfl, hcl⟩ := HD.out.2 (by omega)
      have hcc := hcl k (by omega)
      obtain ⟨x, hxd⟩ : ∃ x, x = bs.getD k 0 := ⟨_, rfl⟩
      rw [← hxd] at hcc
      have hxr := HR.out x (by rw [hxd]; have := HL.out; simp [show k < bs.length by omega])
      have hx0 : 0 ≤ x := hxr.1
      have hx1 : x ≤ 255 := hxr.2
      have HX : Hid (x = bs.getD k 0) := hxd
      have hk9 : k ≤ 9 := by omega
      have hand := and8_127 x hx0 hx1
      obtain ⟨S, hSd⟩ : ∃ S, S = (x % 128 * 128 ^ k) % 18446744073709551616 := ⟨_, rfl⟩
      have hshl := shl_run (x % 128) k
      rw [← hSd] at hshl
      obtain ⟨V, hVd⟩ : ∃ V, V = bits .or .u64 v S := ⟨_, rfl⟩
      have hor : bits .or .u64 v S = V := hVd.symm
      have HS : Hid (S = (x % 128 * 128 ^ k) % 18446744073709551616) := hSd
      have HV : Hid (V = bits .or .u64 v S) := hVd
      have hlen : k < bs.length := by have := HL.out; omega
      clear hcl hxd hxr hSd hVd
      by_cases h128 : x < 128
      · have hhi := high_low x hx0 h128
        have HLast := numAt_last bs k v x hk9 hlen HA.out HX.out hx0 h128
        have HLS : Hid _ := HLast
        clear HLast
        by_cases hc : ((k : Int) = 9 ∧ 1 < x) ∨ ((k : Int) ≠ 0 ∧ x = 0)
        · have HC : Hid (((k : Int) = 9 ∧ 1 < x) ∨ ((k : Int) ≠ 0 ∧ x = 0)) := hc
          clear hc
          go_wp2_with (first | (go_at_call 176; refine (closes_any x k _ hx0 hx1 (by omega) (by omega)).mono ?_; rw [decide_eq_false (fun h => h HC.out)]; rintro e w' ⟨rfl, hw'⟩; obtain rfl : w = w' := hw'.symm))
          go_ret3
          exact ⟨by rw [HG.out, ga_none bs (HLS.out.1 HC.out)]; rfl, rfl⟩
        · have HC : Hid (¬ (((k : Int) = 9 ∧ 1 < x) ∨ ((k : Int) ≠ 0 ∧ x = 0))) := hc
          clear hc
          go_wp2_with (first | (go_at_call 176; refine (closes_any x k _ hx0 hx1 (by omega) (by omega)).mono ?_; rw [decide_eq_true HC.out]; rintro e w' ⟨rfl, hw'⟩; obtain rfl : w = w' := hw'.symm))
          go_ret3
          exact ⟨by rw [HG.out, ga_some bs V (k + 1) (HLS.out.2 HC.out S V HS.out HV.out)]; simp, rfl⟩
      · have hhi := high_high x (by omega) hx1
        have HST : Hid (NumAt bs (k + 1) V) := numAt_step bs k v x S V hk9 hlen HA.out HX.out (by omega) hx1 HS.out HV.out
        go_wp2
        go_round
        case rel => exact ⟨k + 1, V, by omega, by go_num, by rfl, HST.out⟩
        case measure => simp [intOf]; omega
    · go_wp2
      go_ret3
      exact ⟨by rw [HG.out, ga_none bs (numAt_end bs k n v HA.out (by rw [HL.out]; exact HN.out) (by omega))]; rfl, rfl⟩

theorem get_any (bs : List Int) (a : Option Addr) (len cap : Nat) (w : World) (hr : ∀ y ∈ bs, 0 ≤ y ∧ y ≤ 255) (hrd : Rd .u8 w a len bs) (hm : len ≤ 9223372036854775807) :
    Calls Try.prog 177 #[.slice a len cap] w fun e w' => e = .returned (.tuple #[.int .u64 (ga bs).1, .int .i64 (ga bs).2.1, .bool (ga bs).2.2]) ∧ w' = w := by
  have HR : Hid (∀ y ∈ bs, 0 ≤ y ∧ y ≤ 255) := hr
  have HD : Hid (Rd .u8 w a len bs) := hrd
  obtain ⟨⟨g1, g2, g3⟩, hG⟩ : ∃ G, G = ga bs := ⟨_, rfl⟩
  rw [← hG]
  have HG : Hid ((g1, g2, g3) = ga bs) := hG
  clear hr hrd hG
  go_enter Try.func177, Try.ntmps177
  go_wp2_with fail
  refine (number_any bs a len cap _ HR.out HD.out hm).mono ?_
  rw [← HG.out]
  rintro e w' ⟨rfl, hw'⟩
  obtain rfl : w = w' := hw'.symm
  go_wp2
  go_ret3
  exact ⟨rfl, rfl⟩
end Go.Proofs.Ytcbnmahbdcjamaa
