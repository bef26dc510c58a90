/- Walks of the program's small functions: bits.Len64, Size, closes. -/
import Derived.Test.YtcbnmahbdcjamaaBasC
import Derived.Test.YtcbnmahbdcjamaaPackM
namespace Go.Proofs.Ytcbnmahbdcjamaa
open Go.RowKit
set_option linter.unusedVariables false

theorem len_step (x y : Int) (K : Nat) (e : y.toNat = x.toNat / 2 ^ K) (h8 : y < 256) (hn : 0 < y) (hK : K ≤ 56) : wrap64 ((K : Int) + wrap64 (Go.bitLen y.toNat : Nat)) = (Go.bitLen x.toNat : Nat) := by
  have l := bitLen_le8 y.toNat (by omega)
  have s := Go.bitLen_shift x.toNat K (by rw [← e]; omega)
  rw [← e] at s
  rw [s]
  generalize Go.bitLen y.toNat = q at l
  unfold wrap64
  omega
theorem len_56 (x : Int) (h0 : 0 ≤ x) (h8 : x / 4294967296 / 65536 / 256 < 256) (hn : 0 < x / 4294967296 / 65536 / 256) : wrap64 (56 + wrap64 (Go.bitLen (x / 4294967296 / 65536 / 256).toNat : Nat)) = (Go.bitLen x.toNat : Nat) :=
  len_step x (x / 4294967296 / 65536 / 256) 56 (show _ = x.toNat / 72057594037927936 by omega) h8 hn (by decide)
theorem len_48 (x : Int) (h0 : 0 ≤ x) (h8 : x / 4294967296 / 65536 < 256) (hn : 0 < x / 4294967296 / 65536) : wrap64 (48 + wrap64 (Go.bitLen (x / 4294967296 / 65536).toNat : Nat)) = (Go.bitLen x.toNat : Nat) :=
  len_step x (x / 4294967296 / 65536) 48 (show _ = x.toNat / 281474976710656 by omega) h8 hn (by decide)
theorem len_40 (x : Int) (h0 : 0 ≤ x) (h8 : x / 4294967296 / 256 < 256) (hn : 0 < x / 4294967296 / 256) : wrap64 (40 + wrap64 (Go.bitLen (x / 4294967296 / 256).toNat : Nat)) = (Go.bitLen x.toNat : Nat) :=
  len_step x (x / 4294967296 / 256) 40 (show _ = x.toNat / 1099511627776 by omega) h8 hn (by decide)
theorem len_32 (x : Int) (h0 : 0 ≤ x) (h8 : x / 4294967296 < 256) (hn : 0 < x / 4294967296) : wrap64 (32 + wrap64 (Go.bitLen (x / 4294967296).toNat : Nat)) = (Go.bitLen x.toNat : Nat) :=
  len_step x (x / 4294967296) 32 (show _ = x.toNat / 4294967296 by omega) h8 hn (by decide)
theorem len_24 (x : Int) (h0 : 0 ≤ x) (h8 : x / 65536 / 256 < 256) (hn : 0 < x / 65536 / 256) : wrap64 (24 + wrap64 (Go.bitLen (x / 65536 / 256).toNat : Nat)) = (Go.bitLen x.toNat : Nat) :=
  len_step x (x / 65536 / 256) 24 (show _ = x.toNat / 16777216 by omega) h8 hn (by decide)
theorem len_16 (x : Int) (h0 : 0 ≤ x) (h8 : x / 65536 < 256) (hn : 0 < x / 65536) : wrap64 (16 + wrap64 (Go.bitLen (x / 65536).toNat : Nat)) = (Go.bitLen x.toNat : Nat) :=
  len_step x (x / 65536) 16 (show _ = x.toNat / 65536 by omega) h8 hn (by decide)
theorem len_8 (x : Int) (h0 : 0 ≤ x) (h8 : x / 256 < 256) (hn : 0 < x / 256) : wrap64 (8 + wrap64 (Go.bitLen (x / 256).toNat : Nat)) = (Go.bitLen x.toNat : Nat) :=
  len_step x (x / 256) 8 (show _ = x.toNat / 256 by omega) h8 hn (by decide)
theorem len_0 (x : Int) (h0 : 0 ≤ x) (h8 : x < 256) : wrap64 (wrap64 (Go.bitLen x.toNat : Nat)) = (Go.bitLen x.toNat : Nat) := by
  have l := bitLen_le8 x.toNat (by omega)
  unfold wrap64
  omega

set_option maxRecDepth 100000 in
set_option maxHeartbeats 4000000 in
theorem len64_any (x : Int) (w : World) (h0 : 0 ≤ x) (h1 : x ≤ 18446744073709551615) :
    Calls Try.prog 149 #[.int .u64 x] w fun e w' => e = .returned (.int .i64 (Go.bitLen x.toNat)) ∧ w' = w := by
  go_enter Try.func149, Try.ntmps149
  go_wp2
  all_goals (go_ret; refine ⟨congrArg Ending.returned (congrArg (Value.int IntKind.i64) ?_), rfl⟩)
  all_goals rw [len8tab_get]
  all_goals first
    | exact len_56 x h0 (by omega) (by omega)
    | exact len_48 x h0 (by omega) (by omega)
    | exact len_40 x h0 (by omega) (by omega)
    | exact len_32 x h0 (by omega) (by omega)
    | exact len_24 x h0 (by omega) (by omega)
    | exact len_16 x h0 (by omega) (by omega)
    | exact len_8 x h0 (by omega) (by omega)
    | exact len_0 x h0 (by omega)

theorem size_any (x : Int) (w : World) (h0 : 0 ≤ x) (h1 : x ≤ 18446744073709551615) :
    Calls Try.prog 118 #[.int .u64 x] w fun e w' => e = .returned (.int .i64 (pk x).length) ∧ w' = w := by
  have HB : Hid (((pk x).length : Int) = max 1 (((Go.bitLen x.toNat : Int) + 6) / 7)) := pk_bits x h0 h1
  have hl := pk_len x
  have hq : 0 ≤ (Go.bitLen x.toNat : Int) ∧ (Go.bitLen x.toNat : Int) ≤ 70 := by have := HB.out; omega
  obtain ⟨q, hqd⟩ : ∃ q : Int, q = (Go.bitLen x.toNat : Int) := ⟨_, rfl⟩
  rw [← hqd] at hq HB
  have HQ : Hid (q = (Go.bitLen x.toNat : Int)) := hqd
  obtain ⟨m, hmd⟩ : ∃ m : Nat, m = (pk x).length := ⟨_, rfl⟩
  rw [← hmd] at HB hl ⊢
  obtain ⟨hq0, hq1⟩ := hq
  clear hqd hmd
  go_enter Try.func118, Try.ntmps118
  go_wp2_with (first | (go_at_call 149; refine (len64_any _ _ h0 h1).mono ?_; rw [← HQ.out]; rintro e w' ⟨rfl, hw'⟩; obtain rfl : w = w' := hw'.symm))
  all_goals go_ret
  all_goals exact ⟨ret_int (by have := HB.out; omega), rfl⟩

theorem closes_any (x i : Int) (w : World) (h0 : 0 ≤ x) (h1 : x ≤ 255) (h2 : 0 ≤ i) (h3 : i ≤ 9) :
    Calls Try.prog 176 #[.int .u8 x, .int .i64 i] w fun e w' => e = .returned (.bool (decide (¬ ((i = 9 ∧ 1 < x) ∨ (i ≠ 0 ∧ x = 0))))) ∧ w' = w := by
  obtain ⟨b, hb⟩ : ∃ b, b = decide (¬ ((i = 9 ∧ 1 < x) ∨ (i ≠ 0 ∧ x = 0))) := ⟨_, rfl⟩
  have HB : Hid (b = decide (¬ ((i = 9 ∧ 1 < x) ∨ (i ≠ 0 ∧ x = 0)))) := hb
  rw [← hb]
  clear hb
  by_cases c1 : i = 9
  · by_cases c2 : 1 < x
    · go_enter Try.func176, Try.ntmps176
      go_wp2
      go_ret
      exact ⟨ret_bool (by rw [HB.out]; simp; omega), rfl⟩
    · go_enter Try.func176, Try.ntmps176
      go_wp2
      go_ret
      exact ⟨ret_bool (by rw [HB.out, Bool.eq_iff_iff]; simp; omega), rfl⟩
  · by_cases c2 : i = 0
    · go_enter Try.func176, Try.ntmps176
      go_wp2
      go_ret
      exact ⟨ret_bool (by rw [HB.out]; simp; omega), rfl⟩
    · go_enter Try.func176, Try.ntmps176
      go_wp2
      go_ret
      exact ⟨ret_bool (by rw [HB.out, Bool.eq_iff_iff]; simp; omega), rfl⟩
end Go.Proofs.Ytcbnmahbdcjamaa
