/- The library's count of ones; a block of marks in memory; the walks of a block's own functions. -/
import Derived.Test.YtlelbepfkkaojaaDoorBasS
import Derived.Test.YtlelbepfkkaojaaDoorIxM
import Derived.BigQuiet
import Derived.OwnWalk
import Derived.Laws.BitsAllLaws
namespace Go.Proofs.YtlelbepfkkaojaaDoor
open Go.RowKit
set_option linter.unusedVariables false
set_option linter.unusedSimpArgs false

theorem low7 (y : Nat) : bits .and .i64 (wrap64 (y : Int)) 127 = ((y % 128 : Nat) : Int) := by
  rw [and_low _ 127 7 (by omega) (by decide)]
  unfold wrap64
  omega
set_option maxHeartbeats 1000000 in
theorem ones_any (x : Nat) (hx : x < 18446744073709551616) (w : World) : Calls Tryd.prog 53 #[.int .u64 (x : Int)] w fun e w' => e = .returned (.int .i64 ((ds 2 64 x : Nat) : Int)) ∧ w' = w := by
  obtain ⟨b1, b2, b3, b4⟩ := ones_sum x hx
  obtain ⟨y1, g1⟩ : ∃ y, y = s1 32 x := ⟨_, rfl⟩
  obtain ⟨y2, g2⟩ : ∃ y, y = s2 16 y1 := ⟨_, rfl⟩
  obtain ⟨y3, g3⟩ : ∃ y, y = s3 8 y2 := ⟨_, rfl⟩
  obtain ⟨y4, g4⟩ : ∃ y, y = y3 + y3 / 256 := ⟨_, rfl⟩
  obtain ⟨y5, g5⟩ : ∃ y, y = y4 + y4 / 65536 := ⟨_, rfl⟩
  obtain ⟨y6, g6⟩ : ∃ y, y = y5 + y5 / 4294967296 := ⟨_, rfl⟩
  rw [← g1, ← g2] at b2
  rw [← g1] at b1
  rw [← g1, ← g2, ← g3] at b3 b4
  obtain ⟨b5, b6⟩ := s4_sum y3 b3 y4 y5 y6 g4 g5 g6
  rw [b4] at b5
  have e1 : IntKind.u64.wrap (bits .and .u64 ((x : Int) / 2) 6148914691236517205 + bits .and .u64 (x : Int) 6148914691236517205) = (y1 : Int) := by
    rw [show (x : Int) / 2 = ((x / 2 : Nat) : Int) by omega, show (6148914691236517205 : Int) = ((6148914691236517205 : Nat) : Int) from rfl, u64_and_nat _ _ (by omega) (by omega), u64_and_nat _ _ (by omega) (by omega), ← mk_55, IntKind.wrap_u64, g1]
    have : s1 32 x = (x / 2 &&& mk 4 1 32) + (x &&& mk 4 1 32) := rfl
    rw [g1] at b1
    omega
  have e2 : IntKind.u64.wrap (bits .and .u64 ((y1 : Int) / 4) 3689348814741910323 + bits .and .u64 (y1 : Int) 3689348814741910323) = (y2 : Int) := by
    rw [show (y1 : Int) / 4 = ((y1 / 4 : Nat) : Int) by omega, show (3689348814741910323 : Int) = ((3689348814741910323 : Nat) : Int) from rfl, u64_and_nat _ _ (by omega) (by omega), u64_and_nat _ _ (by omega) (by omega), ← mk_33, IntKind.wrap_u64, g2]
    have : s2 16 y1 = (y1 / 4 &&& mk 16 3 16) + (y1 &&& mk 16 3 16) := rfl
    rw [g2] at b2
    omega
  have e3 : bits .and .u64 (IntKind.u64.wrap ((y2 : Int) / 16 + (y2 : Int))) 1085102592571150095 = (y3 : Int) := by
    rw [IntKind.wrap_u64, show ((y2 : Int) / 16 + (y2 : Int)) % 18446744073709551616 = ((y2 / 16 + y2 : Nat) : Int) by omega, show (1085102592571150095 : Int) = ((1085102592571150095 : Nat) : Int) from rfl, u64_and_nat _ _ (by omega) (by omega), ← mk_0f, g3]
    unfold s3
    with_reducible rfl
  have e4 : IntKind.u64.wrap ((y3 : Int) + (y3 : Int) / 256) = (y4 : Int) := by rw [IntKind.wrap_u64]; omega
  have e5 : IntKind.u64.wrap ((y4 : Int) + (y4 : Int) / 65536) = (y5 : Int) := by rw [IntKind.wrap_u64]; omega
  have e6 : IntKind.u64.wrap ((y5 : Int) + (y5 : Int) / 4294967296) = (y6 : Int) := by rw [IntKind.wrap_u64]; omega
  have e7 : bits .and .i64 (wrap64 (y6 : Int)) 127 = ((ds 2 64 x : Nat) : Int) := by
    rw [← b5]
    exact low7 y6
  generalize ds 2 64 x = R at e7 ⊢
  clear b1 b2 b3 b4 b5 b6 g1 g2 g3 g4 g5 g6 hx
  go_enter Tryd.func53, Tryd.ntmps53
  go_wp2_with (simp only [e1, e2, e3, e4, e5, e6, e7])
  go_ret
  exact ⟨rfl, rfl⟩
theorem ones_row (l : List Bool) (hl : l.length ≤ 64) (w : World) : Calls Tryd.prog 53 #[.int .u64 (wd l : Int)] w fun e w' => e = .returned (.int .i64 (cnt l : Int)) ∧ w' = w := by
  have := ones_any (wd l) (wd_lt64 l hl) w
  rw [ds_wd l 64 hl] at this
  exact this
end Go.Proofs.YtlelbepfkkaojaaDoor
