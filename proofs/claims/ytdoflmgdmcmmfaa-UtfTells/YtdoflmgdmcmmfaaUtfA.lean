/- Walks of the program's small functions: Size, later, mark, lead, begins: each returns its plain function's value and leaves memory as it was. -/
import Derived.Test.YtdoflmgdmcmmfaaProg
import Derived.Test.YtdoflmgdmcmmfaaUtfM
import Derived.WalkKit
import Derived.WalkLawsBesides
namespace Go.Proofs.Ytdoflmgdmcmmfaa
open Go.RowKit
set_option linter.unusedVariables false

theorem ret_int {k : IntKind} {a b : Int} (h : a = b) : Ending.returned (.int k a) = .returned (.int k b) := by rw [h]
theorem ret_bool {a b : Bool} (h : a = b) : Ending.returned (.bool a) = .returned (.bool b) := by rw [h]
theorem ret_int2 {k k' : IntKind} {a b a' b' : Int} (h : a = b) (h' : a' = b') : Ending.returned (.tuple #[.int k a, .int k' a']) = .returned (.tuple #[.int k b, .int k' b']) := by rw [h, h']

theorem size_any (c : Int) (w : World) :
    Calls Try.prog 17 #[.int .i32 c] w fun e w' => e = .returned (.int .i64 (sz c)) ∧ w' = w := by
  go_enter Try.func17, Try.ntmps17
  go_wp2
  all_goals go_ret
  all_goals exact ⟨ret_int (by unfold sz; repeat' split; all_goals omega), rfl⟩

theorem later_any (c : Int) (w : World) (h0 : 0 ≤ c) (h1 : c ≤ 1114111) :
    Calls Try.prog 27 #[.int .i32 c] w fun e w' => e = .returned (.int .u8 (128 + c % 64)) ∧ w' = w := by
  go_enter Try.func27, Try.ntmps27
  go_wp2
  go_ret
  refine ⟨ret_int ?_, rfl⟩
  rw [show bits .and .i32 c 63 = c % 64 from bits_mask .i32 31 (by decide) wraps_i32 6 (by decide) c h0 (by omega), show c % 64 % 256 = c % 64 by omega]
  exact u8_or128 _ (by omega) (by omega)

def mk (s : Int) : Int := if s = 2 then 192 else if s = 3 then 224 else if s = 4 then 240 else 0
theorem mark_any (s : Int) (w : World) :
    Calls Try.prog 28 #[.int .i64 s] w fun e w' => e = .returned (.int .u8 (mk s)) ∧ w' = w := by
  go_enter Try.func28, Try.ntmps28
  go_wp2
  all_goals go_ret
  all_goals exact ⟨ret_int (by unfold mk; repeat' split; all_goals simp_all), rfl⟩

theorem lead_any (x : Int) (w : World) (h0 : 0 ≤ x) (h1 : x ≤ 255) :
    Calls Try.prog 23 #[.int .u8 x] w fun e w' => e = .returned (.tuple #[.int .i32 (ldc x), .int .i64 (lds x)]) ∧ w' = w := by
  go_enter Try.func23, Try.ntmps23
  go_wp2
  all_goals go_ret2
  all_goals exact ⟨ret_int2 (by unfold ldc; repeat' split; all_goals omega) (by unfold lds; repeat' split; all_goals omega), rfl⟩

theorem or_zero (c : Int) (h0 : 0 ≤ c) (h1 : c ≤ 2097151) : bits .or .i32 c 0 = c := by
  have := bits_join .i32 31 (by decide) wraps_i32 0 c 0 h0 (by omega) (by omega) (by omega) (by omega)
  simpa using this
theorem begins_any (c s : Int) (m : Nat) (w : World) (h0 : 0 ≤ c) (hm : m ≤ 3) (h1 : c * 64 ^ m ≤ 2097151 - 64 ^ m + 1) :
    Calls Try.prog 24 #[.int .i32 c, .int .i64 s, .int .i64 m] w fun e w' => e = .returned (.bool (bgs c s m)) ∧ w' = w := by
  rcases (by omega : m = 0 ∨ m = 1 ∨ m = 2 ∨ m = 3) with rfl | rfl | rfl | rfl
  all_goals
    simp at h1
    go_enter Try.func24, Try.ntmps24
    go_wp2_with (go_at_call 17; refine (size_any _ _).mono ?_; rintro e w' ⟨rfl, rfl⟩)
  all_goals go_ret
  all_goals
    refine ⟨ret_bool ?_, rfl⟩
    first
      | (rw [or_zero c h0 (by omega)]; rw [Bool.eq_iff_iff]; simp [bgs, *])
      | (rw [Bool.eq_iff_iff]; simp [bgs, *])
end Go.Proofs.Ytdoflmgdmcmmfaa
