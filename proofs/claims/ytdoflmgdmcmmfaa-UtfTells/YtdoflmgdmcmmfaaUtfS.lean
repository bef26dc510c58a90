/- The walk of the reference's Same, of two slices that read alike: true. -/
import Derived.Test.YtdoflmgdmcmmfaaUtfI
import Derived.Test.YtdoflmgdmcmmfaaUtfP
namespace Go.Proofs.Ytdoflmgdmcmmfaa
open Go.RowKit
set_option linter.unusedVariables false

set_option maxHeartbeats 1000000 in
theorem same_true (a0 a1 : Option Addr) (n cap0 cap1 : Nat) (xs : List Int) (w : World) (hn : n ≤ 100000000000) (h0 : Rd .i32 w a0 n xs) (h1 : Rd .i32 w a1 n xs) :
    Calls Try.prog 16 #[.slice a0 n cap0, .slice a1 n cap1] w fun e w' => e = .returned (.bool true) ∧ Below w.heap.size w w' := by
  have H0 : Hid (Rd .i32 w a0 n xs) := h0
  have H1 : Hid (Rd .i32 w a1 n xs) := h1
  clear h0 h1
  go_enter Try.func16, Try.ntmps16
  go_wp2
  go_loopw [5] (fun i wr => ∃ k : Nat, k ≤ n ∧ i = .int .i64 k ∧ Below w.heap.size w wr) (fun i _ => n - (intOf i).toNat)
  case atStart => exact ⟨0, by omega, rfl, Below.refl _ _⟩
  case round =>
    obtain ⟨k, hk, rfl, hb⟩ := hrel
    have HB : Hid (Below w.heap.size w wr) := hb
    clear hb
    by_cases hlt : k < n
    · obtain ⟨b0, o0, rfl, hcl0⟩ := (H0.out.later HB.out).2 (by omega)
      obtain ⟨b1, o1, rfl, hcl1⟩ := (H1.out.later HB.out).2 (by omega)
      have hp := hcl0 k hlt
      have hq := hcl1 k hlt
      obtain ⟨y, hyd⟩ : ∃ y, y = xs.getD k 0 := ⟨_, rfl⟩
      rw [← hyd] at hp hq
      clear hcl0 hcl1 hyd
      go_wp2
      go_region
      all_goals go_wp2
      all_goals go_roundw
      case rel => exact ⟨k + 1, by omega, by go_num, HB.out.drew⟩
      case measure => simp [intOf]; omega
    · go_wp2
      go_ret
      exact ⟨rfl, HB.out⟩
end Go.Proofs.Ytdoflmgdmcmmfaa
