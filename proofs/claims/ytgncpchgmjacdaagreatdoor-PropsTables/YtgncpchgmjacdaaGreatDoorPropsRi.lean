/- The walk of the reference's SameInts at two slices that read alike. -/
import Derived.Test.YtgncpchgmjacdaaGreatDoorPropsSm
namespace Go.Proofs.YtgncpchgmjacdaaGreatDoor
open Go.RowKit
set_option linter.unusedVariables false

set_option maxHeartbeats 1000000 in
theorem sameI_refl (xs : List Int) (a b : Option Addr) (len cap cap2 : Nat) (w : World) (h1 : Rd .i64 w a len xs) (h2 : Rd .i64 w b len xs) (hm : len ≤ 9223372036854775806) :
    Calls Tryz.prog 25 #[.slice a len cap, .slice b len cap2] w fun e w' => e = .returned (.bool true) ∧ ∃ n, w' = w.drewN n := by
  have HD : Hid (Rd .i64 w a len xs) := h1
  have HD2 : Hid (Rd .i64 w b len xs) := h2
  have mixed : Tryz.prog.follows .mixedOrders = true := by kernel_rfl
  clear h1 h2
  go_enter Tryz.func25, Tryz.ntmps25
  go_wp2
  go_loopw [5] (fun x5 wr => ∃ k : Nat, k ≤ len ∧ x5 = .int .i64 k ∧ ∃ n, wr = w.drewN n) (fun x5 _ => len - (intOf x5).toNat)
  case atStart => exact ⟨0, by omega, rfl, 0, rfl⟩
  case round =>
    obtain ⟨k, hk, hx5, n, hwr⟩ := hrel
    subst hx5 hwr
    by_cases hlt : k < len
    · obtain ⟨b1, off, hab, hc⟩ := HD.out.2 (by omega)
      obtain ⟨b2, off2, hab2, hd⟩ := HD2.out.2 (by omega)
      subst hab hab2
      have c0 : (w.drewN n).cell? ⟨b1, off + k, none⟩ = some (.int .i64 (xs.getD k 0)) := ((below_drewN w n).cell (p := ⟨b1, off + k, none⟩) (World.block_lt_of_cell? w _ (hc k hlt))).trans (hc k hlt)
      have d0 : (w.drewN n).cell? ⟨b2, off2 + k, none⟩ = some (.int .i64 (xs.getD k 0)) := ((below_drewN w n).cell (p := ⟨b2, off2 + k, none⟩) (World.block_lt_of_cell? w _ (hd k hlt))).trans (hd k hlt)
      generalize xs.getD k 0 = x at c0 d0
      clear hc hd
      generalize hw : w.drewN n = wq at c0 d0 ⊢
      have HW : Hid (w.drewN n = wq) := hw
      clear hw
      go_upto_region 6 with fail
      go_quiet (fail)
      go_wp2
      go_roundw
      case rel => exact ⟨k + 1, by omega, by go_num, n + nq, by rw [← HW.out, World.drewN_drewN]⟩
      case measure => simp [intOf]; omega
    · go_wp2
      go_ret
      exact ⟨rfl, n, rfl⟩
end Go.Proofs.YtgncpchgmjacdaaGreatDoor
