/- Ranges held against each other; the walk of the reference's Same at two slices that read alike. -/
import Derived.Test.YtgncpchgmjacdaaGreatDoorPropsX
import Derived.Laws.StructEq
import Derived.BigQuiet
namespace Go.Proofs.YtgncpchgmjacdaaGreatDoor
open Go.RowKit
set_option linter.unusedVariables false

theorem eqR_run (x y : Rg) (hx : ∀ c ∈ x.2.2, 0 ≤ c ∧ c ≤ 255) (hy : ∀ c ∈ y.2.2, 0 ≤ c ∧ c ≤ 255) (w : World) : (Op.equalIn 10000 39 (.agg (encR x).toArray) (.agg (encR y).toArray)).run Tryz.prog w = .ok (decide (x = y)) w := by
  have u21 := Tryz.underlying21
  have u9 := Tryz.underlying9
  have hS : Tryz.prog.underlying 39 = some (.struct (Tryz.prog.fieldsOf 39)) := by kernel_rfl
  have hp : Tryz.prog.stoodInHeld 39 = false := by kernel_rfl
  have hs := str_eq x.2.2 y.2.2 hx hy
  obtain ⟨x1, x2, x3⟩ := x
  obtain ⟨y1, y2, y3⟩ := y
  simp only [] at hs
  simp only [encR]
  rw [show (10000 : Nat) = 9999 + 1 from rfl, run_equalIn_agg w 9999 39 _ _ hS hp]
  simp only [Program.fieldsOf, Tryz.underlying39]
  go_simp
  by_cases h1 : x1 = y1 <;> by_cases h2 : x2 = y2 <;> by_cases h3 : x3 = y3 <;> simp [h1, h2, h3]
theorem neqR_same (x : Rg) (hx : ∀ c ∈ x.2.2, 0 ≤ c ∧ c ≤ 255) (w : World) : (binOp .neq 39 (.agg (encR x).toArray) (.agg (encR x).toArray)).run Tryz.prog w = .ok (.bool false) w := by
  rw [run_neq_struct, eqR_run x x hx hx]
  simp

set_option maxHeartbeats 1000000 in
theorem same_refl (rs : List Rg) (a b : Option Addr) (len cap cap2 : Nat) (w : World) (hrs : RgS rs) (h1 : RdR w a len rs) (h2 : RdR w b len rs) (hm : len ≤ 9223372036854775806) :
    Calls Tryz.prog 17 #[.slice a len cap, .slice b len cap2] w fun e w' => e = .returned (.bool true) ∧ ∃ n, w' = w.drewN n := by
  have HD : Hid (RdR w a len rs) := h1
  have HD2 : Hid (RdR w b len rs) := h2
  have HRS : Hid (RgS rs) := hrs
  have HL : Hid (rs.length = len) := h1.1
  have mixed : Tryz.prog.follows .mixedOrders = true := by kernel_rfl
  have hgd : ∀ (op : BinOp) (x y : Operand) (xs ys : Array Value) (W : World), (eqGuard op 39 x y (.agg xs) (.agg ys)).run Tryz.prog W = .ok () W := fun op x y xs ys W => run_eqGuard_agg W op 39 x y xs ys (by kernel_rfl)
  clear h1 h2 hrs
  go_enter Tryz.func17, Tryz.ntmps17
  go_wp2
  go_loopw [5] (fun x5 wr => ∃ k : Nat, k ≤ len ∧ x5 = .int .i64 k ∧ ∃ n, wr = w.drewN n) (fun x5 _ => len - (intOf x5).toNat)
  case atStart => exact ⟨0, by omega, rfl, 0, rfl⟩
  case round =>
    obtain ⟨k, hk, hx5, n, hwr⟩ := hrel
    subst hx5 hwr
    by_cases hlt : k < len
    · obtain ⟨b1, off, hab, c0, c1, c2⟩ := (HD.out.later (below_drewN w n)).at k hlt
      obtain ⟨b2, off2, hab2, d0, d1, d2⟩ := (HD2.out.later (below_drewN w n)).at k hlt
      subst hab hab2
      obtain ⟨x, hx⟩ : ∃ x, x = rs.getD k (0, 0, []) := ⟨_, rfl⟩
      rw [← hx] at c0 c1 c2 d0 d1 d2
      have hne := neqR_same x (HRS.out x (by rw [hx]; simp [show k < rs.length by rw [HL.out]; exact hlt]))
      obtain ⟨x1, x2, x3⟩ := x
      simp only [encR] at hne
      simp only [] at c0 c1 c2 d0 d1 d2 hne
      obtain ⟨sx, hsx⟩ : ∃ sx, sx = strOfNums x3 := ⟨_, rfl⟩
      rw [← hsx] at c2 d2 hne
      clear hx hsx
      generalize hw : w.drewN n = wq at c0 c1 c2 d0 d1 d2 ⊢
      have HW : Hid (w.drewN n = wq) := hw
      clear hw
      go_upto_region 6 with fail
      go_quiet (fail)
      go_wp2
      go_roundw
      case rel => exact ⟨k + 1, by omega, by go_num, n + nq, by rw [← HW.out, World.drewN_drewN]⟩
      case measure => simp [intOf]; omega
    · go_wp2
      go_ret
      exact ⟨rfl, n, rfl⟩
end Go.Proofs.YtgncpchgmjacdaaGreatDoor
