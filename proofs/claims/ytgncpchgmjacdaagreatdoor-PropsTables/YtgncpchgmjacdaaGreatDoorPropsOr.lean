/- Slices of characters that come in as arguments. -/
import Derived.Test.YtgncpchgmjacdaaGreatDoorPropsOp
namespace Go.Proofs.YtgncpchgmjacdaaGreatDoor
open Go.ChangeShapes Go.WideShapes Go.RowKit
set_option linter.unusedVariables false

theorem open_runes {H : Type} {enc : TypeId × Value → H} {W : World} {a : Option Addr} {len cap : Nat} {d : DataW H} {p : List MemPlace} (h : DataW.Trod enc Tryz.prog W 0 (fun _ => true) true 41 (.slice a len cap) d p) :
    ∃ zs : List Int, len ≤ cap ∧ cap ≤ 9223372036854775807 ∧ ∀ n, n ≤ len → Rd .i32 W a n (zs.take n) := by
  obtain ⟨fuel, hf⟩ := h
  rcases open_ints Tryz.underlying41 Tryz.underlying21 (by kernel_rfl) hf with ⟨hcs, _⟩ | ⟨x, l, c, zs, hcs, _, hl, hm, hz, _, hcell, hwz⟩
  · simp [Value.cells] at hcs
    obtain ⟨rfl, rfl, rfl⟩ := hcs
    exact ⟨[], by omega, by omega, fun n hn => ⟨by simp; omega, fun hp => absurd hp (by omega)⟩⟩
  · simp [Value.cells] at hcs
    obtain ⟨rfl, rfl, rfl⟩ := hcs
    have hzc : zs.length = cap := by rw [hz]; simp
    have := rd_row (k := .i32) (w := W) (a := some x) (len := len) (cap := cap) (zs := zs) (.inr ⟨x, rfl, hl, hm, hzc, hcell, hwz⟩)
    exact ⟨zs, this.1, this.2.1, this.2.2.1⟩
end Go.Proofs.YtgncpchgmjacdaaGreatDoor
