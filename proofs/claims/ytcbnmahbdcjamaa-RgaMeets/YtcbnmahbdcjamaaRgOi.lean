/- A row of numbers, opened. -/
import Derived.Test.YtcbnmahbdcjamaaRgO
namespace Go.Proofs.Ytcbnmahbdcjamaa
open Go.ChangeShapes Go.WideShapes Go.ChangeAt Go.RowKit
set_option linter.unusedVariables false

/-- A slice that reads as ints. -/
def RdI (w : World) (a : Option Addr) (n : Nat) (l : List Int) : Prop := l.length = n ∧ (0 < n → ∃ b off, a = some ⟨b, off, none⟩ ∧ ∀ k, k < n → w.cell? ⟨b, off + k, none⟩ = some (.int .i64 (l.getD k 0)))
theorem RdI.later {w w' : World} {a : Option Addr} {n : Nat} {l : List Int} (h : RdI w a n l) (hb : Below w.heap.size w w') : RdI w' a n l := by
  refine ⟨h.1, fun h0 => ?_⟩
  obtain ⟨b, off, ha, hc⟩ := h.2 h0
  exact ⟨b, off, ha, fun j hj => hb.cell (World.block_lt_of_cell? w _ (hc j hj)) ▸ hc j hj⟩
theorem RdI.at {w : World} {a : Option Addr} {n : Nat} {l : List Int} (h : RdI w a n l) (i : Nat) (hi : i < n) : ∃ b off, a = some ⟨b, off, none⟩ ∧ w.cell? ⟨b, off + i, none⟩ = some (.int .i64 (l.getD i 0)) := by
  obtain ⟨b, off, ha, hc⟩ := h.2 (by omega)
  exact ⟨b, off, ha, hc i hi⟩
theorem open_nums14 {H : Type} {enc : TypeId × Value → H} {W : World} {a : Option Addr} {len cap : Nat} {d : DataW H} {p : List MemPlace} (h : DataW.Trod enc Try.prog W 0 (fun _ => true) true 23 (.slice a len cap) d p) :
    ∃ xs : List Int, RdI W a len xs ∧ len ≤ cap ∧ cap ≤ 9223372036854775807 := by
  obtain ⟨fuel, hf⟩ := h
  rcases open_ints Try.underlying23 Try.underlying3 (by kernel_rfl) hf with ⟨hcs, _⟩ | ⟨x, l, c, zs, hcs, _, hl, hm, hz, _, hcell, hwz⟩
  · simp [Value.cells] at hcs
    obtain ⟨rfl, rfl, rfl⟩ := hcs
    exact ⟨[], ⟨rfl, fun hp => absurd hp (by omega)⟩, by omega, by omega⟩
  · simp [Value.cells] at hcs
    obtain ⟨rfl, rfl, rfl⟩ := hcs
    have hzl : len ≤ zs.length := by rw [hz]; split <;> omega
    refine ⟨zs.take len, ⟨by rw [List.length_take]; omega, fun hp => ?_⟩, hl, by simpa [maxLen] using hm⟩
    obtain ⟨b, off, spot⟩ := x
    have h40 := hcell 0 (by omega)
    have hspot : spot = none := by simpa [Addr.add] using World.cell?_spot h40
    subst hspot
    refine ⟨b, off, rfl, fun i hi => ?_⟩
    have := hcell i (by omega)
    rw [add_lit14] at this
    rw [this]
    simp [hi]
end Go.Proofs.Ytcbnmahbdcjamaa
