/- Arguments opened: a byte. -/
import Derived.Test.YtohkdlgckepfgaaFrQ
namespace Go.Proofs.Ytohkdlgckepfgaa
open Go.ChangeShapes Go.WideShapes Go.ChangeAt Go.RowKit
set_option linter.unusedVariables false

theorem open_u8 {H : Type} {enc : TypeId × Value → H} {W : World} {k : IntKind} {v : Int} {d : DataW H} {p : List MemPlace} (h : DataW.Trod enc Try.prog W 0 (fun _ => true) true 5 (.int k v) d p) : 0 ≤ v ∧ v ≤ 255 := by
  obtain ⟨fuel, hf⟩ := h
  obtain ⟨op, hop, h1, h2⟩ := DataW.trod_int Try.underlying5 hf
  simp [Value.cells] at hop
  rw [hop.2]
  exact u8_of_wf h2
end Go.Proofs.Ytohkdlgckepfgaa
