/- Names that come in. -/
import Derived.Test.YthdeadmnicmgfaaDoorJ31
import Derived.Test.YthdeadmnicmgfaaDoorTablesNamesW
import Derived.Deep.Strs
namespace Go.Proofs.YthdeadmnicmgfaaDoor
open Go.ChangeShapes Go.WideShapes Go.ChangeAt Go.RowKit
set_option linter.unusedVariables false

theorem open_names {H : Type} {enc : TypeId × Value → H} {W : World} {a : Option Addr} {len cap : Nat} {d : DataW H} {p : List MemPlace} (h : DataW.Trod enc Tryd.prog W 0 (fun _ => true) true 44 (.slice a len cap) d p) : RsN W a len ∧ len ≤ 9223372036854775807 := by
  obtain ⟨fuel, hf⟩ := h
  rcases Go.Deep.open_strs Tryd.underlying44 Tryd.underlying9 (by kernel_rfl) hf with ⟨hcs, _⟩ | ⟨x, l, c, m, S, hcs, _, hl, hm, hmm, _, hcell⟩
  · simp [Value.cells] at hcs
    obtain ⟨rfl, rfl, rfl⟩ := hcs
    exact ⟨fun i hi => by omega, by omega⟩
  · simp [Value.cells] at hcs
    obtain ⟨rfl, rfl, rfl⟩ := hcs
    have hml : len ≤ m := by rw [hmm]; split <;> omega
    refine ⟨fun i hi => ?_, by unfold maxLen at hm; omega⟩
    have hc := (hcell i (by omega)).1
    have hs := World.cell?_spot (hcell 0 (by omega)).1
    obtain ⟨b, off, spot⟩ := x
    have hs' : spot = none := by simpa [Addr.add] using hs
    subst hs'
    rw [add_lit] at hc
    exact ⟨b, off, S i, rfl, hc⟩
end Go.Proofs.YthdeadmnicmgfaaDoor
