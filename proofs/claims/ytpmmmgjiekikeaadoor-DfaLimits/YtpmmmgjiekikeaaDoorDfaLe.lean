/- What comes in at a place of a row of expressions. -/
import Derived.Test.YtpmmmgjiekikeaaDoorJ21
namespace Go.Proofs.YtpmmmgjiekikeaaDoor
open Go.RowKit
set_option linter.unusedVariables false
set_option linter.unusedSimpArgs false

/-- What comes in at a place of a row of expressions. -/
theorem XRow.cells {B : Nat} {w : World} {D : Nat} {a : Option Addr} {xs : List (Nd × Bool)} (h : XRow B w D a xs) {k : Nat} (hk : k < xs.length) : ∃ b off ca cc pa pc, a = some ⟨b, off, none⟩ ∧ InV B w D xs[k].1 [.int .i64 xs[k].1.op, .slice ca xs[k].1.cl.length cc, .slice pa (toL xs[k].1.kids).length pc] ∧ w.cell? ⟨b, off + k * 4, none⟩ = some (.int .i64 xs[k].1.op) ∧ w.cell? ⟨b, off + k * 4 + 1, none⟩ = some (.slice ca xs[k].1.cl.length cc) ∧ w.cell? ⟨b, off + k * 4 + 2, none⟩ = some (.slice pa (toL xs[k].1.kids).length pc) ∧ w.cell? ⟨b, off + k * 4 + 3, none⟩ = some (.bool xs[k].2) := by
  obtain ⟨b, off, e, hc⟩ := h (by omega)
  obtain ⟨us, hin, hus, hwh⟩ := hc k hk
  obtain ⟨ca, cc, pa, pc, rfl⟩ := hin.three
  exact ⟨b, off, ca, cc, pa, pc, e, hin, hus 0 _ rfl, hus 1 _ rfl, hus 2 _ rfl, hwh⟩
theorem ok_okN {n : Nd} (h : n.ok = true) : okN 32 n = true := by
  unfold Nd.ok at h
  simp only [Bool.and_eq_true] at h
  exact h.1
end Go.Proofs.YtpmmmgjiekikeaaDoor
