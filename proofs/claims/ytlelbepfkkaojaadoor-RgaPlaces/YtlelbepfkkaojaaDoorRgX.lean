/- The walk of Vector. -/
import Derived.Test.YtlelbepfkkaojaaDoorRgW
namespace Go.Proofs.YtlelbepfkkaojaaDoor
open Go.RowKit Go.Shelf Go.Maps Go.Sort
set_option linter.unusedVariables false
set_option linter.unusedSimpArgs false

theorem own_ints {W : World} {B : Nat} {v : Value} {xs : List Int} (h : W.ownsRow B 3 1 v xs.length (xs.map encZ)) : ∃ a cap, v = .slice a xs.length cap ∧ ∀ k, k < xs.length → ∃ g, a = some ⟨g, 0, none⟩ ∧ W.cell? ⟨g, k, none⟩ = some (.int .i64 (xs.getD k 0)) := by
  rcases h.2 with ⟨rfl, h0⟩ | ⟨g, cap, cur, rfl, hb, hg, hn, hm, hs, ht⟩
  · exact ⟨none, 0, by rw [h0], fun k hk => by omega⟩
  · refine ⟨_, cap, rfl, fun k hk => ⟨g, rfl, ?_⟩⟩
    rw [cell_of_row W g _ _ _ _ hg]
    have h2 : (cur.toList.take (xs.length * 1))[k]? = (xs.map encZ)[k]? := by rw [ht]
    rw [List.getElem?_take, if_pos (by omega), List.getElem?_map, List.getElem?_eq_getElem hk] at h2
    have h3 : cur[k]? = some (encZ xs[k]) := by simpa using h2
    rw [h3]
    simp [encZ, hk]
end Go.Proofs.YtlelbepfkkaojaaDoor
