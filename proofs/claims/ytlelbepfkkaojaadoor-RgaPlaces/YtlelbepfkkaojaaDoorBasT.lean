/- Rows of truths in memory; no function of the program is named here. -/
import Derived.Test.YtlelbepfkkaojaaDoorBasR
namespace Go.Proofs.YtlelbepfkkaojaaDoor
open Go.RowKit
set_option linter.unusedVariables false
set_option linter.unusedSimpArgs false

/-- A row of truths in memory. -/
def RdT (w : World) (a : Option Addr) (len : Nat) (bs : List Bool) : Prop :=
  bs.length = len ∧ (0 < len → ∃ b off, a = some ⟨b, off, none⟩ ∧ ∀ i, i < len → w.cell? ⟨b, off + i, none⟩ = some (.bool (bs.getD i false)))
theorem RdT.later {w w' : World} {a : Option Addr} {len : Nat} {bs : List Bool} (h : RdT w a len bs) (hb : Below w.heap.size w w') : RdT w' a len bs := by
  refine ⟨h.1, fun hp => ?_⟩
  obtain ⟨b, off, ha, hc⟩ := h.2 hp
  refine ⟨b, off, ha, fun i hi => ?_⟩
  exact (hb.cell (p := ⟨b, off + i, none⟩) (World.block_lt_of_cell? w _ (hc i hi))).trans (hc i hi)
theorem rdT_own {w : World} {B : Nat} {e : TypeId} {v : Value} {n : Nat} {bs : List Bool} (h : w.ownsRow B e 1 v n (bs.map Value.bool)) : ∃ a cap, v = .slice a n cap ∧ n ≤ cap ∧ (a = none → cap = 0) ∧ RdT w a n bs := by
  have hl : bs.length = n := by simpa using h.1
  rcases h.2 with ⟨rfl, rfl⟩ | ⟨g, cap, cur, rfl, hb, hg, hn, hm, hs, ht⟩
  · exact ⟨none, 0, rfl, by omega, fun _ => rfl, hl, fun hp => absurd hp (by omega)⟩
  · refine ⟨_, cap, rfl, hn, (fun h => by cases h), hl, fun hp => ⟨g, 0, rfl, fun i hi => ?_⟩⟩
    rw [cell_of_row w g (0 + i) cur e (0, 0) hg]
    have h1 : (cur.toList.take (n * 1))[i]? = (bs.map Value.bool)[i]? := by rw [ht]
    rw [List.getElem?_take, if_pos (by omega)] at h1
    simp at h1 ⊢
    rw [h1]
    simp [show i < bs.length by omega]
theorem get_bool (L : List Bool) (k m : Nat) (h : (L.map Value.bool).length = m) (hk : k < m) : ∃ z, (L.map Value.bool)[k]? = some (.bool z) := by
  have hl : k < L.length := by simp at h; omega
  exact ⟨L[k], by rw [List.getElem?_map, List.getElem?_eq_getElem hl]; rfl⟩
end Go.Proofs.YtlelbepfkkaojaaDoor
