/- Rows of names that a walk has made. -/
import Derived.Test.YtgncpchgmjacdaaGreatDoorPropsR
import Derived.Test.YtgncpchgmjacdaaGreatDoorPropsD
namespace Go.Proofs.YtgncpchgmjacdaaGreatDoor
open Go.RowKit
set_option linter.unusedVariables false

theorem info_T : (Tryz.prog.info? 9).map (fun i => (i.zero, i.size, i.bytes)) = some (some (.string ⟨#[]⟩), 1, 16) := by kernel_rfl
/-- The cells of names. -/
def flatN (ns : List (List Int)) : List Value := ns.map fun s => .string (strOfNums s)
theorem own_rdS {w : World} {B : Nat} {v : Value} {n : Nat} {ns : List (List Int)} (h : w.ownsRow B 9 1 v n (flatN ns)) : ∃ a cap, v = .slice a n cap ∧ n ≤ cap ∧ cap ≤ 9223372036854775807 ∧ RdS w a n ns := by
  have hl : ns.length = n := by have := h.1; unfold flatN at this; simpa using this
  rcases h.2 with ⟨rfl, rfl⟩ | ⟨g, cap, cur, rfl, hb, hg, hn, hm, hs, ht⟩
  · exact ⟨none, 0, rfl, by omega, by omega, hl, fun hp => absurd hp (by omega)⟩
  · refine ⟨_, cap, rfl, hn, by simpa [maxLen] using hm, hl, fun hp => ⟨g, 0, rfl, fun i hi => ?_⟩⟩
    rw [Nat.zero_add, cell_of_row w g i _ _ _ hg]
    have h1 : (cur.toList.take (n * 1))[i]? = (flatN ns)[i]? := by rw [ht]
    rw [List.getElem?_take, if_pos (by omega)] at h1
    have h2 : (flatN ns)[i]? = some (.string (strOfNums (ns.getD i []))) := by unfold flatN; simp [show i < ns.length by omega]
    rw [h2] at h1
    simpa using h1
theorem own_cap {w : World} {B : Nat} {e : TypeId} {s n m cap : Nat} {a : Option Addr} {xs : List Value} (h : w.ownsRow B e s (.slice a m cap) n xs) : a = none → cap = 0 := by
  intro ha
  rcases h.2 with ⟨h1, _⟩ | ⟨g, c, cur, h1, _⟩
  · cases h1; rfl
  · cases h1; cases ha
end Go.Proofs.YtgncpchgmjacdaaGreatDoor
