/- The walk of few: rules that are not too deep, and a text that is not too long. -/
import Derived.Test.YtjbhfonokgkalaaReaU
namespace Go.Proofs.Ytjbhfonokgkalaa
open Go.RowKit
set_option linter.unusedVariables false
set_option linter.unusedSimpArgs false

theorem info_Ru : (Try.prog.info? 35).map (fun i => (i.zero, i.size, i.bytes)) = some (some (.agg #[.int .i64 0, .slice none 0 0, .slice none 0 0, .int .i64 0, .slice none 0 0, .slice none 0 0, .bool false, .bool false]), 8, 120) := by kernel_rfl
/-- Rules with where they lie, as values. -/
def flatU (ps : List (Rl × RlP)) : List Value := ps.flatMap fun x => (x.1.vals x.2).toList
theorem flatU_len : (ps : List (Rl × RlP)) → (flatU ps).length = ps.length * 8
  | [] => rfl
  | x :: r => by
    show ((x.1.vals x.2).toList ++ flatU r).length = _
    rw [List.length_append, flatU_len r]
    simp
    omega
theorem flatU_get : (ps : List (Rl × RlP)) → (i j : Nat) → j < 8 → (flatU ps)[i * 8 + j]? = (ps[i]?).bind fun x => (x.1.vals x.2)[j]?
  | [], i, j, _ => by simp [flatU]
  | x :: r, 0, j, hj => by
    show ((x.1.vals x.2).toList ++ flatU r)[0 * 8 + j]? = _
    rw [List.getElem?_append_left (by simp; omega)]
    simp
  | x :: r, i + 1, j, hj => by
    show ((x.1.vals x.2).toList ++ flatU r)[(i + 1) * 8 + j]? = _
    rw [List.getElem?_append_right (by simp; omega), show (i + 1) * 8 + j - (x.1.vals x.2).toList.length = i * 8 + j by simp; omega, flatU_get r i j hj]
    simp
theorem flatU_cells (ps : List (Rl × RlP)) : ∀ u ∈ flatU ps, u.oneCell' = true := by
  intro u hu
  simp only [flatU, List.mem_flatMap] at hu
  obtain ⟨x, _, hx⟩ := hu
  simp at hx
  rcases hx with rfl | rfl | rfl | rfl | rfl | rfl | rfl | rfl <;> rfl
/-- A row of rules of the call's own. -/
def OwnU (w : World) (B : Nat) (v : Value) (d : Nat) (l : List Rl) : Prop := ∃ ps : List (Rl × RlP), ps.map (fun x => x.1) = l ∧ w.ownsRow B 35 8 v ps.length (flatU ps) ∧ ∀ x ∈ ps, RlAt w d x.1 x.2
theorem OwnU.later {w w' : World} {B : Nat} {v : Value} {d : Nat} {l : List Rl} (h : OwnU w B v d l) (hb : Below w.heap.size w w') : OwnU w' B v d l := by
  obtain ⟨ps, h1, h2, h3⟩ := h
  exact ⟨ps, h1, own_later5 h2 hb, fun x hx => (h3 x hx).later hb⟩
theorem OwnU.row {w : World} {B : Nat} {v : Value} {d : Nat} {l : List Rl} (h : OwnU w B v d l) : ∃ a c, v = .slice a l.length c ∧ RowR w d a l.length l := by
  obtain ⟨ps, h1, h2, h3⟩ := h
  obtain ⟨a, c, rfl⟩ := own_sl1 h2
  have hl : ps.length = l.length := by rw [← h1]; simp
  refine ⟨a, c, by rw [hl], rfl, fun i hi => ?_⟩
  rcases h2.2 with ⟨hv, h0⟩ | ⟨g, cap, cur, hv, hb, hg, hnc, hm, hs, ht⟩
  · omega
  · cases hv
    have hip : i < ps.length := by omega
    have e1 : l[i] = ps[i].1 := by simp only [← h1, List.getElem_map]
    refine ⟨g, 0, ps[i].2, rfl, by rw [e1]; exact h3 _ (List.getElem_mem hip), fun j v hv => ?_⟩
    rw [e1] at hv
    have hj : j < 8 := by
      rcases Nat.lt_or_ge j 8 with h | h
      · exact h
      · rw [Array.getElem?_eq_none (by simpa using h)] at hv; cases hv
    rw [Nat.zero_add, cell_of_row w g _ _ _ _ hg]
    have h5 := flatU_get ps i j hj
    rw [← ht, List.getElem?_take, if_pos (by omega), List.getElem?_eq_getElem hip] at h5
    simp only [Array.getElem?_toList] at h5
    rw [h5]
    exact hv
/-- Which rules few keeps. -/
def keepR (r : Rl) : Bool := decide (dpF 12 r.left ≤ 8) && decide (dpF 12 r.right ≤ 8) && decide (IntKind.i64.wrap r.left.sz ≤ 60) && decide (IntKind.i64.wrap r.right.sz ≤ 60)
theorem RlAt.cut {w : World} {d : Nat} {r : Rl} {q : RlP} (h : RlAt w d r q) (hk : keepR r = true) : RlAt w 12 r q := by
  unfold keepR at hk
  simp only [Bool.and_eq_true, decide_eq_true_eq] at hk
  exact ⟨h.1.cut 12 (by omega), h.2.cut 12 (by omega)⟩
/-- What few leaves of rules. -/
def fewR (l : List Rl) : List Rl := (l.take 10).filter keepR
theorem fewR_len (l : List Rl) : (fewR l).length ≤ 10 := by
  unfold fewR
  have h1 := List.length_filter_le keepR (l.take 10)
  have h2 : (l.take 10).length ≤ 10 := by simp; omega
  omega
theorem filter_snoc (l : List Rl) (k : Nat) (hk : k < l.length) : (l.take (k + 1)).filter keepR = (l.take k).filter keepR ++ if keepR l[k] then [l[k]] else [] := by
  rw [List.take_add_one, List.getElem?_eq_getElem hk, List.filter_append]
  congr 1
  simp only [Option.toList_some, List.filter_cons, List.filter_nil]
/-- What few leaves. -/
def FewPost (l : List Rl) (xs : List Int) (w : World) (e : Ending) (w' : World) : Prop :=
  ∃ v1 a2 c2, e = .returned (.tuple #[v1, .slice a2 (xs.take 16).length c2]) ∧ OwnU w' w.heap.size v1 12 (fewR l) ∧ w'.ownsRow w.heap.size 3 1 (.slice a2 (xs.take 16).length c2) (xs.take 16).length ((xs.take 16).map (Value.int .i64)) ∧ Below w.heap.size w w'
/-- A rule whose values lie in a row. -/
def InRow (w : World) (al : Option Addr) (x : Rl × RlP) : Prop := ∃ b off i, al = some ⟨b, off, none⟩ ∧ ∀ j v, (x.1.vals x.2)[j]? = some v → w.cell? ⟨b, off + i * 8 + j, none⟩ = some v
/-- What few leaves, and that what it keeps is what came in. -/
def FewPost2 (al : Option Addr) (l : List Rl) (xs : List Int) (w : World) (e : Ending) (w' : World) : Prop :=
  ∃ v1 a2 c2 ps, e = .returned (.tuple #[v1, .slice a2 (xs.take 16).length c2]) ∧ ps.map (fun x => x.1) = fewR l ∧ w'.ownsRow w.heap.size 35 8 v1 ps.length (flatU ps) ∧ (∀ x ∈ ps, RlAt w 12 x.1 x.2 ∧ InRow w al x) ∧ w'.ownsRow w.heap.size 3 1 (.slice a2 (xs.take 16).length c2) (xs.take 16).length ((xs.take 16).map (Value.int .i64)) ∧ Below w.heap.size w w'
theorem FewPost2.few {al : Option Addr} {l : List Rl} {xs : List Int} {w : World} {e : Ending} {w' : World} (h : FewPost2 al l xs w e w') : FewPost l xs w e w' := by
  obtain ⟨v1, a2, c2, ps, h1, h2, h3, h4, h5, h6⟩ := h
  exact ⟨v1, a2, c2, h1, ⟨ps, h2, h3, fun x hx => (h4 x hx).1.later h6⟩, h5, h6⟩
end Go.Proofs.Ytjbhfonokgkalaa
