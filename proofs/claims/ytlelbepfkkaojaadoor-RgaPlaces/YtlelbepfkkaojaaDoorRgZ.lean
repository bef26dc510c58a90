/- The walks of the statements' small functions: SameIDs, Same, find, without; shown. -/
import Derived.Test.YtlelbepfkkaojaaDoorRgY
namespace Go.Proofs.YtlelbepfkkaojaaDoor
open Go.RowKit Go.Shelf Go.Maps Go.Sort
set_option linter.unusedVariables false
set_option linter.unusedSimpArgs false

/-- A slice that reads as runes. -/
def RdC (w : World) (a : Option Addr) (n : Nat) (l : List Int) : Prop := l.length = n ∧ (0 < n → ∃ b off, a = some ⟨b, off, none⟩ ∧ ∀ k, k < n → w.cell? ⟨b, off + k, none⟩ = some (.int .i32 (l.getD k 0)))
theorem RdC.later {w w' : World} {a : Option Addr} {n : Nat} {l : List Int} (h : RdC w a n l) (hb : Below w.heap.size w w') : RdC w' a n l := by
  refine ⟨h.1, fun h0 => ?_⟩
  obtain ⟨b, off, ha, hc⟩ := h.2 h0
  exact ⟨b, off, ha, fun j hj => hb.cell (World.block_lt_of_cell? w _ (hc j hj)) ▸ hc j hj⟩
theorem RdC.gw {w w' : World} {a : Option Addr} {n : Nat} {l : List Int} (h : RdC w a n l) (hb : Gw w w') : RdC w' a n l := h.later hb.below
theorem RdC.at {w : World} {a : Option Addr} {n : Nat} {l : List Int} (h : RdC w a n l) (i : Nat) (hi : i < n) : ∃ b off, a = some ⟨b, off, none⟩ ∧ w.cell? ⟨b, off + i, none⟩ = some (.int .i32 (l.getD i 0)) := by
  obtain ⟨b, off, ha, hc⟩ := h.2 (by omega)
  exact ⟨b, off, ha, hc i hi⟩
theorem rdC_own {w : World} {B : Nat} {e : TypeId} {v : Value} {n : Nat} {l : List Int} (h : w.ownsRow B e 1 v n (flatC l)) : ∃ a cap, v = .slice a n cap ∧ n ≤ cap ∧ cap ≤ 9223372036854775807 ∧ RdC w a n l := by
  have hl : l.length = n := by have := h.1; rw [flatC_len] at this; omega
  rcases h.2 with ⟨rfl, rfl⟩ | ⟨g, cap, cur, rfl, hb, hg, hn, hm, hs, ht⟩
  · exact ⟨none, 0, rfl, by omega, by omega, hl, fun hp => absurd hp (by omega)⟩
  · refine ⟨_, cap, rfl, hn, by simpa [maxLen] using hm, hl, fun hp => ⟨g, 0, rfl, fun k hk => ?_⟩⟩
    rw [Nat.zero_add, cell_of_row w g _ _ _ _ hg]
    have h2 : (cur.toList.take (n * 1))[k]? = (flatC l)[k]? := by rw [ht]
    rw [List.getElem?_take, if_pos (by omega)] at h2
    unfold flatC at h2
    rw [List.getElem?_map, List.getElem?_eq_getElem (show k < l.length by omega)] at h2
    have h3 : cur[k]? = some (.int .i32 l[k]) := by simpa using h2
    rw [h3]
    simp [show k < l.length by omega]
theorem rdE_own14 {w : World} {B : Nat} {e : TypeId} {v : Value} {n : Nat} {l : List (Int × Int)} (h : w.ownsRow B e 2 v n (flatE l)) : ∃ a cap, v = .slice a n cap ∧ n ≤ cap ∧ cap ≤ 9223372036854775807 ∧ RdE w a n l ∧ (a = none → cap = 0) := by
  have hl : l.length = n := by have := h.1; rw [flatE_len] at this; omega
  rcases h.2 with ⟨rfl, rfl⟩ | ⟨g, cap, cur, rfl, hb, hg, hn, hm, hs, ht⟩
  · exact ⟨none, 0, rfl, by omega, by omega, ⟨hl, fun hp => absurd hp (by omega)⟩, fun _ => rfl⟩
  · refine ⟨_, cap, rfl, hn, by simpa [maxLen] using hm, ⟨hl, fun hp => ⟨g, 0, rfl, fun j u hu => ?_⟩⟩, fun h => by cases h⟩
    rw [Nat.zero_add, cell_of_row w g _ _ _ _ hg]
    rw [← ht, List.getElem?_take] at hu
    split at hu
    · simpa using hu
    · cases hu
theorem below_drewX {B : Nat} {w w' : World} (h : Below B w w') (q : Nat) : Below B w (w'.drewN q) := ⟨h.os, h.tape, h.output, h.size, h.block⟩
theorem neq_bool (a b : Int) (z : Bool) (hz : z = decide (¬ a = b)) : (a != b) = z := by
  subst hz
  by_cases h1 : a = b <;> simp [h1]
theorem neq_rune (a b : Int) (z : Bool) (hz : z = decide (¬ a = b)) (W : World) : (binOp .neq 21 (.int .i32 a) (.int .i32 b)).run Tryd.prog W = .ok (.bool z) W := by
  subst hz
  by_cases h1 : a = b <;> go_simp
theorem neq_idz (a1 a2 b1 b2 : Int) (z : Bool) (hz : z = decide (¬ (a1 = b1 ∧ a2 = b2))) (W : World) : (binOp .neq 30 (.agg #[.int .i64 a1, .int .i64 a2]) (.agg #[.int .i64 b1, .int .i64 b2])).run Tryd.prog W = .ok (.bool z) W := by
  subst hz
  by_cases h1 : a1 = b1 <;> by_cases h2 : a2 = b2 <;> go_simp
theorem take_eqI (A B : List (Int × Int)) (i : Nat) (ha : i < A.length) (hb : i < B.length) : A.take (i + 1) = B.take (i + 1) ↔ A.take i = B.take i ∧ A.getD i (0, 0) = B.getD i (0, 0) := by
  have e1 : A.take (i + 1) = A.take i ++ [A.getD i (0, 0)] := by rw [List.take_add_one]; simp [ha]
  have e2 : B.take (i + 1) = B.take i ++ [B.getD i (0, 0)] := by rw [List.take_add_one]; simp [hb]
  rw [e1, e2]
  constructor
  · intro h
    have h3 := List.append_inj h (by simp; omega)
    exact ⟨h3.1, by simpa using h3.2⟩
  · rintro ⟨h1, h2⟩
    rw [h1, h2]
theorem take_eqC (A B : List Int) (i : Nat) (ha : i < A.length) (hb : i < B.length) : A.take (i + 1) = B.take (i + 1) ↔ A.take i = B.take i ∧ A.getD i 0 = B.getD i 0 := by
  have e1 : A.take (i + 1) = A.take i ++ [A.getD i 0] := by rw [List.take_add_one]; simp [ha]
  have e2 : B.take (i + 1) = B.take i ++ [B.getD i 0] := by rw [List.take_add_one]; simp [hb]
  rw [e1, e2]
  constructor
  · intro h
    have h3 := List.append_inj h (by simp; omega)
    exact ⟨h3.1, by simpa using h3.2⟩
  · rintro ⟨h1, h2⟩
    rw [h1, h2]
/-- A row without an ID. -/
def wtI (l : List (Int × Int)) (i : Int × Int) : List (Int × Int) := l.filter fun x => !decide (x = i)
theorem wt_snoc (l : List (Int × Int)) (i : Int × Int) (k : Nat) (h : k < l.length) : wtI (l.take (k + 1)) i = wtI (l.take k) i ++ (if l.getD k (0, 0) = i then [] else [l.getD k (0, 0)]) := by
  have e : l.take (k + 1) = l.take k ++ [l.getD k (0, 0)] := by
    rw [List.take_add_one, List.getElem?_eq_getElem h]
    simp [h]
  rw [e]
  generalize l.getD k (0, 0) = X
  unfold wtI
  rw [List.filter_append]
  congr 1
  by_cases q : X = i <;> simp [q]
def o14a : Opn := ⟨1, 0, 1, true, 0, 0, 97⟩
def o14b : Opn := ⟨1, 1, 1, true, 0, 0, 98⟩
def o14c : Opn := ⟨2, 0, 2, true, 1, 0, 99⟩
def o14d : Opn := ⟨2, 1, 3, false, 1, 0, 0⟩
theorem shown14_facts : putA [] o14a = (true, 0) ∧ putO [] o14a = [o14a] ∧ putA [o14a] o14b = (true, 0) ∧ putO [o14a] o14b = [o14a, o14b] ∧ putA [o14a, o14b] o14c = (true, 0) ∧ putO [o14a, o14b] o14c = [o14a, o14b, o14c] ∧ putA [o14a, o14b, o14c] o14d = (false, 6) ∧ putO [o14a, o14b, o14c] o14d = [o14a, o14b, o14c] ∧ visC (els [o14a, o14b, o14c]) = [98, 97, 99] ∧ cnt (marks [o14a, o14b, o14c]) = 3 ∧ topO [o14a, o14b, o14c] = 2 := by
  refine ⟨?_, ?_, ?_, ?_, ?_, ?_, ?_, ?_, ?_, ?_, ?_⟩ <;> first | rfl | decide
end Go.Proofs.YtlelbepfkkaojaaDoor
