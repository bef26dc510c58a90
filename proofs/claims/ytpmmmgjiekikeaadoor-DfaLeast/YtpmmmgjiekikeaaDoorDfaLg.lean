/- What DfaLeast asks, without memory: numbers as they are met, and pairs that are told apart. -/
import Derived.Test.YtpmmmgjiekikeaaDoorDfaLe
namespace Go.Proofs.YtpmmmgjiekikeaaDoor
open Go.RowKit
set_option linter.unusedVariables false
set_option linter.unusedSimpArgs false

theorem metAll_app : (a b : List (List Nat)) → (i m : Nat) → metAll i m (a ++ b) = (metAll i m a).bind fun m' => metAll (i + a.length) m' b
  | [], b, i, m => by simp [metAll]
  | r :: a, b, i, m => by
    simp only [List.cons_append, metAll]
    split
    · cases metRow m r with
      | none => rfl
      | some m' =>
        simp only [Option.bind_some]
        rw [metAll_app a b (i + 1) m', show i + (r :: a).length = i + 1 + a.length by simp; omega]
    · rfl
/-- How many are met ahead of a row, and within it. -/
theorem met_ahead {nx : List (List Nat)} (h : AsMet nx) {i m : Nat} (hi : i < nx.length) (hm : metAll 0 1 (nx.take i) = some m) : i < m ∧ ∃ m', metRow m nx[i] = some m' ∧ metAll 0 1 (nx.take (i + 1)) = some m' := by
  have h0 : metAll 0 1 (nx.take i ++ nx.drop i) = some nx.length := by rw [List.take_append_drop]; exact h
  rw [metAll_app, hm, List.drop_eq_getElem_cons hi] at h0
  simp only [Option.bind_some, metAll, List.length_take, Nat.zero_add] at h0
  rw [Nat.min_eq_left (by omega)] at h0
  split at h0
  · rename_i him
    refine ⟨him, ?_⟩
    cases hr : metRow m nx[i] with
    | none => rw [hr] at h0; simp at h0
    | some m' =>
      refine ⟨m', rfl, ?_⟩
      rw [take_snoc nx i hi, metAll_app, hm]
      simp only [Option.bind_some, metAll, List.length_take, Nat.zero_add]
      rw [Nat.min_eq_left (by omega), if_pos him, hr]
      rfl
  · cases h0
theorem met_within {row : List Nat} {m m' c mc : Nat} (h : metRow m row = some m') (hc : c < row.length) (hmc : metRow m (row.take c) = some mc) : (row[c] < mc ∧ metRow m (row.take (c + 1)) = some mc) ∨ (row[c] = mc ∧ metRow m (row.take (c + 1)) = some (mc + 1)) := by
  have h0 : metRow m (row.take c ++ row.drop c) = some m' := by rw [List.take_append_drop]; exact h
  rw [metRow_app, hmc, List.drop_eq_getElem_cons hc] at h0
  simp only [Option.bind_some, metRow] at h0
  rw [take_snoc row c hc, metRow_app, hmc]
  simp only [Option.bind_some, metRow]
  by_cases h1 : row[c] < mc
  · exact .inl ⟨h1, by rw [if_pos h1]⟩
  · rw [if_neg h1] at h0 ⊢
    by_cases h2 : row[c] = mc
    · exact .inr ⟨h2, by rw [if_pos h2]⟩
    · rw [if_neg h2] at h0; cases h0
theorem metRow_bound : {r : List Nat} → {m m' : Nat} → metRow m r = some m' → m' ≤ m + r.length
  | [], m, m', h => by simp only [metRow, Option.some.injEq] at h; simp; omega
  | x :: r, m, m', h => by
    simp only [metRow] at h
    split at h
    · have := metRow_bound h; simp; omega
    · split at h
      · have := metRow_bound h; simp; omega
      · cases h
/-! Pairs that are told apart. -/
/-- Some row tells two states apart. -/
def TaW (K : Nat) (nx : List (List Nat)) (ou : List Nat) (i j : Nat) : Prop := ∃ w, Wd K w ∧ ou.getD (runM nx i w) 0 ≠ ou.getD (runM nx j w) 0
/-- Their sets are not the same, or a step to a pair that is marked. -/
def isA (nx : List (List Nat)) (ou : List Nat) (F : Nat → Nat → Bool) (i j c : Nat) : Bool := (ou.getD i 0 != ou.getD j 0) || (List.range c).any fun d => F (nxt nx i d) (nxt nx j d)
theorem isA_zero (nx : List (List Nat)) (ou : List Nat) (F : Nat → Nat → Bool) (i j : Nat) : isA nx ou F i j 0 = (ou.getD i 0 != ou.getD j 0) := by simp [isA]
theorem isA_succ (nx : List (List Nat)) (ou : List Nat) (F : Nat → Nat → Bool) (i j c : Nat) : isA nx ou F i j (c + 1) = (isA nx ou F i j c || F (nxt nx i c) (nxt nx j c)) := by
  simp [isA, List.range_succ, Bool.or_assoc]
theorem isA_told {K : Nat} {nx : List (List Nat)} {ou : List Nat} {F : Nat → Nat → Bool} {n : Nat} (hnx : ∀ i c, nxt nx i c < n) (hF : ∀ i j, i < n → j < n → F i j = true → TaW K nx ou i j) {i j : Nat} (h : isA nx ou F i j K = true) : TaW K nx ou i j := by
  simp only [isA, Bool.or_eq_true, bne_iff_ne, ne_eq, List.any_eq_true, List.mem_range] at h
  rcases h with h | ⟨d, hd, h⟩
  · exact ⟨[], fun c hc => by simp at hc, h⟩
  · obtain ⟨w, hw, hne⟩ := hF _ _ (hnx i d) (hnx j d) h
    refine ⟨d :: w, fun c hc => ?_, hne⟩
    rcases List.mem_cons.1 hc with rfl | hc
    · exact hd
    · exact hw c hc
/-- Marks that are closed, and told, are of just those that are not the same. -/
theorem closed_all {K : Nat} {xs : List (Nd × Bool)} {nx : List (List Nat)} {ou : List Nat} (hle : LeastOf K xs nx ou) {F : Nat → Nat → Bool} (hF : ∀ i j, i < nx.length → j < nx.length → F i j = true → TaW K nx ou i j) (hc : ∀ i j, i < nx.length → j < nx.length → isA nx ou F i j K = true → F i j = true) (i j : Nat) (hi : i < nx.length) (hj : j < nx.length) : F i j = decide (i ≠ j) := by
  have hpos := asMet_pos hle.asMet
  have hn : ∀ s c, nxt nx s c < nx.length := fun s c => nxt_lt (K := K) hle.asMet hpos
  by_cases he : i = j
  · subst he
    have : F i i = false := by
      rw [← Bool.not_eq_true]
      intro h
      obtain ⟨w, _, hne⟩ := hF i i hi hi h
      exact hne rfl
    rw [this]; simp
  · rw [show decide (i ≠ j) = true by simp [he]]
    refine Classical.byContradiction fun hno => he ?_
    have key : ∀ (w : List Nat) (a b : Nat), a < nx.length → b < nx.length → Wd K w → F a b ≠ true → ou.getD (runM nx a w) 0 = ou.getD (runM nx b w) 0 := by
      intro w
      induction w with
      | nil =>
        intro a b ha hb _ hab
        refine Classical.byContradiction fun hne => hab (hc a b ha hb ?_)
        simp only [isA, Bool.or_eq_true, bne_iff_ne, ne_eq]
        exact .inl hne
      | cons c w ih =>
        intro a b ha hb hw hab
        rw [runM_cons, runM_cons]
        refine ih _ _ (hn a c) (hn b c) (fun d hd => hw d (List.mem_cons_of_mem _ hd)) fun hF2 => hab (hc a b ha hb ?_)
        simp only [isA, Bool.or_eq_true, List.any_eq_true, List.mem_range]
        exact .inr ⟨c, hw c List.mem_cons_self, hF2⟩
    exact hle.apart i j hi hj fun w hw => key w i j hi hj hw hno
/-! Marks in memory. -/
/-- A table of marks in memory. -/
def BMat (V : World) (T : Nat) (F : Nat → Nat → Bool) : Prop := ∃ cs : Array Value, V.heap[T]? = some (.cells cs 57 (0, 0)) ∧ cs.size = 3600 ∧ ∀ i j, i < 60 → j < 60 → cs[i * 60 + j]? = some (.bool (F i j))
theorem zeros57 : Tryd.zeroCells57 = Array.replicate 3600 (.bool false) := by kernel_rfl
theorem BMat.first (V : World) : BMat (V.alloc (.cells Tryd.zeroCells57 57)) V.heap.size (fun _ _ => false) :=
  ⟨Tryd.zeroCells57, heap_alloc_new V _, by rw [zeros57]; simp, fun i j hi hj => by rw [zeros57, Array.getElem?_replicate, if_pos (by omega)]⟩
theorem BMat.cell {V : World} {T : Nat} {F : Nat → Nat → Bool} (h : BMat V T F) {i j : Nat} (hi : i < 60) (hj : j < 60) : V.cell? ⟨T, i * 60 + j, none⟩ = some (.bool (F i j)) := by
  obtain ⟨cs, h1, _, h3⟩ := h
  rw [cell_of_row V T _ _ _ _ h1]; exact h3 i j hi hj
theorem BMat.frozen {V : World} {T : Nat} {F : Nat → Nat → Bool} (h : BMat V T F) (p : Nat) : V.frozen? ⟨T, p, none⟩ = false := by
  obtain ⟨cs, h1, _⟩ := h
  exact Lib.frozen_of_heap h1 p
theorem BMat.drewN {V : World} {T : Nat} {F : Nat → Nat → Bool} (h : BMat V T F) (n : Nat) : BMat (V.drewN n) T F := h
def markF (F : Nat → Nat → Bool) (i j : Nat) : Nat → Nat → Bool := fun a b => F a b || (decide (a = i) && decide (b = j))
theorem BMat.mark {V : World} {T : Nat} {F : Nat → Nat → Bool} (h : BMat V T F) {i j : Nat} (hi : i < 60) (hj : j < 60) : BMat (V.setCell ⟨T, i * 60 + j, none⟩ (.bool true)) T (markF F i j) := by
  obtain ⟨cs, h1, h2, h3⟩ := h
  refine ⟨cs.setIfInBounds (i * 60 + j) (.bool true), heap_setCell_same V T _ cs _ _ h1, by simp [h2], fun a b ha hb => ?_⟩
  rw [Array.getElem?_setIfInBounds]
  by_cases he : i * 60 + j = a * 60 + b
  · have e1 : a = i := by omega
    have e2 : b = j := by omega
    subst e1 e2
    rw [if_pos rfl, if_pos (by rw [h2]; omega)]
    simp [markF]
  · rw [if_neg he, h3 a b ha hb]
    have : (decide (a = i) && decide (b = j)) = false := by
      rw [Bool.and_eq_false_iff, decide_eq_false_iff_not, decide_eq_false_iff_not]
      by_cases e1 : a = i
      · right; intro e2; subst e1 e2; exact he rfl
      · exact .inl e1
    simp [markF, this]
/-- How many are not marked yet. -/
def isF : Option Value → Bool
  | some (.bool false) => true
  | _ => false
def mleft (V : World) (T : Nat) : Nat := ((List.range 3600).filter fun p => isF (V.cell? ⟨T, p, none⟩)).length
theorem filter_lt {α : Type} (p q : α → Bool) : (l : List α) → (∀ x, x ∈ l → p x = true → q x = true) → ∀ y, y ∈ l → q y = true → p y = false → (l.filter p).length < (l.filter q).length
  | [], _, y, hy, _, _ => by simp at hy
  | x :: l, h, y, hy, h1, h2 => by
    have hle : ∀ l : List α, (∀ x, x ∈ l → p x = true → q x = true) → (l.filter p).length ≤ (l.filter q).length := by
      intro l
      induction l with
      | nil => intro _; simp
      | cons a l ih =>
        intro h
        have := ih (fun x hx => h x (List.mem_cons_of_mem _ hx))
        cases hp : p a with
        | true => simp [List.filter_cons, hp, h a List.mem_cons_self hp]; omega
        | false => cases hq : q a <;> simp [List.filter_cons, hp, hq] <;> omega
    rcases List.mem_cons.1 hy with rfl | hy
    · have := hle l (fun x hx => h x (List.mem_cons_of_mem _ hx))
      simp [List.filter_cons, h1, h2]; omega
    · have := filter_lt p q l (fun x hx => h x (List.mem_cons_of_mem _ hx)) y hy h1 h2
      cases hp : p x with
      | true => simp [List.filter_cons, hp, h x List.mem_cons_self hp]; omega
      | false => cases hq : q x <;> simp [List.filter_cons, hp, hq] <;> omega
theorem mleft_drewN (V : World) (T n : Nat) : mleft (V.drewN n) T = mleft V T := rfl
theorem mleft_mark {V : World} {T : Nat} {F : Nat → Nat → Bool} (h : BMat V T F) {i j : Nat} (hi : i < 60) (hj : j < 60) (hF : F i j = false) : mleft (V.setCell ⟨T, i * 60 + j, none⟩ (.bool true)) T < mleft V T := by
  obtain ⟨cs, h1, h2, h3⟩ := h
  have hn := heap_setCell_same V T (i * 60 + j) cs _ (.bool true) h1
  refine filter_lt _ _ _ (fun p hp hx => ?_) (i * 60 + j) (List.mem_range.2 (by omega)) ?_ ?_
  · rw [cell_of_row _ T p _ _ _ hn, Array.getElem?_setIfInBounds] at hx
    rw [cell_of_row V T p _ _ _ h1]
    split at hx
    · split at hx
      · simp [isF] at hx
      · simp [isF] at hx
    · exact hx
  · rw [cell_of_row V T _ _ _ _ h1, h3 i j hi hj, hF]; rfl
  · rw [cell_of_row _ T _ _ _ _ hn, Array.getElem?_setIfInBounds, if_pos rfl, if_pos (by rw [h2]; omega)]; rfl
def tN : Value → Nat
  | .bool true => 1
  | _ => 0
/-- All that is marked is told apart. -/
def ToldM (KN m : Nat) (nx : List (List Nat)) (ou : List Nat) (F : Nat → Nat → Bool) : Prop := ∀ i j, i < m → j < m → F i j = true → TaW KN nx ou i j
/-- What a round keeps: it has marked some, or it has come by some pairs and all is as it was. -/
def LInv (KN m : Nat) (nx : List (List Nat)) (ou : List Nat) (F : Nat → Nat → Bool) (mw : Nat) (Pd : Nat → Nat → Prop) (b : Bool) (w3 wz : World) (T : Nat) : Prop :=
  ∃ F', BMat wz T F' ∧ Below w3.heap.size w3 wz ∧ ToldM KN m nx ou F' ∧ (b = true → mleft wz T < mw) ∧ (b = false → F' = F ∧ mleft wz T = mw ∧ ∀ i j, Pd i j → isA nx ou F i j KN = true → F i j = true)
theorem LInv.imp {KN m : Nat} {nx : List (List Nat)} {ou : List Nat} {F : Nat → Nat → Bool} {mw : Nat} {P Q : Nat → Nat → Prop} {b : Bool} {w3 wz : World} {T : Nat} (h : LInv KN m nx ou F mw P b w3 wz T) (hPQ : ∀ i j, Q i j → P i j) : LInv KN m nx ou F mw Q b w3 wz T := by
  obtain ⟨F', h1, h2, h3, h4, h5⟩ := h
  exact ⟨F', h1, h2, h3, h4, fun hb => ⟨(h5 hb).1, (h5 hb).2.1, fun i j hq => (h5 hb).2.2 i j (hPQ i j hq)⟩⟩
end Go.Proofs.YtpmmmgjiekikeaaDoor
