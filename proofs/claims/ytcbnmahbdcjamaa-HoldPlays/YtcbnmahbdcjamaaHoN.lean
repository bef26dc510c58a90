/- Mathematics of the statements of a hold. -/
import Derived.Test.YtcbnmahbdcjamaaHoM
namespace Go.Proofs.Ytcbnmahbdcjamaa
set_option linter.unusedVariables false
set_option linter.unusedSimpArgs false

theorem addK_has {l : List Opn} {r : Nat} {o : Opn} (h : hasK l o.a o.s = true) : addK l r o = l ∧ addE l r o = 0 := by
  unfold addK addE; rw [if_pos h, if_pos h]; exact ⟨rfl, rfl⟩
theorem addK_new {l : List Opn} {r : Nat} {o : Opn} (h : hasK l o.a o.s = false) (hr : l.length < r) : addK l r o = putK l o ∧ addE l r o = 0 := by
  simp [addK, addE, h, hr]
theorem addK_full {l : List Opn} {r : Nat} {o : Opn} (h : hasK l o.a o.s = false) (hr : ¬ l.length < r) : addK l r o = l ∧ addE l r o = 8 := by
  simp [addK, addE, h, hr]
theorem hasK_put (l : List Opn) (o : Opn) (a s : Int) : hasK (putK l o) a s = true ↔ (o.a = a ∧ o.s = s) ∨ hasK l a s = true := by
  rw [hasK_iff, hasK_iff]
  constructor
  · rintro ⟨x, hx, h1⟩
    rcases (putK_mem l o x).1 hx with rfl | hx
    · exact .inl h1
    · exact .inr ⟨x, hx, h1⟩
  · rintro (h | ⟨x, hx, h1⟩)
    · exact ⟨o, (putK_mem l o o).2 (.inl rfl), h⟩
    · exact ⟨x, (putK_mem l o x).2 (.inr hx), h1⟩
theorem hasK_own (l : List Opn) (o : Opn) : hasK (putK l o) o.a o.s = true := (hasK_put l o _ _).2 (.inl ⟨rfl, rfl⟩)
theorem addK_room {l : List Opn} {r : Nat} {o : Opn} (hr : l.length < r) : hasK (addK l r o) o.a o.s = true ∧ addE l r o = 0 := by
  cases h : hasK l o.a o.s
  · obtain ⟨h1, h2⟩ := addK_new h hr
    exact ⟨by rw [h1]; exact hasK_own l o, h2⟩
  · obtain ⟨h1, h2⟩ := addK_has (r := r) h
    exact ⟨by rw [h1]; exact h, h2⟩
theorem addK_mem {l : List Opn} {r : Nat} {o x : Opn} (h : x ∈ addK l r o) : x = o ∨ x ∈ l := by
  unfold addK at h
  split at h
  · exact .inr h
  · split at h
    · exact (putK_mem l o x).1 h
    · exact .inr h
/-- What operations leave, one behind the other. -/
def adsK (r : Nat) (xs : List Opn) : List Opn := xs.foldl (fun l o => addK l r o) []
theorem take_nextH (xs : List Opn) (i : Nat) (h : i < xs.length) : xs.take (i + 1) = xs.take i ++ [xs.getD i op0] := by
  rw [List.take_add_one, List.getElem?_eq_getElem h]
  simp [h]
theorem adsK_snoc (r : Nat) (xs : List Opn) (i : Nat) (h : i < xs.length) : adsK r (xs.take (i + 1)) = addK (adsK r (xs.take i)) r (xs.getD i op0) := by
  unfold adsK
  rw [take_nextH xs i h, List.foldl_append]
  rfl
theorem adsK_len (r : Nat) (xs : List Opn) (i : Nat) : (adsK r (xs.take i)).length ≤ i := by
  have h : ∀ (l : List Opn) (A : List Opn), (l.foldl (fun l o => addK l r o) A).length ≤ A.length + l.length := by
    intro l
    induction l with
    | nil => intro A; simp
    | cons x l ih =>
      intro A
      rw [List.foldl_cons]
      have h1 := ih (addK A r x)
      have h2 : (addK A r x).length ≤ A.length + 1 := by
        unfold addK
        split
        · omega
        · split
          · rw [putK_len]; omega
          · omega
      simp only [List.length_cons]
      omega
  have := h (xs.take i) []
  rw [List.length_take] at this
  unfold adsK
  simp only [List.length_nil] at this
  omega
theorem adsK_mem (r : Nat) (xs : List Opn) : ∀ x ∈ adsK r xs, x ∈ xs := by
  have h : ∀ (l : List Opn) (A : List Opn), ∀ x ∈ l.foldl (fun l o => addK l r o) A, x ∈ A ∨ x ∈ l := by
    intro l
    induction l with
    | nil => intro A x hx; exact .inl hx
    | cons y l ih =>
      intro A x hx
      rw [List.foldl_cons] at hx
      rcases ih _ x hx with q | q
      · rcases addK_mem q with rfl | q
        · exact .inr (List.mem_cons_self ..)
        · exact .inl q
      · exact .inr (List.mem_cons_of_mem _ q)
  intro x hx
  rcases h xs [] x hx with q | q
  · cases q
  · exact q
theorem adsK_asc (r : Nat) (xs : List Opn) : AscK (adsK r xs) := by
  have h : ∀ (l : List Opn) (A : List Opn), AscK A → AscK (l.foldl (fun l o => addK l r o) A) := by
    intro l
    induction l with
    | nil => intro A hA; exact hA
    | cons y l ih => intro A hA; exact ih _ (addK_asc r y hA)
  exact h xs [] List.Pairwise.nil
/-- Of a row in order the first goes. -/
theorem remK_head {x : Opn} {l : List Opn} (h : AscK (x :: l)) : remK (x :: l) x.a x.s = l := by
  unfold remK
  rw [List.filter_cons_of_neg (by simp)]
  rw [List.filter_eq_self]
  intro y hy
  have := (List.pairwise_cons.1 h).1 y hy
  have hn := ltK_ne this
  by_cases h1 : y.a = x.a
  · by_cases h2 : y.s = x.s
    · exact absurd ⟨h1.symm, h2.symm⟩ hn
    · simp [h2]
  · simp [h1]
theorem drop_head (L : List Opn) (i : Nat) (h : i < L.length) : L.drop i = L.getD i op0 :: L.drop (i + 1) := by
  rw [List.drop_eq_getElem_cons h]
  simp [h]
/-- The first of what is left goes. -/
theorem remK_drop {L : List Opn} (hA : AscK L) (i : Nat) (h : i < L.length) : remK (L.drop i) (L.getD i op0).a (L.getD i op0).s = L.drop (i + 1) := by
  have hd := drop_head L i h
  have hA2 : AscK (L.drop i) := hA.sublist (List.drop_sublist i L)
  rw [hd] at hA2 ⊢
  exact remK_head hA2
end Go.Proofs.Ytcbnmahbdcjamaa
