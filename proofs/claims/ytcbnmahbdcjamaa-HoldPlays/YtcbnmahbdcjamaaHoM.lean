/- Plain mathematics of a hold: rows of operations in the order of author and number; nothing of memory is named here. -/
import Derived.Test.YtcbnmahbdcjamaaBasW
namespace Go.Proofs.Ytcbnmahbdcjamaa
set_option linter.unusedVariables false
set_option linter.unusedSimpArgs false

/-- The order of what waits. -/
abbrev ltK (x y : Opn) : Prop := x.a < y.a ∨ (x.a = y.a ∧ x.s < y.s)
/-- The same one, for a hold. -/
abbrev eqK (x y : Opn) : Prop := x.a = y.a ∧ x.s = y.s
theorem ltK_irr (x : Opn) : ¬ ltK x x := by unfold ltK; omega
theorem ltK_trans {x y z : Opn} (h1 : ltK x y) (h2 : ltK y z) : ltK x z := by unfold ltK at *; omega
theorem ltK_tri (x y : Opn) : ltK x y ∨ eqK x y ∨ ltK y x := by unfold ltK eqK; omega
theorem ltK_ne {x y : Opn} (h : ltK x y) : ¬ eqK x y := by unfold ltK eqK at *; omega
theorem ltK_asym {x y : Opn} (h : ltK x y) : ¬ ltK y x := by unfold ltK at *; omega
/-- In order, each once. -/
abbrev AscK (l : List Opn) : Prop := l.Pairwise ltK
/-- Is one there? -/
def hasK (l : List Opn) (a s : Int) : Bool := l.any fun x => decide (x.a = a) && decide (x.s = s)
theorem hasK_iff (l : List Opn) (a s : Int) : hasK l a s = true ↔ ∃ x ∈ l, x.a = a ∧ x.s = s := by simp [hasK]
theorem hasK_false (l : List Opn) (a s : Int) : hasK l a s = false ↔ ∀ x ∈ l, ¬ (x.a = a ∧ x.s = s) := by
  rw [Bool.eq_false_iff, Ne, hasK_iff]
  constructor
  · intro h x hx h2; exact h ⟨x, hx, h2⟩
  · rintro h ⟨x, hx, h2⟩; exact h x hx h2
/-- One more, in its place. -/
def putK : List Opn → Opn → List Opn
  | [], o => [o]
  | x :: r, o => if decide (x.a < o.a) || (decide (x.a = o.a) && decide (x.s < o.s)) then x :: putK r o else o :: x :: r
theorem putK_perm : (l : List Opn) → (o : Opn) → (putK l o).Perm (o :: l)
  | [], o => List.Perm.refl _
  | x :: r, o => by
    unfold putK
    split
    · exact ((putK_perm r o).cons x).trans (List.Perm.swap o x r)
    · exact List.Perm.refl _
theorem putK_mem (l : List Opn) (o x : Opn) : x ∈ putK l o ↔ x = o ∨ x ∈ l := by
  rw [(putK_perm l o).mem_iff, List.mem_cons]
theorem putK_len (l : List Opn) (o : Opn) : (putK l o).length = l.length + 1 := by
  rw [(putK_perm l o).length_eq, List.length_cons]
theorem putK_asc : (l : List Opn) → (o : Opn) → AscK l → hasK l o.a o.s = false → AscK (putK l o)
  | [], o, _, _ => by simp [putK, AscK]
  | x :: r, o, h, hn => by
    have h2 := List.pairwise_cons.1 h
    have hn2 : hasK r o.a o.s = false := (hasK_false _ _ _).2 fun y hy => (hasK_false _ _ _).1 hn y (List.mem_cons_of_mem _ hy)
    have hne := (hasK_false _ _ _).1 hn x (List.mem_cons_self ..)
    unfold putK
    by_cases hl : ltK x o
    · rw [if_pos (by simpa [ltK] using hl)]
      refine List.pairwise_cons.2 ⟨fun y hy => ?_, putK_asc r o h2.2 hn2⟩
      rcases (putK_mem r o y).1 hy with rfl | hy
      · exact hl
      · exact h2.1 y hy
    · rw [if_neg (by simpa [ltK] using hl)]
      have hox : ltK o x := by
        rcases ltK_tri x o with q | q | q
        · exact absurd q hl
        · exact absurd q hne
        · exact q
      refine List.pairwise_cons.2 ⟨fun y hy => ?_, h⟩
      rcases List.mem_cons.1 hy with rfl | hy
      · exact hox
      · exact ltK_trans hox (h2.1 y hy)
/-- Rows in order of the same ones are the same. -/
theorem asc_ext : (l m : List Opn) → AscK l → AscK m → (∀ x, x ∈ l ↔ x ∈ m) → l = m
  | [], [], _, _, _ => rfl
  | [], y :: m, _, _, h => absurd ((h y).2 (List.mem_cons_self ..)) (by simp)
  | x :: l, [], _, _, h => absurd ((h x).1 (List.mem_cons_self ..)) (by simp)
  | x :: l, y :: m, h1, h2, h => by
    have a1 := List.pairwise_cons.1 h1
    have a2 := List.pairwise_cons.1 h2
    have hxy : x = y := by
      rcases List.mem_cons.1 ((h x).1 (List.mem_cons_self ..)) with q | q
      · exact q
      · rcases List.mem_cons.1 ((h y).2 (List.mem_cons_self ..)) with q2 | q2
        · exact q2.symm
        · exact absurd (a1.1 y q2) (ltK_asym (a2.1 x q))
    subst hxy
    congr 1
    refine asc_ext l m a1.2 a2.2 fun z => ?_
    constructor
    · intro hz
      rcases List.mem_cons.1 ((h z).1 (List.mem_cons_of_mem _ hz)) with q | q
      · subst q; exact absurd (a1.1 z hz) (ltK_irr z)
      · exact q
    · intro hz
      rcases List.mem_cons.1 ((h z).2 (List.mem_cons_of_mem _ hz)) with q | q
      · subst q; exact absurd (a2.1 z hz) (ltK_irr z)
      · exact q
/-- What is left without one. -/
def remK (l : List Opn) (a s : Int) : List Opn := l.filter fun x => !(decide (x.a = a) && decide (x.s = s))
theorem remK_mem (l : List Opn) (a s : Int) (x : Opn) : x ∈ remK l a s ↔ x ∈ l ∧ ¬ (x.a = a ∧ x.s = s) := by
  simp only [remK, List.mem_filter]
  by_cases h1 : x.a = a <;> by_cases h2 : x.s = s <;> simp [h1, h2]
theorem remK_asc {l : List Opn} (a s : Int) (h : AscK l) : AscK (remK l a s) := h.filter _
/-- Where a search stands: all ahead of i are ahead of it, none from j on is. -/
def BsK (l : List Opn) (o : Opn) (i j : Nat) : Prop := (∀ k, k < i → ltK (l.getD k op0) o) ∧ ∀ k, j ≤ k → k < l.length → ¬ ltK (l.getD k op0) o
theorem asc_at {l : List Opn} (h : AscK l) (i j : Nat) (hij : i < j) (hj : j < l.length) : ltK (l.getD i op0) (l.getD j op0) := by
  have := List.pairwise_iff_getElem.1 h i j (by omega) hj hij
  simpa [hj, show i < l.length by omega] using this
theorem bsK_up {l : List Opn} {o : Opn} {i j h : Nat} (ha : AscK l) (hb : BsK l o i j) (hh : h < l.length) (hl : ltK (l.getD h op0) o) : BsK l o (h + 1) j := by
  refine ⟨fun k hk => ?_, hb.2⟩
  rcases Nat.lt_or_ge k h with h1 | h1
  · exact ltK_trans (asc_at ha k h h1 hh) hl
  · rw [show k = h by omega]; exact hl
theorem bsK_down {l : List Opn} {o : Opn} {i j h : Nat} (ha : AscK l) (hb : BsK l o i j) (hh : h < l.length) (hl : ¬ ltK (l.getD h op0) o) : BsK l o i h := by
  refine ⟨hb.1, fun k hk hk2 q => ?_⟩
  rcases Nat.lt_or_ge h k with h1 | h1
  · exact hl (ltK_trans (asc_at ha h k h1 hk2) q)
  · rw [show k = h by omega] at q; exact hl q
/-- Whether what the search came to is it. -/
def fnK (l : List Opn) (o : Opn) (i : Nat) : Bool := decide (i < l.length) && (decide ((l.getD i op0).a = o.a) && decide ((l.getD i op0).s = o.s))
theorem fnK_has {l : List Opn} {o : Opn} {i : Nat} (hA : AscK l) (hb : BsK l o i i) : fnK l o i = hasK l o.a o.s := by
  rw [Bool.eq_iff_iff, hasK_iff]
  simp only [fnK, Bool.and_eq_true, decide_eq_true_eq]
  constructor
  · rintro ⟨h1, h2, h3⟩
    exact ⟨l.getD i op0, by simp [h1], h2, h3⟩
  · rintro ⟨x, hx, h1, h2⟩
    obtain ⟨k, hk, rfl⟩ := List.mem_iff_getElem.1 hx
    have e : l.getD k op0 = l[k] := by simp [hk]
    have hki : ¬ k < i := fun q => by
      have := hb.1 k q
      rw [e] at this
      exact ltK_ne this ⟨h1, h2⟩
    have hik : ¬ i < k := fun q => by
      have q1 := asc_at hA i k q hk
      rw [e] at q1
      have q2 := hb.2 i (Nat.le_refl _) (by omega)
      apply q2
      unfold ltK at *
      omega
    obtain rfl : k = i := by omega
    exact ⟨hk, by rw [e]; exact h1, by rw [e]; exact h2⟩
theorem bs_put : (l : List Opn) → (o : Opn) → (i : Nat) → i ≤ l.length → BsK l o i i → AscK l → hasK l o.a o.s = false → l.take i ++ o :: l.drop i = putK l o
  | [], o, i, hi, _, _, _ => by
    have : i = 0 := by simpa using hi
    subst this; rfl
  | x :: r, o, 0, hi, hb, hA, hn => by
    have h1 := hb.2 0 (Nat.le_refl _) (by simp)
    simp only [List.getD_cons_zero] at h1
    show o :: x :: r = putK (x :: r) o
    unfold putK
    rw [if_neg (by simpa [ltK] using h1)]
  | x :: r, o, i + 1, hi, hb, hA, hn => by
    have h1 := hb.1 0 (by omega)
    simp only [List.getD_cons_zero] at h1
    have ih := bs_put r o i (by simpa using hi) ⟨fun k hk => by simpa using hb.1 (k + 1) (by omega), fun k hk hk2 => by simpa using hb.2 (k + 1) (by omega) (by simpa using hk2)⟩ (List.pairwise_cons.1 hA).2 ((hasK_false _ _ _).2 fun y hy => (hasK_false _ _ _).1 hn y (List.mem_cons_of_mem _ hy))
    unfold putK
    rw [if_pos (by simpa [ltK] using h1), ← ih]
    rfl
theorem bs_rem {l : List Opn} {o : Opn} {i : Nat} (hA : AscK l) (hf : fnK l o i = true) : l.take i ++ l.drop (i + 1) = remK l o.a o.s := by
  simp only [fnK, Bool.and_eq_true, decide_eq_true_eq] at hf
  obtain ⟨h1, h2, h3⟩ := hf
  have e : l.getD i op0 = l[i] := by simp [h1]
  rw [e] at h2 h3
  have hsub : (l.take i ++ l.drop (i + 1)).Sublist l := by
    rw [← List.eraseIdx_eq_take_drop_succ]
    exact List.eraseIdx_sublist ..
  refine asc_ext _ _ (hA.sublist hsub) (remK_asc _ _ hA) fun x => ?_
  have hl : l = l.take i ++ l[i] :: l.drop (i + 1) := by simp
  have hp : AscK (l.take i ++ l[i] :: l.drop (i + 1)) := by rw [← hl]; exact hA
  obtain ⟨p1, p2, p3⟩ := List.pairwise_append.1 hp
  have p4 := (List.pairwise_cons.1 p2).1
  rw [remK_mem]
  constructor
  · intro hx
    refine ⟨hsub.subset hx, fun hk => ?_⟩
    rcases List.mem_append.1 hx with q | q
    · exact ltK_ne (p3 x q _ (List.mem_cons_self ..)) ⟨by rw [hk.1, h2], by rw [hk.2, h3]⟩
    · exact ltK_ne (p4 x q) ⟨by rw [hk.1, h2], by rw [hk.2, h3]⟩
  · rintro ⟨hx, hk⟩
    rw [hl] at hx
    rcases List.mem_append.1 hx with q | q
    · exact List.mem_append_left _ q
    · rcases List.mem_cons.1 q with rfl | q
      · exact absurd ⟨h2, h3⟩ hk
      · exact List.mem_append_right _ q
/-- What Add leaves, and answers. -/
def addK (l : List Opn) (r : Nat) (o : Opn) : List Opn := if hasK l o.a o.s = true then l else if l.length < r then putK l o else l
def addE (l : List Opn) (r : Nat) (o : Opn) : Int := if hasK l o.a o.s = true then 0 else if l.length < r then 0 else 8
theorem addK_asc {l : List Opn} (r : Nat) (o : Opn) (h : AscK l) : AscK (addK l r o) := by
  unfold addK
  split
  · exact h
  · split
    · exact putK_asc l o h (by rename_i q _; simpa using q)
    · exact h
theorem addK_len {l : List Opn} {r : Nat} (o : Opn) (h : l.length ≤ r) : (addK l r o).length ≤ r := by
  unfold addK
  split
  · exact h
  · split
    · rw [putK_len]; omega
    · exact h
/-- The first one of which P holds is told, and is there no more. -/
theorem find_split (P : Opn → Bool) : (l : List Opn) → (o : Opn) → l.find? P = some o → ∃ a b, l = a ++ o :: b ∧ (∀ x ∈ a, P x = false) ∧ P o = true
  | [], o, h => by simp at h
  | x :: r, o, h => by
    cases hx : P x
    · rw [List.find?_cons_of_neg (by simp [hx])] at h
      obtain ⟨a, b, h1, h2, h3⟩ := find_split P r o h
      exact ⟨x :: a, b, by rw [h1]; rfl, fun y hy => by
        rcases List.mem_cons.1 hy with rfl | hy
        · exact hx
        · exact h2 y hy, h3⟩
    · rw [List.find?_cons_of_pos hx] at h
      cases h
      exact ⟨[], r, rfl, by simp, hx⟩
end Go.Proofs.Ytcbnmahbdcjamaa
