/- Mathematics of HoldDrops and HoldOrder. -/
import Derived.Test.YtcbnmahbdcjamaaHoN
namespace Go.Proofs.Ytcbnmahbdcjamaa
set_option linter.unusedVariables false
set_option linter.unusedSimpArgs false

/-- In a row in order each is told by author and number. -/
theorem asc_key {L : List Opn} (hA : AscK L) {x y : Opn} (hx : x ∈ L) (hy : y ∈ L) (h : x.a = y.a ∧ x.s = y.s) : x = y := by
  obtain ⟨i, hi, rfl⟩ := List.mem_iff_getElem.1 hx
  obtain ⟨j, hj, rfl⟩ := List.mem_iff_getElem.1 hy
  rcases Nat.lt_trichotomy i j with q | q | q
  · exact absurd h (ltK_ne (List.pairwise_iff_getElem.1 hA i j hi hj q))
  · subst q; rfl
  · exact absurd ⟨h.1.symm, h.2.symm⟩ (ltK_ne (List.pairwise_iff_getElem.1 hA j i hj hi q))
/-- Of rows in order, one all of whose are the other's is a part of it. -/
theorem asc_sub : (l m : List Opn) → AscK l → AscK m → (∀ x ∈ l, x ∈ m) → l.Sublist m
  | [], m, _, _, _ => List.nil_sublist m
  | x :: l, [], _, _, h => absurd (h x (List.mem_cons_self ..)) (by simp)
  | x :: l, y :: m, h1, h2, h => by
    have a1 := List.pairwise_cons.1 h1
    have a2 := List.pairwise_cons.1 h2
    rcases List.mem_cons.1 (h x (List.mem_cons_self ..)) with q | q
    · subst q
      refine (asc_sub l m a1.2 a2.2 fun z hz => ?_).cons_cons x
      rcases List.mem_cons.1 (h z (List.mem_cons_of_mem _ hz)) with q | q
      · subst q; exact absurd (a1.1 z hz) (ltK_irr z)
      · exact q
    · refine (asc_sub (x :: l) m h1 a2.2 fun z hz => ?_).cons y
      rcases List.mem_cons.1 hz with q2 | q2
      · subst q2; exact q
      · rcases List.mem_cons.1 (h z (List.mem_cons_of_mem _ q2)) with q3 | q3
        · subst q3; exact absurd (a1.1 z q2) (ltK_asym (a2.1 x q))
        · exact q3
/-- One of a row put back into a part of it. -/
theorem add_back {A L : List Opn} {r : Nat} {x : Opn} (hA : AscK A) (hL : AscK L) (hs : ∀ y ∈ A, y ∈ L) (hx : x ∈ L) (hr : L.length ≤ r) : AscK (addK A r x) ∧ (∀ y ∈ addK A r x, y ∈ L) ∧ x ∈ addK A r x ∧ (∀ y ∈ A, y ∈ addK A r x) ∧ addE A r x = 0 ∧ A.length ≤ L.length := by
  have hlen := (asc_sub A L hA hL hs).length_le
  cases h : hasK A x.a x.s
  · have hsub : ∀ y ∈ putK A x, y ∈ L := fun y hy => by
      rcases (putK_mem A x y).1 hy with rfl | hy
      · exact hx
      · exact hs y hy
    have h2 := (asc_sub (putK A x) L (putK_asc A x hA h) hL hsub).length_le
    rw [putK_len] at h2
    obtain ⟨e1, e2⟩ := addK_new (r := r) h (by omega)
    rw [e1]
    exact ⟨putK_asc A x hA h, hsub, (putK_mem A x x).2 (.inl rfl), fun y hy => (putK_mem A x y).2 (.inr hy), e2, hlen⟩
  · obtain ⟨e1, e2⟩ := addK_has (r := r) h
    rw [e1]
    obtain ⟨y, hy, hk⟩ := (hasK_iff _ _ _).1 h
    have := asc_key hL (hs y hy) hx hk
    subst this
    exact ⟨hA, hs, hy, fun z hz => hz, e2, hlen⟩
/-- What is left of those of an author, told. -/
theorem has_left {L : List Opn} (hL : AscK L) (v : Int) {x : Opn} (hx : x ∈ L) : hasK (L.filter fun y => !(y.a == v)) x.a x.s = !(x.a == v) := by
  rw [Bool.eq_iff_iff, hasK_iff]
  constructor
  · rintro ⟨y, hy, hk⟩
    have h2 := List.mem_filter.1 hy
    have := asc_key hL h2.1 hx hk
    subst this
    exact h2.2
  · intro h
    exact ⟨x, List.mem_filter.2 ⟨hx, h⟩, rfl, rfl⟩
end Go.Proofs.Ytcbnmahbdcjamaa
