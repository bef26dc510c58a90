/- Mathematics of RgaMeets and RgaGone: whoever knows the same operations tells the same; whoever knows all ahead of an operation takes it. -/
import Derived.Test.YtcbnmahbdcjamaaRgTw
namespace Go.Proofs.Ytcbnmahbdcjamaa
open Go.RowKit Go.Shelf Go.Maps Go.Sort
set_option linter.unusedVariables false
set_option linter.unusedSimpArgs false

theorem mem_take_iff {α : Type} (L : List α) (i : Nat) (x : α) : x ∈ L.take i ↔ ∃ j, j < i ∧ L[j]? = some x := by
  rw [List.mem_iff_getElem?]
  constructor
  · rintro ⟨j, hj⟩
    rw [List.getElem?_take] at hj
    split at hj
    · next h => exact ⟨j, h, hj⟩
    · cases hj
  · rintro ⟨j, h, hj⟩
    exact ⟨j, by rw [List.getElem?_take, if_pos h]; exact hj⟩
/-- Of one author's operations a later one has a greater counter, and no two have one number. -/
theorem rv_mono {O : List Opn} : Rv O → ∀ o ∈ O, ∀ p ∈ O, o.a = p.a → (o.s = p.s → o = p) ∧ (o.s < p.s → o.c < p.c) := by
  refine snocR (P := fun O => Rv O → ∀ o ∈ O, ∀ p ∈ O, o.a = p.a → (o.s = p.s → o = p) ∧ (o.s < p.s → o.c < p.c)) (fun _ o h => (by cases h)) (fun O x ih h o ho p hp e => ?_) O
  obtain ⟨h1, h2⟩ := rv_front h
  obtain ⟨_, hs, _, hc⟩ := (putA_iff _ _).1 h2
  have hl := (rv_last h1).1
  rcases List.mem_append.1 ho with ho2 | ho2 <;> rcases List.mem_append.1 hp with hp2 | hp2
  · exact ih h1 o ho2 p hp2 e
  · have e2 := List.mem_singleton.1 hp2
    subst e2
    have := hl o ho2
    rw [e] at this
    exact ⟨fun q => by omega, fun _ => by omega⟩
  · have e2 := List.mem_singleton.1 ho2
    subst e2
    have := hl p hp2
    rw [← e] at this
    exact ⟨fun q => by omega, fun _ => by omega⟩
  · have e2 := List.mem_singleton.1 ho2
    have e3 := List.mem_singleton.1 hp2
    subst e2
    exact ⟨fun _ => e3.symm, fun q => by rw [e3] at q; omega⟩
/-- Of one author there is no gap. -/
theorem rv_gap {O : List Opn} : Rv O → ∀ p ∈ O, ∀ s, 1 ≤ s → s ≤ p.s → ∃ q ∈ O, q.a = p.a ∧ q.s = s := by
  refine snocR (P := fun O => Rv O → ∀ p ∈ O, ∀ s, 1 ≤ s → s ≤ p.s → ∃ q ∈ O, q.a = p.a ∧ q.s = s) (fun _ o h => (by cases h)) (fun O x ih h p hp s h3 h4 => ?_) O
  obtain ⟨h1, h2⟩ := rv_front h
  obtain ⟨_, hs, _, hc⟩ := (putA_iff _ _).1 h2
  rcases List.mem_append.1 hp with hp | hp
  · obtain ⟨q, q1, q2⟩ := ih h1 p hp s h3 h4
    exact ⟨q, by simp [q1], q2⟩
  · have e2 := List.mem_singleton.1 hp
    subst e2
    by_cases e : s = p.s
    · exact ⟨p, by simp, rfl, e.symm⟩
    · rcases (rv_last h1).2 p.a with ⟨q1, _⟩ | ⟨q1, q2⟩
      · rw [q1] at hs
        have : (op0).s = 0 := rfl
        omega
      · obtain ⟨q, r1, r2⟩ := ih h1 _ q1 s h3 (by omega)
        exact ⟨q, by simp [r1], by rw [r2.1, q2], r2.2⟩
/-- Where some of the operations are known, no other answer comes. -/
theorem rv_some {O B : List Opn} (h : Rv O) (hB : Rv B) (hs : ∀ o ∈ B, o ∈ O) (x : Opn) (hx : x ∈ O) : (putA B x).2 = 0 ∨ (putA B x).2 = 6 := by
  have hop := rv_op h x hx
  unfold putA
  rw [if_neg (by rw [hop]; decide)]
  split
  · exact .inl rfl
  split
  · exact .inr rfl
  split
  · exact .inr rfl
  next h1 h2 h3 =>
  split
  · next h4 =>
    exfalso
    have hid := op_id hop
    rcases (rv_last hB).2 x.a with ⟨q1, _⟩ | ⟨q1, q2⟩
    · rw [q1] at h4
      have : (op0).c = 0 := rfl
      omega
    · have := (rv_mono h _ (hs _ q1) x hx q2).2 (by omega)
      omega
  · exact .inl rfl
/-- Whoever knows all that came ahead of an operation, and no others than came, knows it then. -/
theorem rv_takes {O B A T : List Opn} {x : Opn} (h : Rv O) (hO : O = A ++ x :: T) (hB : Rv B) (hA : ∀ o ∈ A, o ∈ B) (hs : ∀ o ∈ B, o ∈ O) : x ∈ putO B x := by
  by_cases hm : x ∈ B
  · unfold putO
    split
    · simp [hm]
    · exact hm
  have hxO : x ∈ O := by rw [hO]; simp
  have hput := h _ _ _ hO
  obtain ⟨h1, h2, h3, h4⟩ := (putA_iff _ _).1 hput
  have hvA : Rv A := by
    intro C y D e
    exact h C y (D ++ x :: T) (by rw [hO, e]; simp)
  have hlast : lastO B x.a = lastO A x.a := by
    have hid := op_id h1
    rcases (rv_last hvA).2 x.a with ⟨q1, q2⟩ | ⟨q1, q2⟩
    · rcases (rv_last hB).2 x.a with ⟨r1, r2⟩ | ⟨r1, r2⟩
      · rw [q1, r1]
      · exfalso
        rw [q1] at h2
        have e0 : (op0).s = 0 := rfl
        obtain ⟨q, g1, g2, g3⟩ := rv_gap hB _ r1 1 (by omega) (op_id (rv_op hB _ r1)).2.2.2.2.1
        have := (rv_mono h q (hs q g1) x hxO (by rw [g2, r2])).1 (by omega)
        exact hm (this ▸ g1)
    · have hqB := hA _ q1
      rcases (rv_last hB).2 x.a with ⟨r1, r2⟩ | ⟨r1, r2⟩
      · exact absurd q2 (r2 _ hqB)
      · have hmax := ((rv_last hB).1 _ hqB).2
        rw [q2] at hmax
        by_cases hc : (lastO B x.a).s = (lastO A x.a).s
        · exact (rv_mono h _ (hs _ r1) _ (hs _ hqB) (by rw [r2, q2])).1 hc
        · exfalso
          obtain ⟨q, g1, g2, g3⟩ := rv_gap hB _ r1 x.s (by omega) (by omega)
          have := (rv_mono h q (hs q g1) x hxO (by rw [g2, r2])).1 g3
          exact hm (this ▸ g1)
  have hputB : (putA B x).1 = true := by
    rw [putA_iff]
    refine ⟨h1, by rw [hlast]; exact h2, ?_, by rw [hlast]; exact h4⟩
    rcases h3 with h3 | h3
    · exact .inl h3
    · obtain ⟨p, g1, g2⟩ := (hasE_iff _ _).1 h3
      exact .inr ((hasE_iff _ _).2 ⟨p, hA p g1, g2⟩)
  unfold putO
  rw [if_pos hputB]
  simp
theorem putO_mem {B : List Opn} {x o : Opn} (h : o ∈ putO B x) : o ∈ B ∨ o = x := by
  unfold putO at h
  split at h
  · rcases List.mem_append.1 h with h | h
    · exact .inl h
    · exact .inr (List.mem_singleton.1 h)
  · exact .inl h
theorem mem_putO {B : List Opn} {x o : Opn} (h : o ∈ B) : o ∈ putO B x := by
  unfold putO
  split
  · simp [h]
  · exact h
theorem last_ext {O O' : List Opn} (h : Rv O) (h' : Rv O') (he : ∀ o, o ∈ O ↔ o ∈ O') (a : Int) : lastO O a = lastO O' a := by
  rcases (rv_last h).2 a with ⟨q1, q2⟩ | ⟨q1, q2⟩
  · rcases (rv_last h').2 a with ⟨r1, r2⟩ | ⟨r1, r2⟩
    · rw [q1, r1]
    · exact absurd r2 (q2 _ ((he _).2 r1))
  · rcases (rv_last h').2 a with ⟨r1, r2⟩ | ⟨r1, r2⟩
    · exact absurd q2 (r2 _ ((he _).1 q1))
    · have m1 := ((rv_last h).1 _ ((he _).2 r1)).2
      have m2 := ((rv_last h').1 _ ((he _).1 q1)).2
      rw [r2] at m1
      rw [q2] at m2
      exact (rv_mono h _ q1 _ ((he _).2 r1) (by rw [q2, r2])).1 (by omega)
theorem vec_same {O O' : List Opn} (h : Rv O) (h' : Rv O') (he : ∀ o, o ∈ O ↔ o ∈ O') : vecO O = vecO O' :=
  vec_ext _ _ (vecO_vec O).1 (vecO_vec O).2 (vecO_vec O').1 (vecO_vec O').2 fun a => by rw [vecO_sq h, vecO_sq h', last_ext h h' he]
theorem dead_ext {O O' : List Opn} (he : ∀ o, o ∈ O ↔ o ∈ O') (i : Int × Int) : deadE O i = deadE O' i := by
  rw [Bool.eq_iff_iff, deadE_iff, deadE_iff]
  constructor
  · rintro ⟨o, h1, h2⟩; exact ⟨o, (he o).1 h1, h2⟩
  · rintro ⟨o, h1, h2⟩; exact ⟨o, (he o).2 h1, h2⟩
theorem els_ext {O O' : List Opn} (h : Rv O) (h' : Rv O') (he : ∀ o, o ∈ O ↔ o ∈ O') : els O = els O' := by
  unfold els
  rw [seq_ext h h' he]
  exact List.map_congr_left fun e _ => by unfold elOf; rw [dead_ext he]
/-! ### RgaMeets: rounds. -/
/-- Behind some rounds, and a part of one. -/
def MtI (O L B : List Opn) (r i : Nat) : Prop := Rv B ∧ (∀ o ∈ B, o ∈ O) ∧ (∀ o ∈ O.take r, o ∈ B) ∧ (∀ x, O[r]? = some x → x ∈ L.take i → x ∈ B)
theorem mt_start {O L : List Opn} : MtI O L [] 0 0 := ⟨rv_nil, fun o h => (by cases h), fun o h => (by simp at h), fun x _ h => (by simp at h)⟩
theorem mt_step {O L B : List Opn} {r i : Nat} (hO : Rv O) (hL : ∀ o, o ∈ L ↔ o ∈ O) (h : MtI O L B r i) (hi : i < L.length) : MtI O L (putO B (L.getD i op0)) r (i + 1) ∧ ((putA B (L.getD i op0)).2 = 0 ∨ (putA B (L.getD i op0)).2 = 6) := by
  obtain ⟨h1, h2, h3, h4⟩ := h
  have hm : L.getD i op0 ∈ O := (hL _).1 (by simp [List.getD, List.getElem?_eq_getElem hi])
  refine ⟨⟨rv_put h1 _, fun o ho => (putO_mem ho).elim (h2 o) (fun q => q ▸ hm), fun o ho => mem_putO (h3 o ho), fun x hx hxl => ?_⟩, rv_some hO h1 h2 _ hm⟩
  obtain ⟨j, hj, hjx⟩ := (mem_take_iff _ _ _).1 hxl
  by_cases hji : j < i
  · exact mem_putO (h4 x hx ((mem_take_iff _ _ _).2 ⟨j, hji, hjx⟩))
  · obtain rfl : j = i := by omega
    have e : L.getD j op0 = x := by simp [List.getD, hjx]
    rw [e]
    have hr : r < O.length := (List.getElem?_eq_some_iff.1 hx).1
    have hxr := (List.getElem?_eq_some_iff.1 hx).2
    refine rv_takes (A := O.take r) (T := O.drop (r + 1)) hO ?_ h1 h3 h2
    rw [← hxr, List.getElem_cons_drop, List.take_append_drop]
theorem mt_next {O L B : List Opn} {r : Nat} (hL : ∀ o, o ∈ L ↔ o ∈ O) (h : MtI O L B r L.length) (hr : r < O.length) : MtI O L B (r + 1) 0 := by
  obtain ⟨h1, h2, h3, h4⟩ := h
  refine ⟨h1, h2, fun o ho => ?_, fun x _ h => (by simp at h)⟩
  obtain ⟨j, hj, hjx⟩ := (mem_take_iff _ _ _).1 ho
  by_cases hji : j < r
  · exact h3 o ((mem_take_iff _ _ _).2 ⟨j, hji, hjx⟩)
  · obtain rfl : j = r := by omega
    refine h4 o hjx ?_
    rw [List.take_of_length_le (Nat.le_refl _), hL]
    exact List.mem_of_getElem? hjx
theorem mt_end {O L B : List Opn} {i : Nat} (h : MtI O L B O.length i) : ∀ o, o ∈ O ↔ o ∈ B := fun o => ⟨fun q => h.2.2.1 o (by rw [List.take_of_length_le (Nat.le_refl _)]; exact q), h.2.1 o⟩
/-- Two changed about: the same ones. -/
theorem swap_mem (L : List Opn) (i k : Nat) (hi : i < L.length) (hk : k < L.length) (o : Opn) : o ∈ ((L.set i (L.getD k op0)).set k (L.getD i op0)) ↔ o ∈ L := by
  have ei : L.getD i op0 = L[i] := by simp [List.getD, hi]
  have ek : L.getD k op0 = L[k] := by simp [List.getD, hk]
  rw [ei, ek]
  constructor
  · intro h
    rcases List.mem_or_eq_of_mem_set h with h | h
    · rcases List.mem_or_eq_of_mem_set h with h | h
      · exact h
      · rw [h]; simp
    · rw [h]; simp
  · intro h
    obtain ⟨j, hj⟩ := List.mem_iff_getElem?.1 h
    have hjl : j < L.length := (List.getElem?_eq_some_iff.1 hj).1
    rw [List.mem_iff_getElem?]
    by_cases h1 : j = i
    · subst h1
      refine ⟨k, ?_⟩
      rw [List.getElem?_set_self (by simp [hk]), ← hj, List.getElem?_eq_getElem hjl]
    · by_cases h2 : j = k
      · subst h2
        refine ⟨i, ?_⟩
        rw [List.getElem?_set_ne (by omega), List.getElem?_set_self hi, ← hj, List.getElem?_eq_getElem hjl]
      · exact ⟨j, by rw [List.getElem?_set_ne (by omega), List.getElem?_set_ne (by omega)]; exact hj⟩
/-! ### RgaGone: three operations more. -/
theorem top_ge {O : List Opn} (o : Opn) (h : o ∈ O) : o.c ≤ topO O := by
  revert h
  refine snocR (P := fun O => o ∈ O → o.c ≤ topO O) (fun h => (by cases h)) (fun O x ih h => ?_) O
  rw [topO_snoc]
  rcases List.mem_append.1 h with h | h
  · have := ih h; omega
  · rw [List.mem_singleton.1 h]; omega
theorem top_nn (O : List Opn) : 0 ≤ topO O := snocR (P := fun O => 0 ≤ topO O) (by show (0 : Int) ≤ 0; omega) (fun O x ih => by rw [topO_snoc]; omega) O
/-- An operation of an author who has none, behind all counters, is taken. -/
theorem put_new {O : List Opn} (h : Rv O) (x : Opn) (hop : opB x = true) (hs : x.s = 1) (ha : ∀ o ∈ O, o.a ≠ x.a) (hr : x.ref = (0, 0) ∨ hasE O x.ref = true) : putA O x = (true, 0) := by
  have hl : lastO O x.a = op0 := by
    rcases (rv_last h).2 x.a with ⟨q, _⟩ | ⟨q1, q2⟩
    · exact q
    · exact absurd q2 (ha _ q1)
  have e0 : (op0).s = 0 := rfl
  have e1 : (op0).c = 0 := rfl
  have hid := op_id hop
  unfold putA
  rw [if_neg (by rw [hop]; decide), hl, if_neg (by omega), if_neg (by omega), if_neg (by rcases hr with hr | hr <;> simp [hr]), if_neg (by omega)]
end Go.Proofs.Ytcbnmahbdcjamaa
