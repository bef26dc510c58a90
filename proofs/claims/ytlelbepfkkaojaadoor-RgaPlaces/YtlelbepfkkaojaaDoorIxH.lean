/- An index of the call's own, and two of them; what each function leaves of them; shown. -/
import Derived.Test.YtlelbepfkkaojaaDoorIxG
namespace Go.Proofs.YtlelbepfkkaojaaDoor
open Go.RowKit
set_option linter.unusedVariables false
set_option linter.unusedSimpArgs false

/-- An index of the call's own: all that was is left. -/
def IxS (w0 w : World) (P : Nat) (L : List Bool) : Prop := ∃ v, IxAt w P w0.heap.size v L ∧ Below w0.heap.size w0 w
theorem own_ge {w : World} {P B k : Nat} {v : Value} {L : List Bool} (h : IxAt w P B v L) (hk : OwnX P v k) : B ≤ k ∧ k < w.heap.size := by
  obtain ⟨Bs, _, _, h3⟩ := h
  rcases hk with rfl | hk
  · exact ⟨h3.2.2.2, (Array.getElem?_eq_some_iff.1 h3.1).1⟩
  · exact h3.2.1.lt k hk
theorem chg_keeps {w0 w w' : World} {P B : Nat} {v : Value} {L : List Bool} (h : IxAt w P w0.heap.size v L) (hb : Below w0.heap.size w0 w) (hc : Chg w w' (OwnX P v)) : Below w0.heap.size w0 w' :=
  ⟨hc.1.trans hb.os, hc.2.1.trans hb.tape, hc.2.2.1.trans hb.output, Nat.le_trans hb.size hc.2.2.2.1, fun k hk => (hc.2.2.2.2 k (Nat.lt_of_lt_of_le hk hb.size) (fun q => by have := (own_ge h q).1; omega)).trans (hb.block k hk)⟩
theorem IxS.below {w0 w : World} {P : Nat} {L : List Bool} (h : IxS w0 w P L) : Below w0.heap.size w0 w := by obtain ⟨v, _, hb⟩ := h; exact hb
theorem IxS.put {w0 w w' : World} {P : Nat} {v : Value} {L L' : List Bool} (h : IxAt w P w0.heap.size v L) (hb : Below w0.heap.size w0 w) (hp : PutP P w0.heap.size v L' w w') : IxS w0 w' P L' := by
  obtain ⟨v', h1, h2, _⟩ := hp
  exact ⟨v', h1, chg_keeps (B := 0) h hb h2⟩
theorem IxS.drewN {w0 w : World} {P : Nat} {L : List Bool} (h : IxS w0 w P L) (q : Nat) : IxS w0 (w.drewN q) P L := by
  obtain ⟨v, h1, h2⟩ := h
  exact ⟨v, h1, h2.os, h2.tape, h2.output, h2.size, h2.block⟩
theorem s_new {w0 w : World} (hb : Below w0.heap.size w0 w) : Calls Tryd.prog 15 #[] w fun e w' => ∃ P, e = .returned (.pointer (some ⟨P, 0, none⟩)) ∧ IxS w0 w' P [] :=
  (new_any w).mono fun e w' ⟨h1, h2⟩ => ⟨w.heap.size, h1, .slice none 0 0, h2 ▸ new_at w _ hb.size, h2 ▸ hb.trans ((new_below w).mono hb.size)⟩
theorem s_ins {w0 w : World} {P : Nat} {L : List Bool} (h : IxS w0 w P L) (a : Nat) (b : Bool) (ha : a ≤ L.length) (hl : L.length ≤ 100000) : Calls Tryd.prog 38 #[.pointer (some ⟨P, 0, none⟩), .int .i64 (a : Int), .bool b] w fun e w' => e = .returned (.bool true) ∧ IxS w0 w' P (ins L a b) := by
  obtain ⟨v, h1, h2⟩ := h
  exact (insX_any P _ v L a b w h1 hl ha h2.size).mono fun e w' ⟨q1, q2⟩ => ⟨q1, IxS.put h1 h2 q2⟩
theorem s_insN {w0 w : World} {P : Nat} {L : List Bool} (h : IxS w0 w P L) (n : Int) (b : Bool) (hn : ¬ (0 ≤ n ∧ n ≤ (L.length : Int))) : Calls Tryd.prog 38 #[.pointer (some ⟨P, 0, none⟩), .int .i64 n, .bool b] w fun e w' => e = .returned (.bool false) ∧ w' = w := by
  obtain ⟨v, h1, h2⟩ := h
  exact insX_none P _ v L n b w h1 hn
theorem s_set {w0 w : World} {P : Nat} {L : List Bool} (h : IxS w0 w P L) (a : Nat) (b : Bool) (ha : a < L.length) (hl : L.length ≤ 100000) : Calls Tryd.prog 39 #[.pointer (some ⟨P, 0, none⟩), .int .i64 (a : Int), .bool b] w fun e w' => e = .returned (.bool true) ∧ IxS w0 w' P (L.set a b) := by
  obtain ⟨v, h1, h2⟩ := h
  exact (setX_any P _ v L a b w h1 hl ha).mono fun e w' ⟨q1, q2⟩ => ⟨q1, IxS.put h1 h2 q2⟩
theorem s_setN {w0 w : World} {P : Nat} {L : List Bool} (h : IxS w0 w P L) (n : Int) (b : Bool) (hn : ¬ (0 ≤ n ∧ n < (L.length : Int))) : Calls Tryd.prog 39 #[.pointer (some ⟨P, 0, none⟩), .int .i64 n, .bool b] w fun e w' => e = .returned (.bool false) ∧ w' = w := by
  obtain ⟨v, h1, h2⟩ := h
  exact setX_none P _ v L n b w h1 hn
theorem s_seen {w0 w : World} {P : Nat} {L : List Bool} (h : IxS w0 w P L) (a : Int) (hl : L.length ≤ 100000) : Calls Tryd.prog 27 #[.pointer (some ⟨P, 0, none⟩), .int .i64 a] w fun e w' => e = .returned (.bool (seenB L a)) ∧ w' = w := by
  obtain ⟨v, h1, h2⟩ := h
  exact seen_any P _ v L a w h1 hl
theorem s_rank {w0 w : World} {P : Nat} {L : List Bool} (h : IxS w0 w P L) (a : Int) (hl : L.length ≤ 100000) (ha : a ≤ 9223372036854775807) : Calls Tryd.prog 26 #[.pointer (some ⟨P, 0, none⟩), .int .i64 a] w fun e w' => e = .returned (.int .i64 (rnk L a : Int)) ∧ ∃ q, w' = w.drewN q := by
  obtain ⟨v, h1, h2⟩ := h
  exact rankX_any P _ v L a w h1 hl ha
theorem s_select {w0 w : World} {P : Nat} {L : List Bool} (h : IxS w0 w P L) (hT : TabD w0) (k : Int) (hl : L.length ≤ 100000) (hk : k ≤ 9223372036854775807) : Calls Tryd.prog 25 #[.pointer (some ⟨P, 0, none⟩), .int .i64 k] w fun e w' => e = .returned (.tuple #[.int .i64 (selI L k), .bool (selB L k)]) ∧ w' = w := by
  obtain ⟨v, h1, h2⟩ := h
  exact select_any P _ v L k w h1 hl hk (hT.later h2)
theorem s_len {w0 w : World} {P : Nat} {L : List Bool} (h : IxS w0 w P L) : Calls Tryd.prog 41 #[.pointer (some ⟨P, 0, none⟩)] w fun e w' => e = .returned (.int .i64 (L.length : Int)) ∧ w' = w := by
  obtain ⟨v, h1, h2⟩ := h
  exact len_any h1
theorem s_count {w0 w : World} {P : Nat} {L : List Bool} (h : IxS w0 w P L) : Calls Tryd.prog 23 #[.pointer (some ⟨P, 0, none⟩)] w fun e w' => e = .returned (.int .i64 (cnt L : Int)) ∧ w' = w := by
  obtain ⟨v, h1, h2⟩ := h
  exact count_any h1
/-- Two indexes of the call's own, apart. -/
def IxT (w0 w : World) (P Q : Nat) (L M : List Bool) : Prop := ∃ v u, IxAt w P w0.heap.size v L ∧ IxAt w Q w0.heap.size u M ∧ (∀ k, OwnX P v k → ¬ OwnX Q u k) ∧ Below w0.heap.size w0 w
theorem IxT.swap {w0 w : World} {P Q : Nat} {L M : List Bool} (h : IxT w0 w P Q L M) : IxT w0 w Q P M L := by
  obtain ⟨v, u, h1, h2, h3, h4⟩ := h
  exact ⟨u, v, h2, h1, fun k a b => h3 k b a, h4⟩
theorem IxT.one {w0 w : World} {P Q : Nat} {L M : List Bool} (h : IxT w0 w P Q L M) : IxS w0 w P L := by
  obtain ⟨v, u, h1, h2, h3, h4⟩ := h
  exact ⟨v, h1, h4⟩
theorem IxT.two {w0 w : World} {P Q : Nat} {L M : List Bool} (h : IxT w0 w P Q L M) : IxS w0 w Q M := h.swap.one
theorem IxT.drewN {w0 w : World} {P Q : Nat} {L M : List Bool} (h : IxT w0 w P Q L M) (q : Nat) : IxT w0 (w.drewN q) P Q L M := by
  obtain ⟨v, u, h1, h2, h3, h4⟩ := h
  exact ⟨v, u, h1, h2, h3, h4.os, h4.tape, h4.output, h4.size, h4.block⟩
theorem t_new {w0 w : World} {P : Nat} {L : List Bool} (h : IxS w0 w P L) : Calls Tryd.prog 15 #[] w fun e w' => ∃ Q, e = .returned (.pointer (some ⟨Q, 0, none⟩)) ∧ IxT w0 w' P Q L [] := by
  obtain ⟨v, h1, hb⟩ := h
  refine (new_any w).mono fun e w' ⟨q1, q2⟩ => ⟨w.heap.size, q1, v, .slice none 0 0, ?_, ?_, ?_, ?_⟩
  · rw [q2]; exact h1.later (new_below w)
  · rw [q2]; exact new_at w _ hb.size
  · intro k a b
    have := (own_ge h1 a).2
    rcases b with rfl | b
    · omega
    · cases b
  · rw [q2]; exact hb.trans ((new_below w).mono hb.size)
theorem t_ins {w0 w : World} {P Q : Nat} {L M : List Bool} (h : IxT w0 w P Q L M) (a : Nat) (b : Bool) (ha : a ≤ L.length) (hl : L.length ≤ 100000) : Calls Tryd.prog 38 #[.pointer (some ⟨P, 0, none⟩), .int .i64 (a : Int), .bool b] w fun e w' => e = .returned (.bool true) ∧ IxT w0 w' P Q (ins L a b) M := by
  obtain ⟨v, u, h1, h2, h3, h4⟩ := h
  refine (insX_any P _ v L a b w h1 hl ha h4.size).mono fun e w' ⟨q1, q2⟩ => ⟨q1, ?_⟩
  obtain ⟨v', r1, r2, r3⟩ := q2
  refine ⟨v', u, r1, h2.keep r2 (fun k hk hq => h3 k hq hk), fun k x y => ?_, chg_keeps (B := 0) h1 h4 r2⟩
  have hy := (own_ge h2 y).2
  rcases x with rfl | x
  · exact h3 _ (.inl rfl) y
  · rcases r3 k x with r | r
    · exact h3 k (.inr r) y
    · omega

end Go.Proofs.YtlelbepfkkaojaaDoor
