/- A text of the call's own beside a row of operations and a row of characters. -/
import Derived.Test.YtcbnmahbdcjamaaRgKp
import Derived.Test.YtcbnmahbdcjamaaRgRd
import Derived.Test.YtcbnmahbdcjamaaRgSh
namespace Go.Proofs.Ytcbnmahbdcjamaa
open Go.RowKit Go.Shelf Go.Maps Go.Sort
set_option linter.unusedVariables false
set_option linter.unusedSimpArgs false

theorem cell_same {w W : World} {p : Addr} {v : Value} (h : W.heap[p.block]? = w.heap[p.block]?) (hc : w.cell? p = some v) : W.cell? p = some v := (World.cell?_of_block h).trans hc
/-- The blocks of the two rows. -/
def hsT (a : Option Addr) (n : Nat) (b : Option Addr) (m : Nat) (k : Nat) : Prop := (0 < n ∧ ∃ x, a = some x ∧ k = x.block) ∨ (0 < m ∧ ∃ x, b = some x ∧ k = x.block)
def Tw (w W : World) (P : Nat) (O L : List Opn) (a : Option Addr) (n : Nat) (b : Option Addr) (m : Nat) (V : List Int) : Prop := RgS w W P O (hsT a n b m) ∧ RdP W a n L ∧ RdC W b m V
theorem Tw.later {w W W' : World} {P : Nat} {O L : List Opn} {a : Option Addr} {n : Nat} {b : Option Addr} {m : Nat} {V : List Int} (h : Tw w W P O L a n b m V) (hb : Below W.heap.size W W') : Tw w W' P O L a n b m V := ⟨h.1.later hb, h.2.1.later hb, h.2.2.later hb⟩
theorem rdP_lt {w : World} {a : Option Addr} {n : Nat} {L : List Opn} (h : RdP w a n L) (hn : 0 < n) (x : Addr) (hx : a = some x) : x.block < w.heap.size := by
  obtain ⟨b, off, rfl, hc, _⟩ := h.at 0 hn
  cases hx
  exact World.block_lt_of_cell? w _ hc
theorem rdC_lt {w : World} {a : Option Addr} {n : Nat} {L : List Int} (h : RdC w a n L) (hn : 0 < n) (x : Addr) (hx : a = some x) : x.block < w.heap.size := by
  obtain ⟨b, off, rfl, hc⟩ := h.at 0 hn
  cases hx
  exact World.block_lt_of_cell? w _ hc
theorem tw_put {w W : World} {P : Nat} {O L : List Opn} {a : Option Addr} {n : Nat} {b : Option Addr} {m : Nat} {V : List Int} (h : Tw w W P O L a n b m V) (x : Opn) (hl : O.length ≤ 99000) :
    Calls Try.prog 12 #[.pointer (some ⟨P, 0, none⟩), .agg #[.int .i64 x.c, .int .i64 x.a, .int .i64 x.s, .bool x.ins, .int .i64 x.rc, .int .i64 x.ra, .int .i32 x.ch]] W fun e w' => e = .returned (.tuple #[.bool (putA O x).1, .int .i64 (putA O x).2]) ∧ Tw w w' P (putO O x) L a n b m V := by
  obtain ⟨h1, h2, h3⟩ := h
  refine (s_put h1 x hl).mono fun e w' q => ?_
  obtain ⟨rfl, q1, q2, q3⟩ := q
  refine ⟨rfl, q1, ⟨h2.1, fun hp => ?_⟩, ⟨h3.1, fun hp => ?_⟩⟩
  · obtain ⟨g, off, rfl, hc⟩ := h2.2 hp
    exact ⟨g, off, rfl, fun j u hu => cell_same (q2 g (.inl ⟨hp, _, rfl, rfl⟩)) (hc j u hu)⟩
  · obtain ⟨g, off, rfl, hc⟩ := h3.2 hp
    exact ⟨g, off, rfl, fun k hk => cell_same (q2 g (.inr ⟨hp, _, rfl, rfl⟩)) (hc k hk)⟩
theorem tw_new {w W W' : World} {P : Nat} {L : List Opn} {a : Option Addr} {n : Nat} (h : RgS w W P [] nob) (hb : Below W.heap.size W W') (hl : RdP W' a n L) (hf : ∀ x, a = some x → W.heap.size ≤ x.block) : Tw w W' P [] L a n none 0 [] :=
  ⟨h.more hb (fun k hk => by
    rcases hk with ⟨hp, x, hx, rfl⟩ | ⟨hp, _⟩
    · exact .inr ⟨hf x hx, rdP_lt hl hp x hx⟩
    · omega), hl, ⟨rfl, fun q => by omega⟩⟩
theorem tw_vis {w W : World} {P : Nat} {O L : List Opn} {a : Option Addr} {n : Nat} {b : Option Addr} {m : Nat} {V : List Int} (h : Tw w W P O L a n b m V) (hl : O.length ≤ 99000) :
    Calls Try.prog 14 #[.pointer (some ⟨P, 0, none⟩)] W fun e w' => ∃ v k c, e = .returned (.slice v k c) ∧ k = (visC (els O)).length ∧ Tw w w' P O L a n b m V ∧ RdC w' v k (visC (els O)) ∧ Tw w w' P O L a n v k (visC (els O)) := by
  refine (s_vis h.1 hl).mono fun e w' q => ?_
  obtain ⟨v, rfl, q1, q2⟩ := q
  have q3 := q1
  obtain ⟨v, c, rfl, _, _, q4⟩ := rdC_own q1
  have h5 := h.later q2
  refine ⟨v, _, c, rfl, rfl, h5, q4, ?_, h5.2.1, q4⟩
  refine h.1.more q2 (fun k hk => ?_)
  rcases hk with ⟨hp, x, hx, rfl⟩ | ⟨hp, x, hx, rfl⟩
  · exact .inl (.inl ⟨hp, x, hx, rfl⟩)
  · refine .inr ⟨?_, rdC_lt q4 hp x hx⟩
    subst hx
    exact (q3.lt x.block rfl).1
theorem rv_takeA {L : List Opn} (h : Rv L) (i : Nat) (hi : i < L.length) : putO (L.take i) (L.getD i op0) = L.take (i + 1) := by
  have he : L = L.take i ++ L.getD i op0 :: L.drop (i + 1) := by
    have h1 := (List.take_append_drop (i + 1) L).symm
    rw [take_nextR L i hi, List.append_assoc] at h1
    exact h1
  have := h _ _ _ he
  unfold putO
  rw [if_pos this, take_nextR L i hi]
theorem rv_again {L : List Opn} (h : Rv L) (i : Nat) (hi : i < L.length) : putA L (L.getD i op0) = (false, 0) := by
  have hm : L.getD i op0 ∈ L := by simp [List.getD, List.getElem?_eq_getElem hi]
  exact (putA_cases L _ (rv_op h _ hm)).1 ((rv_last h).1 _ hm).2
end Go.Proofs.Ytcbnmahbdcjamaa
