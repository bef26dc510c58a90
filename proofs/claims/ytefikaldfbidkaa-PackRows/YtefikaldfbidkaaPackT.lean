/- Numbers and texts by turns: their bytes, read one by one. -/
import Derived.Test.YtefikaldfbidkaaPackE
namespace Go.Proofs.Ytefikaldfbidkaa
open Go.RowKit
set_option linter.unusedVariables false

/-- The bytes of the number and the text at i, as far as there are such. -/
def item (ls : List Int) (m : Nat) (T : Nat → List Int) (i : Nat) : List Int := (if i < ls.length then pk (ls.getD i 0) else []) ++ (if i < m then pt (T i) else [])
def up (ls : List Int) (m : Nat) (T : Nat → List Int) : Nat → List Int
  | 0 => []
  | k + 1 => up ls m T k ++ item ls m T k
def fr (ls : List Int) (m : Nat) (T : Nat → List Int) : Nat → Nat → List Int
  | 0, _ => []
  | f + 1, k => item ls m T k ++ fr ls m T f (k + 1)
theorem up_fr (ls : List Int) (m : Nat) (T : Nat → List Int) : (f k : Nat) → up ls m T k ++ fr ls m T f k = up ls m T (k + f)
  | 0, k => by simp [fr]
  | f + 1, k => by
    have := up_fr ls m T f (k + 1)
    rw [up, List.append_assoc] at this
    rw [fr, this, show k + 1 + f = k + (f + 1) by omega]
theorem up_all (ls : List Int) (m : Nat) (T : Nat → List Int) : fr ls m T 30 0 = up ls m T 30 := by simpa [up] using up_fr ls m T 30 0
theorem item_len (ls : List Int) (m : Nat) (T : Nat → List Int) (hT : ∀ i, (T i).length ≤ 300) (i : Nat) : (item ls m T i).length ≤ 320 := by
  have h1 := pk_len (ls.getD i 0)
  have h2 := pk_len ((T i).length : Nat)
  have h3 := hT i
  have h4 := pt_len (T i)
  unfold item
  split <;> split <;> simp only [List.length_append, List.length_nil] <;> omega
theorem up_len (ls : List Int) (m : Nat) (T : Nat → List Int) (hT : ∀ i, (T i).length ≤ 300) : (k : Nat) → (up ls m T k).length ≤ 320 * k
  | 0 => by simp [up]
  | k + 1 => by
    have := up_len ls m T hT k
    have := item_len ls m T hT k
    rw [up]; simp; omega
theorem pt_rng (s : List Int) (h : ∀ y ∈ s, 0 ≤ y ∧ y ≤ 255) (hl : s.length ≤ 1000000) : ∀ y ∈ pt s, 0 ≤ y ∧ y ≤ 255 := by
  intro y hy
  rcases List.mem_append.1 hy with h' | h'
  · exact pk_rng _ (by omega) (by omega) y h'
  · exact h y h'
theorem item_rng (ls : List Int) (m : Nat) (T : Nat → List Int) (hT : ∀ i, (T i).length ≤ 300) (hr : ∀ i, ∀ y ∈ T i, 0 ≤ y ∧ y ≤ 255) (hl : ∀ y ∈ ls, 0 ≤ y ∧ y ≤ 18446744073709551615) (i : Nat) : ∀ y ∈ item ls m T i, 0 ≤ y ∧ y ≤ 255 := by
  intro y hy
  unfold item at hy
  rcases List.mem_append.1 hy with h | h
  · split at h
    · rename_i hi
      have := hl (ls.getD i 0) (by simp [hi])
      exact pk_rng _ this.1 this.2 y h
    · cases h
  · split at h
    · exact pt_rng (T i) (hr i) (by have := hT i; omega) y h
    · cases h
theorem fr_rng (ls : List Int) (m : Nat) (T : Nat → List Int) (hT : ∀ i, (T i).length ≤ 300) (hr : ∀ i, ∀ y ∈ T i, 0 ≤ y ∧ y ≤ 255) (hl : ∀ y ∈ ls, 0 ≤ y ∧ y ≤ 18446744073709551615) : (f k : Nat) → ∀ y ∈ fr ls m T f k, 0 ≤ y ∧ y ≤ 255
  | 0, k => by simp [fr]
  | f + 1, k => by
    intro y hy
    rw [fr] at hy
    rcases List.mem_append.1 hy with h | h
    · exact item_rng ls m T hT hr hl k y h
    · exact fr_rng ls m T hT hr hl f (k + 1) y h
theorem item_yy (ls : List Int) (m : Nat) (T : Nat → List Int) (i : Nat) (h0 : i < ls.length) (h1 : i < m) : item ls m T i = pk (ls.getD i 0) ++ pt (T i) := by simp [item, h0, h1]
theorem item_yn (ls : List Int) (m : Nat) (T : Nat → List Int) (i : Nat) (h0 : i < ls.length) (h1 : ¬ i < m) : item ls m T i = pk (ls.getD i 0) := by simp [item, h0, h1]
theorem item_ny (ls : List Int) (m : Nat) (T : Nat → List Int) (i : Nat) (h0 : ¬ i < ls.length) (h1 : i < m) : item ls m T i = pt (T i) := by simp [item, h0, h1]
theorem item_nn (ls : List Int) (m : Nat) (T : Nat → List Int) (i : Nat) (h0 : ¬ i < ls.length) (h1 : ¬ i < m) : item ls m T i = [] := by simp [item, h0, h1]

/-- The slice at a, of len strings, reads as S. -/
def Rs (w : World) (a : Option Addr) (len : Nat) (S : Nat → ByteArray) : Prop :=
  0 < len → ∃ b off, a = some ⟨b, off, none⟩ ∧ ∀ i, i < len → w.cell? ⟨b, off + i, none⟩ = some (.string (S i)) ∧ (S i).size ≤ 9223372036854775807
theorem Rs.later {w w' : World} {a : Option Addr} {len : Nat} {S : Nat → ByteArray} (h : Rs w a len S) (hb : Below w.heap.size w w') : Rs w' a len S := by
  intro hp
  obtain ⟨b, off, ha, hc⟩ := h hp
  refine ⟨b, off, ha, fun i hi => ⟨?_, (hc i hi).2⟩⟩
  exact (hb.cell (p := ⟨b, off + i, none⟩) (World.block_lt_of_cell? w _ (hc i hi).1)).trans (hc i hi).1
/-- The part of the text at i that is looked at. -/
def cut300 (S : Nat → ByteArray) (i : Nat) : List Int := (nums (S i)).take (min (S i).size 300)
theorem cut300_len (S : Nat → ByteArray) (i : Nat) : (cut300 S i).length ≤ 300 := by unfold cut300; simp; omega
theorem cut300_rng (S : Nat → ByteArray) (i : Nat) : ∀ y ∈ cut300 S i, 0 ≤ y ∧ y ≤ 255 := fun y hy => nums_rng _ y (List.mem_of_mem_take hy)
end Go.Proofs.Ytefikaldfbidkaa
