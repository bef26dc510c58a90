/- What is left but in some blocks: changes of memory told by the blocks that they reach. -/
import Derived.Test.YtcbnmahbdcjamaaBasS
namespace Go.Proofs.Ytcbnmahbdcjamaa
open Go.RowKit
set_option linter.unusedVariables false
set_option linter.unusedSimpArgs false

/-- What is left but in some blocks. -/
def Chg (w w' : World) (Q : Nat → Prop) : Prop := w'.os = w.os ∧ w'.tape = w.tape ∧ w'.output = w.output ∧ w.heap.size ≤ w'.heap.size ∧ ∀ k, k < w.heap.size → ¬ Q k → w'.heap[k]? = w.heap[k]?
theorem cg_refl (w : World) (Q : Nat → Prop) : Chg w w Q := ⟨rfl, rfl, rfl, Nat.le_refl _, fun _ _ _ => rfl⟩
theorem cg_trans {a b c : World} {Q R : Nat → Prop} (h1 : Chg a b Q) (h2 : Chg b c R) (hr : ∀ k, k < a.heap.size → R k → Q k) : Chg a c Q :=
  ⟨h2.1.trans h1.1, h2.2.1.trans h1.2.1, h2.2.2.1.trans h1.2.2.1, Nat.le_trans h1.2.2.2.1 h2.2.2.2.1, fun k hk hq => (h2.2.2.2.2 k (Nat.lt_of_lt_of_le hk h1.2.2.2.1) (fun r => hq (hr k hk r))).trans (h1.2.2.2.2 k hk hq)⟩
theorem cg_below {w w' : World} (h : Below w.heap.size w w') (Q : Nat → Prop) : Chg w w' Q := ⟨h.os, h.tape, h.output, h.size, fun k hk _ => h.block k hk⟩
theorem cg_gb {w w' : World} {row : Option Nat} (h : w.grownBy w' row) : Chg w w' (fun k => row = some k) := ⟨h.os, h.tape, h.output, h.size, fun k hk hq => h.block k hk (fun e => hq e.symm)⟩
theorem cg_set (W : World) (P o : Nat) (v : Value) : Chg W (W.setCell ⟨P, o, none⟩ v) (fun k => k = P) :=
  ⟨rfl, rfl, rfl, by simp [World.setCell], fun k _ hq => Below.heap_setCell W ⟨P, o, none⟩ v k hq⟩
theorem cg_own {w W : World} {Q : Nat → Prop} {B n s : Nat} {e : TypeId} {v : Value} {xs : List Value} (h : Chg w W Q) (ho : w.ownsRow B e s v n xs) (hq : ∀ k, v.ownBlock = some k → ¬ Q k) : W.ownsRow B e s v n xs := by
  obtain ⟨hl, h1 | ⟨g, cap, cur, rfl, h1, h2, h3⟩⟩ := ho
  · exact ⟨hl, .inl h1⟩
  · exact ⟨hl, .inr ⟨g, cap, cur, rfl, h1, (h.2.2.2.2 g (Array.getElem?_eq_some_iff.1 h2).1 (hq g rfl)).trans h2, h3⟩⟩
theorem cg_heap {w W : World} {Q : Nat → Prop} {b : Nat} {o : Obj} (h : Chg w W Q) (ho : w.heap[b]? = some o) (hq : ¬ Q b) : W.heap[b]? = some o := (h.2.2.2.2 b (Array.getElem?_eq_some_iff.1 ho).1 hq).trans ho
theorem cg_cell {w W : World} {Q : Nat → Prop} {p : Addr} {v : Value} (h : Chg w W Q) (hc : w.cell? p = some v) (hq : ¬ Q p.block) : W.cell? p = some v :=
  (World.cell?_of_block (h.2.2.2.2 _ (World.block_lt_of_cell? w p hc) hq)).trans hc
theorem cg_drewN {w W : World} {Q : Nat → Prop} (h : Chg w W Q) (q : Nat) : Chg w (W.drewN q) Q := h

theorem heap_setX (w : World) (b o : Nat) (v : Value) (cur : Array Value) (t : TypeId) (fr : Nat × Nat) (h : w.heap[b]? = some (.cells cur t fr)) : (w.setCell ⟨b, o, none⟩ v).heap[b]? = some (.cells (cur.setIfInBounds o v) t fr) := by
  unfold World.setCell
  simp [Array.getElem?_modify, h]
/-- Where a row that grew lies: in its old block, or behind all that was. -/
def LiesB (w : World) (v v' : Value) : Prop := ∀ k, v'.ownBlock = some k → v.ownBlock = some k ∨ w.heap.size ≤ k
theorem lies_refl (w : World) (v : Value) : LiesB w v v := fun k h => .inl h
theorem lies_trans {w w1 : World} {v v1 v2 : Value} (h1 : LiesB w v v1) (h2 : LiesB w1 v1 v2) (hs : w.heap.size ≤ w1.heap.size) : LiesB w v v2 := fun k h => by
  rcases h2 k h with h3 | h3
  · exact h1 k h3
  · exact .inr (Nat.le_trans hs h3)
/-- Two changes of a growing row are one. -/
theorem cg_lies {w w1 w2 : World} {v v1 : Value} (h1 : Chg w w1 (fun k => v.ownBlock = some k)) (hl : LiesB w v v1) (h2 : Chg w1 w2 (fun k => v1.ownBlock = some k)) : Chg w w2 (fun k => v.ownBlock = some k) :=
  cg_trans h1 h2 (fun k hk h => by
    rcases hl k h with h3 | h3
    · exact h3
    · exact absurd hk (Nat.not_lt.2 h3))
theorem cg_alloc {w w1 : World} {Q : Nat → Prop} (h : Chg w w1 Q) (o : Obj) : Chg w (w1.alloc o) Q :=
  cg_trans h (cg_below ((Below.refl _ w1).alloc (Nat.le_refl _) o) Q) (fun _ _ h => h)
/-- All that is changed lies behind. -/
theorem cg_bel {w w' : World} {Q : Nat → Prop} {B : Nat} (h : Chg w w' Q) (hB : B ≤ w.heap.size) (hq : ∀ k, Q k → B ≤ k) : Below B w w' :=
  ⟨h.1, h.2.1, h.2.2.1, h.2.2.2.1, fun k hk => h.2.2.2.2 k (Nat.lt_of_lt_of_le hk hB) (fun q => by have := hq k q; omega)⟩
end Go.Proofs.Ytcbnmahbdcjamaa
