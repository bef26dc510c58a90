/- Marked expressions in memory: what lies where, which blocks are whose, and that each stays while others change. -/
import Derived.Test.YtjbhfonokgkalaaReaA
import Derived.Laws.Rows
import Derived.Lib.Builder
import Derived.Deep.DeepCutAuto
import Derived.BigQuiet
import Derived.Laws.ResultCell
namespace Go.Proofs.Ytjbhfonokgkalaa
open Go.RowKit
set_option linter.unusedVariables false

theorem five_at {cur : Array Value} {off : Nat} {v0 v1 v2 v3 v4 : Value} (h : (cur.toList.drop off).take 5 = [v0, v1, v2, v3, v4]) : cur[off]? = some v0 ∧ cur[off + 1]? = some v1 ∧ cur[off + 2]? = some v2 ∧ cur[off + 3]? = some v3 ∧ cur[off + 4]? = some v4 := by
  have key : ∀ j, j < 5 → cur[off + j]? = ([v0, v1, v2, v3, v4] : List Value)[j]? := by
    intro j hj
    rw [← h, List.getElem?_take, if_pos hj, List.getElem?_drop]
    simp
  exact ⟨key 0 (by omega), key 1 (by omega), key 2 (by omega), key 3 (by omega), key 4 (by omega)⟩
theorem five_of {cur : Array Value} {off : Nat} {v0 v1 v2 v3 v4 : Value} (h0 : cur[off]? = some v0) (h1 : cur[off + 1]? = some v1) (h2 : cur[off + 2]? = some v2) (h3 : cur[off + 3]? = some v3) (h4 : cur[off + 4]? = some v4) : (cur.toList.drop off).take 5 = [v0, v1, v2, v3, v4] := by
  apply List.ext_getElem?
  intro j
  rw [List.getElem?_take]
  by_cases hj : j < 5
  · rw [if_pos hj, List.getElem?_drop]
    simp only [Array.getElem?_toList]
    rcases (by omega : j = 0 ∨ j = 1 ∨ j = 2 ∨ j = 3 ∨ j = 4) with rfl | rfl | rfl | rfl | rfl
    · simpa using h0
    · simpa using h1
    · simpa using h2
    · simpa using h3
    · simpa using h4
  · rw [if_neg hj, List.getElem?_eq_none (by simp; omega)]
theorem five_other {cur : Array Value} {p o : Nat} (v : Value) (h : p < o ∨ o + 5 ≤ p) : ((cur.setIfInBounds p v).toList.drop o).take 5 = (cur.toList.drop o).take 5 := by
  apply List.ext_getElem?
  intro j
  rw [List.getElem?_take, List.getElem?_take]
  by_cases hj : j < 5
  · rw [if_pos hj, if_pos hj, List.getElem?_drop, List.getElem?_drop]
    simp only [Array.getElem?_toList]
    rw [Array.getElem?_setIfInBounds_ne (by omega)]
  · rw [if_neg hj, if_neg hj]
theorem five_set {cur : Array Value} {off : Nat} {v0 v1 v2 v3 v4 : Value} (h : (cur.toList.drop off).take 5 = [v0, v1, v2, v3, v4]) (v : Value) : ((cur.setIfInBounds (off + 4) v).toList.drop off).take 5 = [v0, v1, v2, v3, v] := by
  obtain ⟨h0, h1, h2, h3, h4⟩ := five_at h
  have hl := (Array.getElem?_eq_some_iff.1 h4).1
  refine five_of ?_ ?_ ?_ ?_ ?_
  · rw [Array.getElem?_setIfInBounds_ne (by omega)]; exact h0
  · rw [Array.getElem?_setIfInBounds_ne (by omega)]; exact h1
  · rw [Array.getElem?_setIfInBounds_ne (by omega)]; exact h2
  · rw [Array.getElem?_setIfInBounds_ne (by omega)]; exact h3
  · rw [Array.getElem?_setIfInBounds_self_of_lt hl]

/-- The parts of an expression in memory: a block of their own each row; no block is two parts'. -/
def RowV (R : Nd → Hist → List Value → (Nat → Prop) → Prop) (w : World) (l : List Nd) (hs : List Hist) (pa : Option Addr) (fp : Nat → Prop) : Prop :=
  0 < l.length → ∃ g cur, pa = some ⟨g, 0, none⟩ ∧ w.heap[g]? = some (.cells cur 82 (0, 0)) ∧ fp g ∧ l.length * 5 ≤ cur.size ∧ ∃ fps : Nat → Nat → Prop,
    ∀ i (hi : i < l.length), ¬ fps i g ∧ (∀ x, fps i x → fp x) ∧ (∀ j, j < i → ∀ x, fps i x → ¬ fps j x) ∧ R l[i] (hs.getD i []) ((cur.toList.drop (i * 5)).take 5) (fps i)
/-- Not too many parts, and none where none count. -/
def KOk (n : Nd) : Prop := (toL n.kids).length ≤ 2600000000000 ∧ (¬ (n.op = 2 ∨ n.op = 3 ∨ n.op = 4 ∨ n.op = 5) → (toL n.kids).length = 0)
/-- The values of a marked expression that has ended or not, whose parts have read what is told. -/
def NdX (R : Nd → Hist → List Value → (Nat → Prop) → Prop) (B : Nat) (w : World) (n : Nd) (e : Bool) (hs : List Hist) (vs : List Value) (fp : Nat → Prop) : Prop :=
  ∃ ca cc pa pc, vs = [.int .i64 n.op, .slice ca n.cl.length cc, .slice pa (toL n.kids).length pc, .bool n.emp, .bool e] ∧ Rd .i64 w ca n.cl.length n.cl ∧ (0 < n.cl.length → ∀ x, ca = some x → x.block < B) ∧ n.cl.length ≤ 140737488355328 ∧ KOk n ∧ RowV R w (toL n.kids) hs pa fp
/-- The values of a marked expression, no deeper than that, which has read what is told. -/
def NdV (B : Nat) (w : World) : Nat → Nd → Hist → List Value → (Nat → Prop) → Prop
  | 0, _, _, _, _ => False
  | d + 1, n, h, vs, fp => NdX (NdV B w d) B w n (n.end h) (n.hs h) vs fp

theorem RowV.map {R R' : Nd → Hist → List Value → (Nat → Prop) → Prop} {w w' : World} {l : List Nd} {hs : List Hist} {pa : Option Addr} {fp : Nat → Prop} (h : RowV R w l hs pa fp)
    (hb : ∀ g, g < w.heap.size → fp g → w'.heap[g]? = w.heap[g]?) (hr : ∀ n h vs fq, (∀ x, fq x → fp x) → R n h vs fq → R' n h vs fq) : RowV R' w' l hs pa fp := by
  intro hp
  obtain ⟨g, cur, h1, h2, h3, h4, fps, h5⟩ := h hp
  refine ⟨g, cur, h1, (hb g (Array.getElem?_eq_some_iff.1 h2).1 h3).trans h2, h3, h4, fps, fun i hi => ?_⟩
  obtain ⟨k1, k2, k3, k4⟩ := h5 i hi
  exact ⟨k1, k2, k3, hr _ _ _ _ k2 k4⟩
theorem Rd.frame {k : IntKind} {B : Nat} {w w' : World} {a : Option Addr} {len : Nat} {xs : List Int} (h : Rd k w a len xs) (ha : 0 < len → ∀ x, a = some x → x.block < B) (hb : ∀ x, x < w.heap.size → x < B → w'.heap[x]? = w.heap[x]?) : Rd k w' a len xs := by
  refine ⟨h.1, fun hp => ?_⟩
  obtain ⟨b, off, e, hc⟩ := h.2 hp
  refine ⟨b, off, e, fun i hi => ?_⟩
  have hci := hc i hi
  have hlt := World.block_lt_of_cell? w _ hci
  rw [World.cell?_of_block (w := w) (w' := w') (a := ⟨b, off + i, none⟩) (hb b hlt (ha hp _ e))]
  exact hci
theorem NdX.map {R R' : Nd → Hist → List Value → (Nat → Prop) → Prop} {B : Nat} {w w' : World} {n : Nd} {e : Bool} {hs : List Hist} {vs : List Value} {fp : Nat → Prop} (h : NdX R B w n e hs vs fp)
    (hb : ∀ g, g < w.heap.size → fp g ∨ g < B → w'.heap[g]? = w.heap[g]?) (hr : ∀ n h vs fq, (∀ x, fq x → fp x) → R n h vs fq → R' n h vs fq) : NdX R' B w' n e hs vs fp := by
  obtain ⟨ca, cc, pa, pc, h1, h2, h3, h4, h5, h6⟩ := h
  exact ⟨ca, cc, pa, pc, h1, h2.frame h3 (fun x hx hxB => hb x hx (.inr hxB)), h3, h4, h5, h6.map (fun g hg hf => hb g hg (.inl hf)) hr⟩
/-- What keeps an expression's blocks, and those of its classes, keeps it. -/
theorem NdV.frame {B : Nat} {w w' : World} : (d : Nat) → {n : Nd} → {h : Hist} → {vs : List Value} → {fp : Nat → Prop} → NdV B w d n h vs fp → (∀ g, g < w.heap.size → fp g ∨ g < B → w'.heap[g]? = w.heap[g]?) → NdV B w' d n h vs fp
  | 0, _, _, _, _, h, _ => h.elim
  | d + 1, n, h, vs, fp, hh, hb => NdX.map hh hb (fun n h vs fq hq hk => NdV.frame d hk (fun g hg hgf => hb g hg (hgf.imp (hq g) id)))

/-- What changed lies in these blocks, or in that one. -/
structure Chg (fp : Nat → Prop) (b : Nat) (w w' : World) : Prop where
  os : w'.os = w.os
  tape : w'.tape = w.tape
  output : w'.output = w.output
  size : w.heap.size ≤ w'.heap.size
  block : ∀ x, x < w.heap.size → ¬ fp x → x ≠ b → w'.heap[x]? = w.heap[x]?
theorem Chg.refl (fp : Nat → Prop) (b : Nat) (w : World) : Chg fp b w w := ⟨rfl, rfl, rfl, Nat.le_refl _, fun _ _ _ _ => rfl⟩
theorem Chg.trans {fp : Nat → Prop} {b : Nat} {w w1 w2 : World} (h : Chg fp b w w1) (k : Chg fp b w1 w2) : Chg fp b w w2 :=
  ⟨k.os.trans h.os, k.tape.trans h.tape, k.output.trans h.output, Nat.le_trans h.size k.size, fun x hx h1 h2 => (k.block x (Nat.lt_of_lt_of_le hx h.size) h1 h2).trans (h.block x hx h1 h2)⟩
theorem Chg.set (fp : Nat → Prop) (b i : Nat) (w : World) (v : Value) : Chg fp b w (w.setCell ⟨b, i, none⟩ v) :=
  ⟨rfl, rfl, rfl, by simp [World.setCell], fun x _ _ hx => Below.heap_setCell _ _ _ x hx⟩
theorem Chg.up {fp fq : Nat → Prop} {b g : Nat} {w w' : World} (h : Chg fq g w w') (hq : ∀ x, fq x → fp x) (hg : fp g) : Chg fp b w w' :=
  ⟨h.os, h.tape, h.output, h.size, fun x hx h1 _ => h.block x hx (fun k => h1 (hq x k)) (fun e => h1 (e ▸ hg))⟩
theorem Chg.below {fp : Nat → Prop} {b B : Nat} {w w' : World} (h : Chg fp b w w') (hf : ∀ x, fp x → B ≤ x) (hb : B ≤ b) (hB : B ≤ w.heap.size) : Below B w w' :=
  ⟨h.os, h.tape, h.output, h.size, fun k hk => h.block k (by omega) (fun hx => by have := hf k hx; omega) (by omega)⟩
theorem Chg.of_below {fp : Nat → Prop} {b : Nat} {w w' : World} (h : Below w.heap.size w w') : Chg fp b w w' := ⟨h.os, h.tape, h.output, h.size, fun k hk _ _ => h.block k hk⟩

/-- A row with one part that has read more. -/
theorem RowV.step {B : Nat} {d : Nat} {w w' : World} {l : List Nd} {hs : List Hist} {fp : Nat → Prop} {g : Nat} {cur : Array Value} {fps : Nat → Nat → Prop} (hg : w.heap[g]? = some (.cells cur 82 (0, 0))) (hfg : fp g) (hl : l.length * 5 ≤ cur.size)
    (h : ∀ i (hi : i < l.length), ¬ fps i g ∧ (∀ x, fps i x → fp x) ∧ (∀ j, j < i → ∀ x, fps i x → ¬ fps j x) ∧ NdV B w d l[i] (hs.getD i []) ((cur.toList.drop (i * 5)).take 5) (fps i))
    (hfB : ∀ x, fp x → B ≤ x) (k : Nat) (hk : k < l.length) (h' : Hist) (hkh : k < hs.length) (v : Value)
    (hg' : w'.heap[g]? = some (.cells (cur.setIfInBounds (k * 5 + 4) v) 82 (0, 0))) (hn : NdV B w' d l[k] h' (((cur.setIfInBounds (k * 5 + 4) v).toList.drop (k * 5)).take 5) (fps k)) (hc : Chg (fps k) g w w') :
    RowV (NdV B w' d) w' l (hs.set k h') (some ⟨g, 0, none⟩) fp := by
  intro _
  refine ⟨g, _, rfl, hg', hfg, by simpa using hl, fps, fun i hi => ?_⟩
  obtain ⟨k1, k2, k3, k4⟩ := h i hi
  refine ⟨k1, k2, k3, ?_⟩
  by_cases hik : i = k
  · subst hik
    rw [List.getD_eq_getElem?_getD, List.getElem?_set_self hkh]
    exact hn
  · rw [List.getD_eq_getElem?_getD, List.getElem?_set_ne (fun e => hik e.symm), ← List.getD_eq_getElem?_getD, five_other v (by omega)]
    refine k4.frame d (fun x hx hf => ?_)
    refine hc.block x hx (fun hkx => ?_) (fun e => ?_)
    · rcases hf with hf | hf
      · rcases Nat.lt_or_ge i k with hlt | hge
        · exact (h k hk).2.2.1 i hlt x hkx hf
        · exact k3 k (by omega) x hf hkx
      · have := hfB x ((h k hk).2.1 x hkx); omega
    · rcases hf with hf | hf
      · exact k1 (e ▸ hf)
      · have := hfB g hfg; omega
end Go.Proofs.Ytjbhfonokgkalaa
