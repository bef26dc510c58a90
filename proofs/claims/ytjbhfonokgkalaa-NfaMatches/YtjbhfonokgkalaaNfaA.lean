/- A machine in memory: its states, each with rows of its own; that they stay while others change; what one more state, and one more way, leave. -/
import Derived.Test.YtjbhfonokgkalaaBasN
import Derived.Test.YtjbhfonokgkalaaNfaP
namespace Go.Proofs.Ytjbhfonokgkalaa
open Go.RowKit
set_option linter.unusedVariables false
set_option linter.unusedSimpArgs false

theorem info_St : (Try.prog.info? 77).map (fun i => (i.zero, i.size, i.bytes)) = some (some (.agg #[.bool false, .slice none 0 0, .slice none 0 0]), 3, 56) := by kernel_rfl
theorem info_Pi : (Try.prog.info? 68).map (fun i => (i.zero, i.size, i.bytes)) = some (some (.agg #[.int .i64 0, .int .i64 0]), 2, 16) := by kernel_rfl
/-- A state's number, as it lies in memory. -/
def nI (t : Nat) : Value := .int .i64 (t : Int)
/-- A row is not that block's, if the block is of another type. -/
theorem own_ne {w : World} {B : Nat} {e t : TypeId} {s n b : Nat} {v : Value} {xs : List Value} {cs : Array Value} {fr : Nat × Nat} (h : w.ownsRow B e s v n xs) (hb : w.heap[b]? = some (.cells cs t fr)) (ht : e ≠ t) : v.ownBlock ≠ some b := by
  intro hv
  rcases h.2 with ⟨rfl, _⟩ | ⟨g, cap, cur, rfl, _, hg, _⟩
  · simp [Value.ownBlock] at hv
  · simp [Value.ownBlock] at hv
    subst hv
    rw [hg] at hb
    simp at hb
    exact ht hb.2.1
theorem own_ne2 {w : World} {B B' : Nat} {e t : TypeId} {s s' n n' : Nat} {v v' : Value} {xs xs' : List Value} (h : w.ownsRow B e s v n xs) (h' : w.ownsRow B' t s' v' n' xs') (ht : e ≠ t) : v.ownBlock = none ∨ v.ownBlock ≠ v'.ownBlock := by
  cases hv : v.ownBlock with
  | none => exact .inl rfl
  | some b =>
    refine .inr (fun e' => ?_)
    rcases h'.2 with ⟨rfl, _⟩ | ⟨g, cap, cur, rfl, _, hg, _⟩
    · simp [Value.ownBlock] at e'
    · simp [Value.ownBlock] at e'
      subst e'
      exact own_ne h hg ht hv
/-- The states of a machine in a row of the program's own, and what each of them has. -/
def MRowX (B U : Nat) (w : World) (v : Value) (l : List St) (xs : List Value) (cv nv : Nat → Value) : Prop :=
  w.ownsRow B 77 3 v l.length xs ∧ ∀ (i : Nat) (s : St), l[i]? = some s → xs[i * 3]? = some (.bool s.reads) ∧ xs[i * 3 + 1]? = some (cv i) ∧ xs[i * 3 + 2]? = some (nv i) ∧
    w.ownsRow B 3 1 (cv i) s.cl.length (s.cl.map (Value.int .i64)) ∧ w.ownsRow B 3 1 (nv i) s.next.length (s.next.map nI) ∧ (∀ k, (nv i).ownBlock = some k → k < U) ∧
    (∀ j, j < l.length → (nv i).ownBlock = none ∨ (nv i).ownBlock ≠ (cv j).ownBlock) ∧ (∀ j, j < l.length → j ≠ i → (nv i).ownBlock = none ∨ (nv i).ownBlock ≠ (nv j).ownBlock)
def MRow (B U : Nat) (w : World) (v : Value) (l : List St) : Prop := ∃ xs cv nv, MRowX B U w v l xs cv nv
/-- A machine. -/
def MAt (B U : Nat) (w : World) (bm : Nat) (l : List St) (st en : Nat) : Prop :=
  B ≤ bm ∧ B ≤ U ∧ U ≤ w.heap.size ∧ ∃ v, w.heap[bm]? = some (.cells #[v, nI st, nI en] 66) ∧ MRow B U w v l
theorem MRowX.kept {B U : Nat} {w w' : World} {v : Value} {l : List St} {xs : List Value} {cv nv : Nat → Value} {row : Option Nat} (h : MRowX B U w v l xs cv nv) (hg : w.grownBy w' row) (hv : v.ownBlock = none ∨ v.ownBlock ≠ row) (hc : ∀ i, i < l.length → ((cv i).ownBlock = none ∨ (cv i).ownBlock ≠ row) ∧ ((nv i).ownBlock = none ∨ (nv i).ownBlock ≠ row)) : MRowX B U w' v l xs cv nv := by
  refine ⟨h.1.kept hg hv, fun i s hs => ?_⟩
  obtain ⟨h1, h2, h3, h4, h5, h6, h7, h8⟩ := h.2 i s hs
  have hi := (List.getElem?_eq_some_iff.1 hs).1
  exact ⟨h1, h2, h3, h4.kept hg (hc i hi).1, h5.kept hg (hc i hi).2, h6, h7, h8⟩
theorem MRowX.later {B U : Nat} {w w' : World} {v : Value} {l : List St} {xs : List Value} {cv nv : Nat → Value} (h : MRowX B U w v l xs cv nv) (hb : Below w.heap.size w w') : MRowX B U w' v l xs cv nv :=
  h.kept (row := none) ⟨hb.os, hb.tape, hb.output, hb.size, fun k hk _ => hb.block k hk⟩ (Classical.em _) (fun i _ => ⟨Classical.em _, Classical.em _⟩)
theorem MAt.later {B U : Nat} {w w' : World} {bm : Nat} {l : List St} {st en : Nat} (h : MAt B U w bm l st en) (hb : Below w.heap.size w w') : MAt B U w' bm l st en := by
  obtain ⟨h0, h1, h2, v, h3, xs, cv, nv, h4⟩ := h
  exact ⟨h0, h1, Nat.le_trans h2 hb.size, v, (hb.block bm (Array.getElem?_eq_some_iff.1 h3).1).trans h3, xs, cv, nv, h4.later hb⟩
theorem MRowX.up {B U U' : Nat} {w : World} {v : Value} {l : List St} {xs : List Value} {cv nv : Nat → Value} (h : MRowX B U w v l xs cv nv) (hU : U ≤ U') : MRowX B U' w v l xs cv nv := by
  refine ⟨h.1, fun i s hs => ?_⟩
  obtain ⟨h1, h2, h3, h4, h5, h6, h7, h8⟩ := h.2 i s hs
  exact ⟨h1, h2, h3, h4, h5, fun k hk => Nat.lt_of_lt_of_le (h6 k hk) hU, h7, h8⟩
theorem MAt.up {B U U' : Nat} {w : World} {bm : Nat} {l : List St} {st en : Nat} (h : MAt B U w bm l st en) (hU : U ≤ U') (hw : U' ≤ w.heap.size) : MAt B U' w bm l st en := by
  obtain ⟨h0, h1, h2, v, h3, xs, cv, nv, h4⟩ := h
  exact ⟨h0, Nat.le_trans h1 hU, hw, v, h3, xs, cv, nv, h4.up hU⟩
theorem own_up {w : World} {B B' : Nat} {e : TypeId} {s : Nat} {v : Value} {n : Nat} {xs : List Value} (h : w.ownsRow B' e s v n xs) (hB : B ≤ B') : w.ownsRow B e s v n xs := by
  refine ⟨h.1, ?_⟩
  rcases h.2 with hn | ⟨g, cap, cur, hv, hb, rest⟩
  · exact .inl hn
  · exact .inr ⟨g, cap, cur, hv, Nat.le_trans hB hb, rest⟩
/-- What the making of a machine leaves alone: all that lies below, and all blocks of other types than those of states, numbers and machines. -/
structure MStep (B : Nat) (w w' : World) : Prop where
  below : Below B w w'
  keep : ∀ (k : Nat) (cs : Array Value) (t : TypeId) (fr : Nat × Nat), w.heap[k]? = some (.cells cs t fr) → t ≠ 77 → t ≠ 3 → t ≠ 66 → w'.heap[k]? = w.heap[k]?
theorem MStep.trans {B : Nat} {w w1 w2 : World} (h : MStep B w w1) (k : MStep B w1 w2) : MStep B w w2 :=
  ⟨h.below.trans k.below, fun b cs t fr hb h1 h2 h3 => (k.keep b cs t fr ((h.keep b cs t fr hb h1 h2 h3).trans hb) h1 h2 h3).trans (h.keep b cs t fr hb h1 h2 h3)⟩
theorem MStep.of_below {B : Nat} {w w' : World} (h : Below w.heap.size w w') (hB : B ≤ w.heap.size) : MStep B w w' :=
  ⟨h.mono hB, fun k cs t fr hk _ _ _ => h.block k (Array.getElem?_eq_some_iff.1 hk).1⟩
theorem MStep.cell {B : Nat} {w w' : World} (h : MStep B w w') {b j : Nat} {cs : Array Value} {t : TypeId} {fr : Nat × Nat} (hb : w.heap[b]? = some (.cells cs t fr)) (h1 : t ≠ 77) (h2 : t ≠ 3) (h3 : t ≠ 66) : w'.cell? ⟨b, j, none⟩ = cs[j]? :=
  cell_of_row w' b j _ _ _ ((h.keep b cs t fr hb h1 h2 h3).trans hb)
/-- One more state. -/
theorem add_mem {B U : Nat} {w W w1 : World} {bm : Nat} {l : List St} {st en : Nat} {v : Value} {xs : List Value} {cv nv : Nat → Value} {r : Bool} {cl : List Int} {c : Value} {g cap : Nat} (hb : B ≤ bm) (hBU : B ≤ U) (hU : U ≤ w.heap.size) (hm : w.heap[bm]? = some (.cells #[v, nI st, nI en] 66))
    (h : MRowX B U w v l xs cv nv) (hc : w.ownsRow U 3 1 c cl.length (cl.map (Value.int .i64))) (hW : Below w.heap.size w W) (h1 : w1.ownsRow B 77 3 (.slice (some ⟨g, 0, none⟩) (l.length + 1) cap) (l.length + 1) (xs ++ [.bool r, c, .slice none 0 0])) (h2 : W.grownBy w1 v.ownBlock) :
    MAt B (w1.setCell ⟨bm, 0, none⟩ (.slice (some ⟨g, 0, none⟩) (l.length + 1) cap)).heap.size (w1.setCell ⟨bm, 0, none⟩ (.slice (some ⟨g, 0, none⟩) (l.length + 1) cap)) bm (l ++ [⟨r, cl, []⟩]) st en ∧ MStep B w (w1.setCell ⟨bm, 0, none⟩ (.slice (some ⟨g, 0, none⟩) (l.length + 1) cap)) := by
  have hX := h.later hW
  have hcW := own_later5 hc hW
  have hmW := (hW.block bm (Array.getElem?_eq_some_iff.1 hm).1).trans hm
  have hvb : v.ownBlock ≠ some bm := own_ne hX.1 hmW (by decide)
  have hm1 : w1.heap[bm]? = some (.cells #[v, nI st, nI en] 66) := (h2.block bm (Array.getElem?_eq_some_iff.1 hmW).1 (fun e => hvb e.symm)).trans hmW
  have hg2 := grown_cell w1 bm 0 (.slice (some ⟨g, 0, none⟩) (l.length + 1) cap)
  obtain ⟨w2, hw2⟩ : ∃ w2, w2 = w1.setCell ⟨bm, 0, none⟩ (.slice (some ⟨g, 0, none⟩) (l.length + 1) cap) := ⟨_, rfl⟩
  have hm2 : w2.heap[bm]? = some (.cells #[.slice (some ⟨g, 0, none⟩) (l.length + 1) cap, nI st, nI en] 66) := by
    rw [hw2, heap_setCell_same w1 bm 0 _ _ _ hm1]; rfl
  rw [← hw2] at hg2 ⊢
  have key : ∀ {x : Value} {n : Nat} {ys : List Value} {A : Nat}, W.ownsRow A 3 1 x n ys → w2.ownsRow A 3 1 x n ys := by
    intro x n ys A hx
    have hx1 := hx.kept h2 (own_ne2 hx hX.1 (by decide))
    exact hx1.kept hg2 (.inr (own_ne hx1 hm1 (by decide)))
  have hsz : w.heap.size ≤ w2.heap.size := Nat.le_trans hW.size (Nat.le_trans h2.size hg2.size)
  refine ⟨⟨hb, Nat.le_trans hBU (Nat.le_trans hU hsz), Nat.le_refl _, _, hm2, xs ++ [.bool r, c, .slice none 0 0], fun i => if i = l.length then c else cv i, fun i => if i = l.length then .slice none 0 0 else nv i, ?_, fun i s hs => ?_⟩, ?_⟩
  · rw [List.length_append]
    exact h1.kept hg2 (.inr (own_ne h1 hm1 (by decide)))
  · have hxl : xs.length = l.length * 3 := h.1.1
    rcases Nat.lt_or_ge i l.length with hi | hi
    · rw [List.getElem?_append_left hi] at hs
      obtain ⟨a1, a2, a3, a4, a5, a6, a7, a8⟩ := hX.2 i s hs
      have hne : ¬ i = l.length := by omega
      simp only [if_neg hne]
      refine ⟨by rw [List.getElem?_append_left (by omega)]; exact a1, by rw [List.getElem?_append_left (by omega)]; exact a2, by rw [List.getElem?_append_left (by omega)]; exact a3, key a4, key a5, fun k hk => ?_, fun j hj => ?_, fun j hj hji => ?_⟩
      · have := a6 k hk; omega
      · by_cases hjl : j = l.length
        · rw [if_pos hjl]
          cases hnv : (nv i).ownBlock with
          | none => exact .inl rfl
          | some k =>
            refine .inr (fun e => ?_)
            have := a6 k hnv
            have := (hc.lt k e.symm).1
            omega
        · rw [if_neg hjl]
          exact a7 j (by simp at hj; omega)
      · by_cases hjl : j = l.length
        · rw [if_pos hjl]
          cases hnv : (nv i).ownBlock with
          | none => exact .inl rfl
          | some k => exact .inr (by simp [Value.ownBlock])
        · rw [if_neg hjl]
          exact a8 j (by simp at hj; omega) hji
    · have hil : i = l.length := by
        have := (List.getElem?_eq_some_iff.1 hs).1
        simp at this
        omega
      subst hil
      rw [List.getElem?_append_right (Nat.le_refl _), Nat.sub_self] at hs
      simp at hs
      subst hs
      simp only [if_pos rfl]
      refine ⟨?_, ?_, ?_, own_up (key hcW) hBU, World.ownsRow_nil _ _ _ _, fun k hk => by simp [Value.ownBlock] at hk, fun j hj => .inl rfl, fun j hj hji => .inl rfl⟩
      · rw [List.getElem?_append_right (by omega), hxl, Nat.sub_self]; rfl
      · rw [List.getElem?_append_right (by omega), hxl, show l.length * 3 + 1 - l.length * 3 = 1 by omega]; rfl
      · rw [List.getElem?_append_right (by omega), hxl, show l.length * 3 + 2 - l.length * 3 = 2 by omega]; rfl
  · have hBw : B ≤ w.heap.size := Nat.le_trans hBU hU
    refine ⟨⟨hg2.os.trans (h2.os.trans hW.os), hg2.tape.trans (h2.tape.trans hW.tape), hg2.output.trans (h2.output.trans hW.output), hsz, fun k hk => ?_⟩, fun k cs t fr hk t1 t2 t3 => ?_⟩
    · have hk1 : k < W.heap.size := by have := hW.size; omega
      have hk2 : k < w1.heap.size := by have := h2.size; omega
      rw [hg2.block k hk2 (fun e => by cases e; omega), h2.block k hk1 (fun e => by have := (hX.1.lt k e.symm).1; omega), hW.block k (by omega)]
    · have hk0 := (Array.getElem?_eq_some_iff.1 hk).1
      have hkW := (hW.block k hk0).trans hk
      have hk1 := (Array.getElem?_eq_some_iff.1 hkW).1
      have hk2 : k < w1.heap.size := by have := h2.size; omega
      rw [hg2.block k hk2 (fun e => by cases e; rw [hm] at hk; simp at hk; exact t3 hk.2.1.symm), h2.block k hk1 (fun e => own_ne hX.1 hkW (fun e' => t1 e'.symm) e.symm), hW.block k hk0]
/-- One more way. -/
theorem lead_mem {B U : Nat} {w W w1 : World} {bm : Nat} {l : List St} {st en : Nat} {g0 c0 : Nat} {xs : List Value} {cv nv : Nat → Value} {f t : Nat} {s : St} {v' : Value} (hb : B ≤ bm) (hBU : B ≤ U) (hU : U ≤ w.heap.size) (hm : w.heap[bm]? = some (.cells #[.slice (some ⟨g0, 0, none⟩) l.length c0, nI st, nI en] 66))
    (h : MRowX B U w (.slice (some ⟨g0, 0, none⟩) l.length c0) l xs cv nv) (hf : l[f]? = some s) (hW : Below w.heap.size w W) (h1 : w1.ownsRow B 3 1 v' (s.next.length + 1) (s.next.map nI ++ [nI t])) (h2 : W.grownBy w1 (nv f).ownBlock) (h3 : (nv f).ownBlock = v'.ownBlock ∨ ∀ k, v'.ownBlock = some k → W.heap.size ≤ k) :
    MAt B (w1.setCell ⟨g0, f * 3 + 2, none⟩ v').heap.size (w1.setCell ⟨g0, f * 3 + 2, none⟩ v') bm (leadS l f t) st en ∧ MStep B w (w1.setCell ⟨g0, f * 3 + 2, none⟩ v') := by
  have hX := h.later hW
  have hfl : f < l.length := (List.getElem?_eq_some_iff.1 hf).1
  have hmW := (hW.block bm (Array.getElem?_eq_some_iff.1 hm).1).trans hm
  obtain ⟨_, _, _, _, b5, b6, b7, b8⟩ := hX.2 f s hf
  have hnb : (nv f).ownBlock ≠ some bm := own_ne b5 hmW (by decide)
  have hm1 : w1.heap[bm]? = some (.cells #[.slice (some ⟨g0, 0, none⟩) l.length c0, nI st, nI en] 66) := (h2.block bm (Array.getElem?_eq_some_iff.1 hmW).1 (fun e => hnb e.symm)).trans hmW
  have hs1 := hX.1.kept h2 (own_ne2 hX.1 b5 (by decide))
  have hgb : bm ≠ g0 := fun e => own_ne hs1 hm1 (by decide) (by rw [e]; rfl)
  have hg2 := grown_cell w1 g0 (f * 3 + 2) v'
  have hm2 := (hg2.block bm (Array.getElem?_eq_some_iff.1 hm1).1 (fun e => hgb (Option.some.inj e))).trans hm1
  have hlen : (leadS l f t).length = l.length := by simp [leadS]
  have hrow2 : (w1.setCell ⟨g0, f * 3 + 2, none⟩ v').ownsRow B 77 3 (.slice (some ⟨g0, 0, none⟩) l.length c0) l.length (xs.set (f * 3 + 2) v') := by
    refine ⟨by simpa using hs1.1, ?_⟩
    rcases hs1.2 with ⟨hv, h0⟩ | ⟨g', cap', cur, hv, hbb, hg, hnc, hmx, hs, ht⟩
    · cases hv
    · cases hv
      refine .inr ⟨g0, c0, cur.setIfInBounds (f * 3 + 2) v', rfl, hbb, heap_setCell_same w1 g0 _ cur _ _ hg, hnc, hmx, by simpa using hs, ?_⟩
      rw [Array.toList_setIfInBounds, List.take_set, ht]
  obtain ⟨w2, hw2⟩ : ∃ w2, w2 = w1.setCell ⟨g0, f * 3 + 2, none⟩ v' := ⟨_, rfl⟩
  rw [← hw2] at hg2 hm2 hrow2 ⊢
  have key : ∀ {x : Value} {n : Nat} {ys : List Value} {A : Nat}, w1.ownsRow A 3 1 x n ys → w2.ownsRow A 3 1 x n ys := fun hx => hx.kept hg2 (by rcases own_ne2 hx hs1 (by decide) with e | e; exact .inl e; exact .inr e)
  have hsz : w.heap.size ≤ w2.heap.size := Nat.le_trans hW.size (Nat.le_trans h2.size hg2.size)
  have hxl : xs.length = l.length * 3 := h.1.1
  have hvlt : ∀ k, v'.ownBlock = some k → k < w2.heap.size := fun k hk => Nat.lt_of_lt_of_le (h1.lt k hk).2 hg2.size
  refine ⟨⟨hb, Nat.le_trans hBU (Nat.le_trans hU hsz), Nat.le_refl _, _, by rw [← hlen] at hm2; exact hm2, xs.set (f * 3 + 2) v', cv, fun i => if i = f then v' else nv i, by rw [hlen]; exact hrow2, fun i s' hs' => ?_⟩, ?_⟩
  · rw [leadS_get] at hs'
    obtain ⟨s0, hs0, rfl⟩ := Option.map_eq_some_iff.1 hs'
    have hi : i < l.length := (List.getElem?_eq_some_iff.1 hs0).1
    obtain ⟨a1, a2, a3, a4, a5, a6, a7, a8⟩ := hX.2 i s0 hs0
    have a4' := key (a4.kept h2 (by
      cases hcv : (cv i).ownBlock with
      | none => exact .inl rfl
      | some k =>
        refine .inr (fun e => ?_)
        rcases b7 i hi with e2 | e2
        · rw [e2] at e; cases e
        · exact e2 (by rw [hcv, e])))
    rw [hlen]
    by_cases hif : i = f
    · subst hif
      rw [hf] at hs0
      cases hs0
      simp only [if_true, St.ad]
      refine ⟨by rw [List.getElem?_set_ne (by omega)]; exact a1, by rw [List.getElem?_set_ne (by omega)]; exact a2, by rw [List.getElem?_set_self (by omega)], a4', ?_, hvlt, fun j hj => ?_, fun j hj hji => ?_⟩
      · have := key h1
        simpa using this
      · rcases h3 with h3 | h3
        · rw [← h3]; exact b7 j hj
        · cases hv : v'.ownBlock with
          | none => exact .inl rfl
          | some k =>
            refine .inr (fun e => ?_)
            obtain ⟨sj, hsj⟩ : ∃ sj, l[j]? = some sj := ⟨_, List.getElem?_eq_getElem hj⟩
            have := ((hX.2 j sj hsj).2.2.2.1.lt k e.symm).2
            have := h3 k hv
            omega
      · rw [if_neg hji]
        rcases h3 with h3 | h3
        · rw [← h3]; exact b8 j hj hji
        · cases hv : v'.ownBlock with
          | none => exact .inl rfl
          | some k =>
            refine .inr (fun e => ?_)
            obtain ⟨sj, hsj⟩ : ∃ sj, l[j]? = some sj := ⟨_, List.getElem?_eq_getElem hj⟩
            have := ((hX.2 j sj hsj).2.2.2.2.1.lt k e.symm).2
            have := h3 k hv
            omega
    · simp only [if_neg hif]
      rw [if_neg (fun e => hif e.symm), St.ad_nil]
      refine ⟨by rw [List.getElem?_set_ne (by omega)]; exact a1, by rw [List.getElem?_set_ne (by omega)]; exact a2, by rw [List.getElem?_set_ne (by omega)]; exact a3, a4', key (a5.kept h2 (a8 f hfl (fun e => hif e.symm))), fun k hk => ?_, fun j hj => a7 j hj, fun j hj hji => ?_⟩
      · have := a6 k hk; omega
      · by_cases hjf : j = f
        · rw [if_pos hjf]
          rcases h3 with h3 | h3
          · rw [← h3, ← hjf]; exact a8 j hj hji
          · cases hnv : (nv i).ownBlock with
            | none => exact .inl rfl
            | some k =>
              refine .inr (fun e => ?_)
              have := (a5.lt k hnv).2
              have := h3 k e.symm
              omega
        · rw [if_neg hjf]; exact a8 j hj hji
  · have hBw : B ≤ w.heap.size := Nat.le_trans hBU hU
    refine ⟨⟨hg2.os.trans (h2.os.trans hW.os), hg2.tape.trans (h2.tape.trans hW.tape), hg2.output.trans (h2.output.trans hW.output), hsz, fun k hk => ?_⟩, fun k cs t fr hk t1 t2 t3 => ?_⟩
    · have hk1 : k < W.heap.size := by have := hW.size; omega
      have hk2 : k < w1.heap.size := by have := h2.size; omega
      rw [hg2.block k hk2 (fun e => by have := (hs1.lt g0 rfl).1; cases e; omega), h2.block k hk1 (fun e => by have := (b5.lt k e.symm).1; omega), hW.block k (by omega)]
    · have hk0 := (Array.getElem?_eq_some_iff.1 hk).1
      have hkW := (hW.block k hk0).trans hk
      have hk1 := (Array.getElem?_eq_some_iff.1 hkW).1
      have hk2 : k < w1.heap.size := by have := h2.size; omega
      rw [hg2.block k hk2 (fun e => own_ne hX.1 hkW (fun e' => t1 e'.symm) (by rw [e]; rfl)), h2.block k hk1 (fun e => own_ne b5 hkW (fun e' => t2 e'.symm) e.symm), hW.block k hk0]
end Go.Proofs.Ytjbhfonokgkalaa
