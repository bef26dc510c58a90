/- Rows of rules that are turned: their memory. -/
import Derived.Test.YtjbhfonokgkalaaReaTo
namespace Go.Proofs.Ytjbhfonokgkalaa
open Go.RowKit
set_option linter.unusedVariables false
set_option linter.unusedSimpArgs false

/-- The first so many changed. -/
def upd {α : Type} (f : α → α) (ps : List α) (k : Nat) : List α := (ps.take k).map f ++ ps.drop k
theorem upd_len {α : Type} (f : α → α) (ps : List α) (k : Nat) : (upd f ps k).length = ps.length := by unfold upd; simp; omega
theorem upd_zero {α : Type} (f : α → α) (ps : List α) : upd f ps 0 = ps := by simp [upd]
theorem upd_at {α : Type} (f : α → α) (ps : List α) (k : Nat) (hk : k < ps.length) : (upd f ps k)[k]? = some ps[k] := by
  unfold upd
  rw [List.getElem?_append_right (by simp; omega)]
  simp [show min k ps.length = k by omega, hk]
theorem upd_set {α : Type} (f : α → α) (ps : List α) (k : Nat) (hk : k < ps.length) : (upd f ps k).set k (f ps[k]) = upd f ps (k + 1) := by
  unfold upd
  rw [List.set_append_right _ _ (by simp; omega)]
  have e : k - ((ps.take k).map f).length = 0 := by simp; omega
  rw [e, List.drop_eq_getElem_cons hk, List.set_cons_zero, List.take_succ_eq_append_getElem hk, List.map_append, List.append_assoc]
  rfl
theorem upd_all {α : Type} (f : α → α) (ps : List α) (k : Nat) (hk : k = ps.length) : upd f ps k = ps.map f := by
  unfold upd
  rw [hk, List.take_length, List.drop_length, List.append_nil]
def stl (x : Rl × RlP) : Rl × RlP := (x.1.still, x.2)
theorem flatU_stl (ps : List (Rl × RlP)) (i : Nat) (hi : i < ps.length) : flatU (ps.set i (stl ps[i])) = (flatU ps).set (i * 8 + 7) (.bool false) := by
  apply List.ext_getElem?
  intro p
  obtain ⟨a, j, hj, rfl⟩ : ∃ a j, j < 8 ∧ p = a * 8 + j := ⟨p / 8, p % 8, by omega, by omega⟩
  rw [flatU_get _ a j hj]
  by_cases ha : a = i
  · subst ha
    have hl := flatU_len ps
    have h0 := flatU_get ps a j hj
    rw [List.getElem?_eq_getElem hi] at h0
    rw [List.getElem?_set_self hi]
    match j, hj with
    | 0, _ => rw [List.getElem?_set_ne (by omega), h0]; rfl
    | 1, _ => rw [List.getElem?_set_ne (by omega), h0]; rfl
    | 2, _ => rw [List.getElem?_set_ne (by omega), h0]; rfl
    | 3, _ => rw [List.getElem?_set_ne (by omega), h0]; rfl
    | 4, _ => rw [List.getElem?_set_ne (by omega), h0]; rfl
    | 5, _ => rw [List.getElem?_set_ne (by omega), h0]; rfl
    | 6, _ => rw [List.getElem?_set_ne (by omega), h0]; rfl
    | 7, _ => rw [List.getElem?_set_self (by omega)]; rfl
  · rw [List.getElem?_set_ne (Ne.symm ha), List.getElem?_set_ne (by omega), flatU_get _ a j hj]
theorem own_set8T {w : World} {B : Nat} {e : TypeId} {n g cap : Nat} {vs : List Value} (h : w.ownsRow B e 8 (.slice (some ⟨g, 0, none⟩) n cap) n vs) (i : Nat) (u : Value) : (w.setCell ⟨g, i, none⟩ u).ownsRow B e 8 (.slice (some ⟨g, 0, none⟩) n cap) n (vs.set i u) := by
  refine ⟨by simpa using h.1, ?_⟩
  rcases h.2 with ⟨hv, h0⟩ | ⟨g', cap', cur, hv, hb, hg, hnc, hm, hs, ht⟩
  · cases hv
  · cases hv
    refine .inr ⟨g, cap, cur.setIfInBounds i u, rfl, hb, heap_setCell_same w g i cur e u hg, hnc, hm, by simpa using hs, ?_⟩
    rw [Array.toList_setIfInBounds, List.take_set, ht]
theorem own_cells8T {w : World} {B : Nat} {e : TypeId} {n : Nat} {a : Option Addr} {cap : Nat} {vs : List Value} (h : w.ownsRow B e 8 (.slice a n cap) n vs) (hn : 0 < n) : ∃ g, a = some ⟨g, 0, none⟩ ∧ B ≤ g ∧ (∀ j, w.frozen? ⟨g, j, none⟩ = false) ∧ ∀ i, i < n * 8 → w.cell? ⟨g, i, none⟩ = vs[i]? := by
  rcases h.2 with ⟨hv, h0⟩ | ⟨g, cap', cur, hv, hb, hg, hnc, hm, hs, ht⟩
  · omega
  · cases hv
    refine ⟨g, rfl, hb, Lib.frozen_of_heap hg, fun i hi => ?_⟩
    rw [cell_of_row w g i _ _ _ hg, ← ht, List.getElem?_take, if_pos (by omega)]
    simp
/-- A turned rule's two sides, in blocks of some kind. -/
def RuQ (Q : Nat → Prop) (w : World) (x : Rl × RlP) : Prop :=
  InQ Q w 12 x.1.left [.int .i64 x.1.left.op, .slice x.2.la x.1.left.cl.length x.2.lc, .slice x.2.lp (toL x.1.left.kids).length x.2.lpc] ∧ InQ Q w 12 x.1.right [.int .i64 x.1.right.op, .slice x.2.ra x.1.right.cl.length x.2.rc, .slice x.2.rp (toL x.1.right.kids).length x.2.rpc]
theorem RuQ.at {Q : Nat → Prop} {w : World} {x : Rl × RlP} (h : RuQ Q w x) : RlAt w 12 x.1 x.2 := ⟨h.1.inV 12, h.2.inV 12⟩
theorem RuQ.grown {Q Q' : Nat → Prop} {w w' : World} {row : Option Nat} {x : Rl × RlP} (h : RuQ Q w x) (hg : w.grownBy w' row) (hr : ∀ b, Q b → b < w.heap.size → some b ≠ row ∧ Q' b) : RuQ Q' w' x := ⟨h.1.grown hg hr 12, h.2.grown hg hr 12⟩
/-- The turned rules, so far. -/
def TrAt (B A : Nat) (L : List Rl) (k : Nat) (v : Value) (w : World) : Prop :=
  ∃ qs : List (Rl × RlP), qs.map (fun x => x.1) = (L.take k).map Rl.turn ∧ qs.length = k ∧ w.ownsRow A 35 8 v k (flatU qs) ∧ A ≤ w.heap.size ∧ ∀ x ∈ qs, RuQ (fun b => b < B ∨ (A ≤ b ∧ v.ownBlock ≠ some b)) w x
theorem TrAt.form {B A : Nat} {L : List Rl} {k : Nat} {v : Value} {w : World} (h : TrAt B A L k v w) : ∃ av cv, v = .slice av k cv := by
  obtain ⟨qs, _, _, h3, _⟩ := h
  exact own_sl1 h3
/-- A store into a block between. -/
theorem TrAt.store {B A : Nat} {L : List Rl} {k : Nat} {v : Value} {w : World} (h : TrAt B A L k v w) (g i : Nat) (u : Value) (h1 : B ≤ g) (h2 : g < A) : TrAt B A L k v (w.setCell ⟨g, i, none⟩ u) := by
  obtain ⟨qs, e1, e2, e3, e4, e5⟩ := h
  have hg : w.grownBy (w.setCell ⟨g, i, none⟩ u) (some g) := ⟨rfl, rfl, rfl, by simp [World.setCell], fun k _ hk => Below.heap_setCell _ _ _ k (fun e => hk (by rw [e]))⟩
  refine ⟨qs, e1, e2, own_same e3 (fun q hq => Below.heap_setCell _ _ _ q (fun e => by have := (e3.lt q hq).1; have : q = g := e; omega)), Nat.le_trans e4 hg.size, fun x hx => (e5 x hx).grown hg (fun b hb _ => ⟨fun e => ?_, hb⟩)⟩
  injection e with e
  rcases hb with hb | hb <;> omega
/-- One rule more. -/
theorem TrAt.step {B A : Nat} {L : List Rl} {k : Nat} {v : Value} {wr V w3 : World} {q : RlP} {g cap : Nat} (h : TrAt B A L k v wr) (hBA : B ≤ A) (hk : k < L.length) (hb : Below wr.heap.size wr V) (hx : RuQ (fun b => b < B ∨ wr.heap.size ≤ b) V (L[k].turn, q))
    (ho : w3.ownsRow A 35 8 (.slice (some ⟨g, 0, none⟩) (k + 1) cap) (k + 1) (flatU h.choose ++ (L[k].turn.vals q).toList)) (hg : (V.alloc (.cells (L[k].turn.vals q) 35)).grownBy w3 v.ownBlock) (hl : v.ownBlock = some g ∨ g = (V.alloc (.cells (L[k].turn.vals q) 35)).heap.size) :
    TrAt B A L (k + 1) (.slice (some ⟨g, 0, none⟩) (k + 1) cap) w3 := by
  obtain ⟨qs, hqs⟩ : ∃ qs, qs = h.choose := ⟨_, rfl⟩
  obtain ⟨e1, e2, e3, e4, e5⟩ := h.choose_spec
  rw [← hqs] at e1 e2 e3 e5 ho
  obtain ⟨W, hW⟩ : ∃ W, W = V.alloc (.cells (L[k].turn.vals q) 35) := ⟨_, rfl⟩
  rw [← hW] at hg hl
  have hbW : Below wr.heap.size wr W := by rw [hW]; exact hb.alloc hb.size _
  have hsW : W.heap.size = V.heap.size + 1 := by rw [hW]; simp
  have hsV := hb.size
  have hown : ∀ q, v.ownBlock = some q → A ≤ q ∧ q < wr.heap.size := fun q hq => e3.lt q hq
  have key : ∀ {y : Rl × RlP} (Q : Nat → Prop), (∀ b, Q b → b < W.heap.size → (b < B ∨ (A ≤ b ∧ v.ownBlock ≠ some b ∧ b ≠ g))) → RuQ Q W y → RuQ (fun b => b < B ∨ (A ≤ b ∧ (Value.slice (some ⟨g, 0, none⟩) (k + 1) cap).ownBlock ≠ some b)) w3 y := by
    intro y Q hQ hy
    refine hy.grown hg (fun b hbb hbl => ?_)
    rcases hQ b hbb hbl with h8 | ⟨h8, h9, h10⟩
    · exact ⟨fun e => by have := (hown b e.symm).1; omega, .inl h8⟩
    · exact ⟨fun e => h9 e.symm, .inr ⟨h8, fun e => h10 (by injection e with e; exact e.symm)⟩⟩
  have gW : wr.grownBy W none := grown_belowQ hbW none
  refine ⟨qs ++ [(L[k].turn, q)], ?_, by simp [e2], ?_, ?_, fun x hx2 => ?_⟩
  · rw [List.map_append, e1, List.take_succ_eq_append_getElem hk, List.map_append]; rfl
  · rw [show flatU (qs ++ [(L[k].turn, q)]) = flatU qs ++ (L[k].turn.vals q).toList by simp [flatU]]
    exact ho
  · have := hg.size
    omega
  · rcases List.mem_append.1 hx2 with hx2 | hx2
    · refine key (fun b => (b < B ∨ (A ≤ b ∧ v.ownBlock ≠ some b)) ∧ b < wr.heap.size) ?_ ((e5 x hx2).grown gW (fun b hq hbl => ⟨(fun e => by cases e), hq, hbl⟩))
      rintro b ⟨h8 | ⟨h8, h9⟩, h10⟩ _
      · exact .inl h8
      · refine .inr ⟨h8, h9, fun e => ?_⟩
        rcases hl with hl | hl
        · rw [e] at h9; exact h9 hl
        · omega
    · rw [List.mem_singleton.1 hx2]
      have hxW : RuQ (fun b => b < B ∨ wr.heap.size ≤ b) W (L[k].turn, q) := hx.grown (row := none) (by rw [hW]; exact ⟨rfl, rfl, rfl, by simp, fun j hj _ => Below.heap_alloc _ _ _ hj⟩) (fun b hq _ => ⟨(fun e => by cases e), hq⟩)
      refine key _ (fun b hbb hbl => ?_) hxW
      rcases hbb with h8 | h8
      · exact .inl h8
      · refine .inr ⟨by omega, fun e => by have := (hown b e).2; omega, fun e => ?_⟩
        rcases hl with hl | hl
        · have := (hown g hl).2; omega
        · omega
theorem TrAt.row {B A : Nat} {L : List Rl} {v : Value} {w : World} (h : TrAt B A L L.length v w) : ∃ a c, v = .slice a L.length c ∧ RowR w 12 a L.length (L.map Rl.turn) := by
  obtain ⟨qs, e1, e2, e3, e4, e5⟩ := h
  rw [List.take_length] at e1
  have hou : OwnU w A v 12 (L.map Rl.turn) := ⟨qs, e1, by rw [e2]; exact e3, fun x hx => (e5 x hx).at⟩
  obtain ⟨a, c, h1, h2⟩ := hou.row
  rw [List.length_map] at h1 h2
  exact ⟨a, c, h1, h2⟩
end Go.Proofs.Ytjbhfonokgkalaa
