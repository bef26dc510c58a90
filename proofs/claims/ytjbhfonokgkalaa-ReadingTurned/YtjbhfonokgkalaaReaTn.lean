/- Nodes in memory that lie in blocks of some kind; rows of nodes as values: what turn leaves. -/
import Derived.Test.YtjbhfonokgkalaaReaEn
import Derived.Test.YtjbhfonokgkalaaReaTm
import Derived.Test.YtjbhfonokgkalaaReaH
namespace Go.Proofs.Ytjbhfonokgkalaa
open Go.RowKit
set_option linter.unusedVariables false
set_option linter.unusedSimpArgs false

/-- A node in memory, all of whose rows lie in blocks of some kind. -/
def InQ (Q : Nat → Prop) (w : World) : Nat → Nd → List Value → Prop
  | 0, _, _ => False
  | d + 1, n, vs => ∃ ca cc pa pc, vs = [.int .i64 n.op, .slice ca n.cl.length cc, .slice pa (toL n.kids).length pc] ∧ Rd .i64 w ca n.cl.length n.cl ∧ (0 < n.cl.length → ∀ x, ca = some x → Q x.block) ∧ n.cl.length ≤ 140737488355328 ∧ (toL n.kids).length ≤ 2600000000000 ∧
      (0 < (toL n.kids).length → ∃ b off, pa = some ⟨b, off, none⟩ ∧ Q b ∧ ∀ i (hi : i < (toL n.kids).length), ∃ us, InQ Q w d (toL n.kids)[i] us ∧ ∀ j v, us[j]? = some v → w.cell? ⟨b, off + i * 3 + j, none⟩ = some v)
theorem InV.inQ {B : Nat} {w : World} : (d : Nat) → {n : Nd} → {vs : List Value} → InV B w d n vs → InQ (fun b => b < w.heap.size) w d n vs
  | 0, _, _, h => h.elim
  | d + 1, n, vs, h => by
    obtain ⟨ca, cc, pa, pc, h1, h2, h3, h4, h5, h6⟩ := h
    refine ⟨ca, cc, pa, pc, h1, h2, fun hp => h2.lt hp, h4, h5, fun hp => ?_⟩
    obtain ⟨b, off, e, hk⟩ := h6 hp
    refine ⟨b, off, e, ?_, fun i hi => ?_⟩
    · obtain ⟨us, k1, k2⟩ := hk 0 hp
      obtain ⟨x, c, y, f, rfl⟩ := k1.three
      exact World.block_lt_of_cell? w _ (k2 0 _ rfl)
    · obtain ⟨us, k1, k2⟩ := hk i hi
      exact ⟨us, k1.inQ d, k2⟩
theorem InQ.inV {Q : Nat → Prop} {w : World} : (d : Nat) → {n : Nd} → {vs : List Value} → InQ Q w d n vs → InV w.heap.size w d n vs
  | 0, _, _, h => h.elim
  | d + 1, n, vs, h => by
    obtain ⟨ca, cc, pa, pc, h1, h2, h3, h4, h5, h6⟩ := h
    refine ⟨ca, cc, pa, pc, h1, h2, h2.lt, h4, h5, fun hp => ?_⟩
    obtain ⟨b, off, e, _, hk⟩ := h6 hp
    refine ⟨b, off, e, fun i hi => ?_⟩
    obtain ⟨us, k1, k2⟩ := hk i hi
    exact ⟨us, k1.inV d, k2⟩
theorem cell_grownQ {w w' : World} {row : Option Nat} (hg : w.grownBy w' row) {a : Addr} {v : Value} (h : w.cell? a = some v) (hne : some a.block ≠ row) : w'.cell? a = some v :=
  (hg.cell_far a (World.block_lt_of_cell? w _ h) hne).trans h
theorem InQ.grown {Q Q' : Nat → Prop} {w w' : World} {row : Option Nat} (hg : w.grownBy w' row) (hr : ∀ b, Q b → b < w.heap.size → some b ≠ row ∧ Q' b) : (d : Nat) → {n : Nd} → {vs : List Value} → InQ Q w d n vs → InQ Q' w' d n vs
  | 0, _, _, h => h.elim
  | d + 1, n, vs, h => by
    obtain ⟨ca, cc, pa, pc, h1, h2, h3, h4, h5, h6⟩ := h
    refine ⟨ca, cc, pa, pc, h1, ⟨h2.1, fun hp => ?_⟩, fun hp x hx => ?_, h4, h5, fun hp => ?_⟩
    · obtain ⟨b, off, e, hc⟩ := h2.2 hp
      refine ⟨b, off, e, fun t ht => cell_grownQ hg (hc t ht) ?_⟩
      exact (hr b (h3 hp _ e) (h2.lt hp _ e)).1
    · exact (hr _ (h3 hp x hx) (h2.lt hp x hx)).2
    · obtain ⟨b, off, e, hb, hk⟩ := h6 hp
      have hbl : b < w.heap.size := by
        obtain ⟨us, k1, k2⟩ := hk 0 hp
        obtain ⟨x, c, y, f, rfl⟩ := (k1.inV d).three
        exact World.block_lt_of_cell? w _ (k2 0 _ rfl)
      refine ⟨b, off, e, (hr b hb hbl).2, fun i hi => ?_⟩
      obtain ⟨us, k1, k2⟩ := hk i hi
      exact ⟨us, k1.grown hg hr d, fun j v hv => cell_grownQ hg (k2 j v hv) (hr b hb hbl).1⟩
theorem grown_belowQ {w w' : World} (hb : Below w.heap.size w w') (row : Option Nat) : w.grownBy w' row := ⟨hb.os, hb.tape, hb.output, hb.size, fun k hk _ => hb.block k hk⟩
theorem InQ.later {Q : Nat → Prop} {w w' : World} (hb : Below w.heap.size w w') (d : Nat) {n : Nd} {vs : List Value} (h : InQ Q w d n vs) : InQ Q w' d n vs :=
  h.grown (row := none) (grown_belowQ hb none) (fun b hq _ => ⟨(fun e => by cases e), hq⟩) d
theorem InQ.mono {Q Q' : Nat → Prop} {w : World} (hq : ∀ b, Q b → Q' b) (d : Nat) {n : Nd} {vs : List Value} (h : InQ Q w d n vs) : InQ Q' w d n vs :=
  h.grown (row := none) (w' := w) ⟨rfl, rfl, rfl, Nat.le_refl _, fun _ _ _ => rfl⟩ (fun b h1 _ => ⟨(fun e => by cases e), hq b h1⟩) d
theorem InQ.deep {Q : Nat → Prop} {w : World} : (d : Nat) → {n : Nd} → {vs : List Value} → InQ Q w d n vs → InQ Q w (d + 1) n vs
  | 0, _, _, h => h.elim
  | d + 1, n, vs, h => by
    obtain ⟨ca, cc, pa, pc, h1, h2, h3, h4, h5, h6⟩ := h
    refine ⟨ca, cc, pa, pc, h1, h2, h3, h4, h5, fun hp => ?_⟩
    obtain ⟨b, off, e, hb, hk⟩ := h6 hp
    refine ⟨b, off, e, hb, fun i hi => ?_⟩
    obtain ⟨us, k1, k2⟩ := hk i hi
    exact ⟨us, k1.deep d, k2⟩
/-- A node's part, with the kind of blocks. -/
theorem InQ.kid {Q : Nat → Prop} {w : World} {d : Nat} {n : Nd} {ca pa : Option Addr} {cn cc kn pc : Nat} {op : Int} (h : InQ Q w d n [.int .i64 op, .slice ca cn cc, .slice pa kn pc]) (i : Nat) (hi : i < (toL n.kids).length) : ∃ b off x c y e d', pa = some ⟨b, off, none⟩ ∧ InQ Q w d' (toL n.kids)[i] [.int .i64 (toL n.kids)[i].op, .slice x (toL n.kids)[i].cl.length c, .slice y (toL (toL n.kids)[i].kids).length e] ∧ d' + 1 = d ∧
    w.cell? ⟨b, off + i * 3, none⟩ = some (.int .i64 (toL n.kids)[i].op) ∧ w.cell? ⟨b, off + i * 3 + 1, none⟩ = some (.slice x (toL n.kids)[i].cl.length c) ∧ w.cell? ⟨b, off + i * 3 + 2, none⟩ = some (.slice y (toL (toL n.kids)[i].kids).length e) := by
  cases d with
  | zero => exact h.elim
  | succ d =>
    obtain ⟨ca', cc', pa', pc', hv, _, _, _, _, h6⟩ := h
    simp only [List.cons.injEq, Value.slice.injEq] at hv
    obtain ⟨b, off, e, _, hk⟩ := h6 (by omega)
    obtain ⟨us, k1, k2⟩ := hk i hi
    obtain ⟨x, c, y, f, rfl⟩ := (k1.inV d).three
    exact ⟨b, off, x, c, y, f, d, by rw [hv.2.2.1.1]; exact e, k1, rfl, k2 0 _ rfl, k2 1 _ rfl, k2 2 _ rfl⟩
/-- The values of a node. -/
structure Nk where
  op : Int
  ca : Option Addr
  cn : Nat
  cc : Nat
  pa : Option Addr
  pn : Nat
  pc : Nat
def Nk.vals (x : Nk) : List Value := [.int .i64 x.op, .slice x.ca x.cn x.cc, .slice x.pa x.pn x.pc]
def flatN (xs : List Nk) : List Value := xs.flatMap Nk.vals
theorem flatN_len : (xs : List Nk) → (flatN xs).length = xs.length * 3
  | [] => rfl
  | x :: r => by
    show (x.vals ++ flatN r).length = _
    rw [List.length_append, flatN_len r]
    simp [Nk.vals]
    omega
theorem flatN_get : (xs : List Nk) → (i j : Nat) → j < 3 → (flatN xs)[i * 3 + j]? = (xs[i]?).bind fun x => x.vals[j]?
  | [], i, j, _ => by simp [flatN]
  | x :: r, 0, j, hj => by
    show (x.vals ++ flatN r)[0 * 3 + j]? = _
    rw [List.getElem?_append_left (by simp [Nk.vals]; omega)]
    simp
  | x :: r, i + 1, j, hj => by
    show (x.vals ++ flatN r)[(i + 1) * 3 + j]? = _
    rw [List.getElem?_append_right (by simp [Nk.vals]; omega), show (i + 1) * 3 + j - x.vals.length = i * 3 + j by simp [Nk.vals]; omega, flatN_get r i j hj]
    simp
/-- How far turn has come: k parts, from the last one on; its row, its own box, all the parts' memory elsewhere. -/
def TnAt (B A T d : Nat) (n : Nd) (ca : Option Addr) (cc : Nat) (k : Nat) (v : Value) (ys : List Nk) (w : World) : Prop :=
  ys.length = k ∧ k ≤ (toL n.kids).length ∧ w.ownsRow A 33 3 v k (flatN ys) ∧ w.heap[T]? = some (.cells #[.int .i64 n.op, .slice ca n.cl.length cc, v] 33) ∧ T < A ∧ A ≤ w.heap.size ∧
    ∀ i (hi : i < ys.length) (hj : (toL n.kids).length - 1 - i < (toL n.kids).length), InQ (fun b => b < B ∨ (A ≤ b ∧ v.ownBlock ≠ some b)) w d ((toL n.kids)[(toL n.kids).length - 1 - i]).turn ys[i].vals
theorem TnAt.form {B A T d : Nat} {n : Nd} {ca : Option Addr} {cc k : Nat} {v : Value} {ys : List Nk} {w : World} (h : TnAt B A T d n ca cc k v ys w) : ∃ av cv, v = .slice av k cv := own_sl1 h.2.2.1
theorem own3_cells {w : World} {B : Nat} {e : TypeId} {n : Nat} {v : Value} {xs : List Nk} (h : w.ownsRow B e 3 v n (flatN xs)) (hn : 0 < n) : ∃ g cap, v = .slice (some ⟨g, 0, none⟩) n cap ∧ B ≤ g ∧ ∀ i (hi : i < xs.length) j u, xs[i].vals[j]? = some u → w.cell? ⟨g, 0 + i * 3 + j, none⟩ = some u := by
  rcases h.2 with ⟨hv, h0⟩ | ⟨g, cap, cur, hv, hb, hg, hnc, hm, hs, ht⟩
  · omega
  · refine ⟨g, cap, hv, hb, fun i hi j u hu => ?_⟩
    have hxl : xs.length * 3 = n * 3 := by rw [← flatN_len]; exact h.1
    have hj : j < 3 := by
      have := (List.getElem?_eq_some_iff.1 hu).1
      simpa [Nk.vals] using this
    have h2 := flatN_get xs i j hj
    rw [← ht, List.getElem?_take, if_pos (by omega), List.getElem?_eq_getElem hi] at h2
    rw [cell_of_row w g _ _ _ _ hg, Nat.zero_add]
    rw [Array.getElem?_toList] at h2
    rw [h2]
    exact hu
/-- What is turned, when all its parts are. -/
theorem TnAt.fin {B A T d : Nat} {n : Nd} {ca : Option Addr} {cc : Nat} {v : Value} {ys : List Nk} {w : World} {W : Nat} (h : TnAt B A T d n ca cc (toL n.kids).length v ys w) (hrd : Rd .i64 w ca n.cl.length n.cl) (hq : 0 < n.cl.length → ∀ x, ca = some x → x.block < B) (hc : n.cl.length ≤ 140737488355328) (hb : (toL n.kids).length ≤ 2600000000000) (hA : W ≤ A) :
    ∃ av cv, v = .slice av (toL n.kids).length cv ∧ InQ (fun b => b < B ∨ W ≤ b) w (d + 1) n.turn [.int .i64 n.op, .slice ca n.cl.length cc, .slice av (toL n.kids).length cv] := by
  obtain ⟨h1, h2, h3, h4, h5, h6, h7⟩ := h
  obtain ⟨av, cv, hv⟩ := own_sl1 h3
  refine ⟨av, cv, hv, ca, cc, av, cv, ?_, hrd, fun hp x hx => .inl (hq hp x hx), hc, by rw [turn_len]; exact hb, fun hp => ?_⟩
  · rw [turn_len]; rfl
  · rw [turn_len] at hp
    obtain ⟨g, cap, hv2, hbg, hcs⟩ := own3_cells h3 hp
    rw [hv] at hv2
    cases hv2
    refine ⟨g, 0, rfl, .inr (Nat.le_trans hA hbg), fun i hi => ?_⟩
    have hi' : i < (toL n.kids).length := by rw [turn_len] at hi; exact hi
    refine ⟨(ys[i]'(by omega)).vals, ?_, fun j u hu => hcs i (by omega) j u hu⟩
    have h8 := h7 i (by omega) (by omega)
    have e : (toL n.turn.kids)[i]'hi = ((toL n.kids)[(toL n.kids).length - 1 - i]'(by omega)).turn := by
      simp only [turn_kids, List.getElem_reverse, List.getElem_map, List.length_map]
    rw [e]
    exact h8.mono (fun b hb => hb.imp (fun h => h) (fun h => Nat.le_trans hA h.1)) d
/-- One part more. -/
theorem TnAt.step {B A T d : Nat} {n : Nd} {ca : Option Addr} {cc k : Nat} {v : Value} {ys : List Nk} {wr w2 w3 : World} {x : Nk} {g cap : Nat} (h : TnAt B A T d n ca cc k v ys wr) (hB : B ≤ T) (hk : k < (toL n.kids).length) (hj : (toL n.kids).length - 1 - k < (toL n.kids).length) (hb : Below wr.heap.size wr w2) (hx : InQ (fun b => b < B ∨ wr.heap.size ≤ b) w2 d ((toL n.kids)[(toL n.kids).length - 1 - k]).turn x.vals)
    (ho : w3.ownsRow A 33 3 (.slice (some ⟨g, 0, none⟩) (k + 1) cap) (k + 1) (flatN ys ++ x.vals)) (hg : (w2.alloc (.cells x.vals.toArray 33)).grownBy w3 v.ownBlock) (hl : v.ownBlock = some g ∨ g = (w2.alloc (.cells x.vals.toArray 33)).heap.size) :
    TnAt B A T d n ca cc (k + 1) (.slice (some ⟨g, 0, none⟩) (k + 1) cap) (ys ++ [x]) (w3.setCell ⟨T, 2, none⟩ (.slice (some ⟨g, 0, none⟩) (k + 1) cap)) := by
  obtain ⟨h1, h2, h3, h4, h5, h6, h7⟩ := h
  obtain ⟨W, hW⟩ : ∃ W, W = w2.alloc (.cells x.vals.toArray 33) := ⟨_, rfl⟩
  rw [← hW] at hg hl
  have hbW : Below wr.heap.size wr W := by rw [hW]; exact hb.alloc hb.size _
  have hsW : W.heap.size = w2.heap.size + 1 := by rw [hW]; simp
  have hs2 := hb.size
  have hown : ∀ q, v.ownBlock = some q → A ≤ q ∧ q < wr.heap.size := fun q hq => h3.lt q hq
  have hgA : A ≤ g := by
    rcases hl with hl | hl
    · exact (hown g hl).1
    · omega
  have hTl : T < wr.heap.size := (Array.getElem?_eq_some_iff.1 h4).1
  have hT3 : w3.heap[T]? = some (.cells #[.int .i64 n.op, .slice ca n.cl.length cc, v] 33) := by
    rw [hg.block T (by omega) (fun e => by have := (hown T e.symm).1; omega), hbW.block T hTl]
    exact h4
  have hgT : w3.grownBy (w3.setCell ⟨T, 2, none⟩ (.slice (some ⟨g, 0, none⟩) (k + 1) cap)) (some T) := ⟨rfl, rfl, rfl, by simp [World.setCell], fun j _ hj => Below.heap_setCell _ _ _ j (fun e => hj (by rw [e]))⟩
  refine ⟨by simp [h1], by omega, ?_, ?_, h5, ?_, fun i hi hji => ?_⟩
  · rw [show flatN (ys ++ [x]) = flatN ys ++ x.vals by simp [flatN]]
    refine own_same ho (fun q hq => ?_)
    have hq' : q = g := by injection hq with hq; exact hq.symm
    exact Below.heap_setCell _ _ _ q (fun e => by have : q = T := e; omega)
  · have := heap_setCell_same w3 T 2 _ _ (.slice (some ⟨g, 0, none⟩) (k + 1) cap) hT3
    exact this
  · have := hg.size
    have := hgT.size
    omega
  · have key : ∀ {m : Nd} {vs : List Value} (Q : Nat → Prop), (∀ b, Q b → b < W.heap.size → (b < B ∨ (A ≤ b ∧ v.ownBlock ≠ some b ∧ b ≠ g))) → InQ Q W d m vs → InQ (fun b => b < B ∨ (A ≤ b ∧ (Value.slice (some ⟨g, 0, none⟩) (k + 1) cap).ownBlock ≠ some b)) (w3.setCell ⟨T, 2, none⟩ (.slice (some ⟨g, 0, none⟩) (k + 1) cap)) d m vs := by
      intro m vs Q hQ hin
      have s1 : InQ (fun b => b < B ∨ (A ≤ b ∧ b ≠ g)) w3 d m vs := hin.grown hg (fun b hb hbl => by
        rcases hQ b hb hbl with h8 | ⟨h8, h9, h10⟩
        · exact ⟨fun e => by have := (hown b e.symm).1; omega, .inl h8⟩
        · exact ⟨fun e => h9 e.symm, .inr ⟨h8, h10⟩⟩) d
      exact s1.grown hgT (fun b hb hbl => by
        rcases hb with h8 | ⟨h8, h10⟩
        · exact ⟨fun e => by injection e with e; omega, .inl h8⟩
        · exact ⟨fun e => by injection e with e; omega, .inr ⟨h8, fun e => h10 (by injection e with e; exact e.symm)⟩⟩) d
    rcases Nat.lt_or_ge i k with hik | hik
    · have hi' : i < ys.length := by omega
      rw [List.getElem_append_left hi']
      refine key _ (fun b hb _ => hb) (InQ.mono (Q' := fun b => b < B ∨ (A ≤ b ∧ v.ownBlock ≠ some b ∧ b ≠ g)) ?_ d (((h7 i hi' hji).grown (row := none) (grown_belowQ hbW none) (Q' := fun b => (b < B ∨ (A ≤ b ∧ v.ownBlock ≠ some b)) ∧ b < wr.heap.size) (fun b hq hbl => ⟨(fun e => by cases e), hq, hbl⟩) d)))
      rintro b ⟨h8 | ⟨h8, h9⟩, h10⟩
      · exact .inl h8
      · refine .inr ⟨h8, h9, fun e => ?_⟩
        rcases hl with hl | hl
        · rw [e] at h9; exact h9 hl
        · omega
    · obtain rfl : i = k := by simp [h1] at hi; omega
      have e1 : (ys ++ [x])[i]'hi = x := by
        rw [List.getElem_append_right (by omega)]
        simp [h1]
      rw [e1]
      have hxW : InQ (fun b => b < B ∨ wr.heap.size ≤ b) W d ((toL n.kids)[(toL n.kids).length - 1 - i]'hji).turn x.vals := by
        rw [hW]
        exact hx.later ((Below.refl _ w2).alloc (Nat.le_refl _) _) d
      refine key _ (fun b hb hbl => ?_) hxW
      rcases hb with h8 | h8
      · exact .inl h8
      · refine .inr ⟨by omega, fun e => by have := (hown b e).2; omega, fun e => ?_⟩
        rcases hl with hl | hl
        · have := (hown g hl).2; omega
        · omega
end Go.Proofs.Ytjbhfonokgkalaa
