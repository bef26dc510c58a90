/- What markedNode's loop, and its end, leave in memory. -/
import Derived.Test.YtjbhfonokgkalaaReaF
namespace Go.Proofs.Ytjbhfonokgkalaa
open Go.RowKit
set_option linter.unusedVariables false
set_option linter.unusedSimpArgs false

theorem info_K : (Try.prog.info? 82).map (fun i => (i.zero, i.size, i.bytes)) = some (some (.agg #[.int .i64 0, .slice none 0 0, .slice none 0 0, .bool false, .bool false]), 5, 64) := by kernel_rfl
/-- A marked expression as one value. -/
abbrev Mk.agg (x : Mk) : Value := .agg #[.int .i64 x.op, .slice x.ca x.cn x.cc, .slice x.pa x.pn x.pc, .bool x.em, .bool x.en]
/-- What markedNode leaves. -/
def MnPost (B d : Nat) (t : Bool) (n : Nd) (w : World) (e : Ending) (w' : World) : Prop :=
  Below w.heap.size w w' ∧ ∃ (x : Mk) (fp : Nat → Prop), e = .returned (.tuple #[x.agg, .bool true]) ∧ (∀ y, fp y → w.heap.size ≤ y ∧ y < w'.heap.size) ∧ NdV B w' d (n.nrm t) [] x.vals fp
/-- What markedNode does to a node no deeper than that. -/
def MnC (B d : Nat) (t : Bool) : Prop := ∀ (n : Nd) (ca pa : Option Addr) (cc pc : Nat) (w : World) (nest : Int), InV B w d n [.int .i64 n.op, .slice ca n.cl.length cc, .slice pa (toL n.kids).length pc] → B ≤ w.heap.size → (d : Int) ≤ nest + 1 → nest ≤ 131072 →
  Calls Try.prog 79 #[.agg #[.int .i64 n.op, .slice ca n.cl.length cc, .slice pa (toL n.kids).length pc], .bool t, .int .i64 nest] w (MnPost B d t n w)
/-- Where markedNode's loop stands: so many parts are marked. -/
def MnAt (B d : Nat) (t : Bool) (op : Int) (ca : Option Addr) (cn cc : Nat) (kl : List Nd) (H R M : Nat) (k : Nat) (w wr : World) : Prop :=
  ∃ (pv : Value) (xs : List Mk) (fps : Nat → Nat → Prop), wr.heap[M]? = some (.cells #[.int .i64 op, .slice ca cn cc, pv, .bool false, .bool false] 82) ∧ wr.heap[R]? = some (.cells #[.int .i64 0, .slice none 0 0, .slice none 0 0, .bool false, .bool false] 82) ∧
    wr.ownsRow (H + 3) 82 5 pv k (flatK xs) ∧ xs.length = k ∧ Below H w wr ∧ H + 3 ≤ wr.heap.size ∧
    (∀ i (hi : i < xs.length) (hl : i < kl.length), (∀ y, fps i y → H + 3 ≤ y ∧ y < wr.heap.size ∧ pv.ownBlock ≠ some y) ∧ (∀ j, j < i → ∀ y, fps i y → ¬ fps j y) ∧ NdV B wr d (kl[i].nrm t) [] xs[i].vals (fps i))
theorem box5 {w : World} {B : Nat} {a b c d e : Value} {t : TypeId} (h : w.heap[B]? = some (.cells #[a, b, c, d, e] t)) :
    (w.cell? ⟨B, 0, none⟩ = some a ∧ w.cell? ⟨B, 1, none⟩ = some b ∧ w.cell? ⟨B, 2, none⟩ = some c ∧ w.cell? ⟨B, 3, none⟩ = some d ∧ w.cell? ⟨B, 4, none⟩ = some e) ∧ ∀ q, w.frozen? ⟨B, q, none⟩ = false :=
  ⟨⟨cell_of_row w B 0 _ _ _ h, cell_of_row w B 1 _ _ _ h, cell_of_row w B 2 _ _ _ h, cell_of_row w B 3 _ _ _ h, cell_of_row w B 4 _ _ _ h⟩, fun q => Lib.frozen_of_heap h q⟩
theorem InV.three {B : Nat} {w : World} : {d : Nat} → {n : Nd} → {us : List Value} → InV B w d n us → ∃ ca cc pa pc, us = [.int .i64 n.op, .slice ca n.cl.length cc, .slice pa (toL n.kids).length pc]
  | 0, _, _, h => h.elim
  | d + 1, n, us, h => by
    obtain ⟨ca, cc, pa, pc, h1, _⟩ := h
    exact ⟨ca, cc, pa, pc, h1⟩
theorem setCell_comm (w : World) (a b : Addr) (u v : Value) (h : a.block ≠ b.block) : (w.setCell a u).setCell b v = (w.setCell b v).setCell a u := by
  simp only [World.setCell]
  congr 1
  apply Array.ext_getElem?
  intro i
  simp only [Array.getElem?_modify]
  by_cases h1 : b.block = i
  · by_cases h2 : a.block = i
    · exact absurd (h2.trans h1.symm) h
    · simp [h1, h2]
  · simp [h1]
theorem f5_comm (w : World) (g o M i : Nat) (x : Mk) (v : Value) (h : g ≠ M) : (F5 w g o x).setCell ⟨M, i, none⟩ v = F5 (w.setCell ⟨M, i, none⟩ v) g o x := by
  unfold F5
  rw [setCell_comm _ ⟨g, o + 4, none⟩ ⟨M, i, none⟩ _ _ h, setCell_comm _ ⟨g, o + 3, none⟩ ⟨M, i, none⟩ _ _ h, setCell_comm _ ⟨g, o + 2, none⟩ ⟨M, i, none⟩ _ _ h, setCell_comm _ ⟨g, o + 1, none⟩ ⟨M, i, none⟩ _ _ h, setCell_comm _ ⟨g, o, none⟩ ⟨M, i, none⟩ _ _ h]
theorem flatK_snoc (xs : List Mk) (x : Mk) : flatK (xs ++ [x]) = flatK xs ++ x.vals := by simp [flatK]

theorem f5_size (w : World) (g o : Nat) (x : Mk) : (F5 w g o x).heap.size = w.heap.size := by simp [F5, World.setCell]
/-- One part more. -/
theorem mn_step {B d : Nat} {t : Bool} {op : Int} {ca : Option Addr} {cn cc : Nat} {kl : List Nd} {H R M k Z : Nat} {w wr P3 : World} {av : Option Addr} {cv : Nat} {xs : List Mk} {fps : Nat → Nat → Prop} {xx : Mk} {n1 : Nd} {fp : Nat → Prop} (hR : R = H + 1) (hM : M = H + 2) (hBH : B ≤ H) (hs0 : H + 3 ≤ wr.heap.size)
    (m1 : wr.heap[M]? = some (.cells #[.int .i64 op, .slice ca cn cc, .slice av k cv, .bool false, .bool false] 82)) (m2 : wr.heap[R]? = some (.cells #[.int .i64 0, .slice none 0 0, .slice none 0 0, .bool false, .bool false] 82)) (m3 : wr.ownsRow (H + 3) 82 5 (.slice av k cv) k (flatK xs)) (m4 : xs.length = k) (m5 : Below H w wr)
    (m7 : ∀ i (hi : i < xs.length) (hl : i < kl.length), (∀ y, fps i y → H + 3 ≤ y ∧ y < wr.heap.size ∧ (Value.slice av k cv).ownBlock ≠ some y) ∧ (∀ j, j < i → ∀ y, fps i y → ¬ fps j y) ∧ NdV B wr d (kl[i].nrm t) [] xs[i].vals (fps i))
    (hb3 : Below wr.heap.size wr P3) (hz3 : P3.heap[Z]? = some (.cells #[.int .i64 xx.op, .slice xx.ca xx.cn xx.cc, .slice xx.pa xx.pn xx.pc, .bool xx.em, .bool xx.en] 82)) (hzs : P3.heap.size = Z + 1) (hz2 : wr.heap.size + 1 ≤ Z) (hfp : ∀ y, fp y → wr.heap.size + 1 ≤ y ∧ y < Z) (hn3 : NdV B P3 d (n1.nrm t) [] xx.vals fp) (hkk : k < kl.length) (hkx : kl[k] = n1)
    (W w1 : World) (g cap : Nat) (hW : W = (P3.alloc (.cells #[.int .i64 0, .slice none 0 0, .slice none 0 0, .bool false, .bool false] 82)).drew) (hown1 : w1.ownsRow (H + 3) 82 5 (.slice (some ⟨g, 0, none⟩) (k + 1) cap) (k + 1) (flatK xs ++ [.int .i64 0, .slice none 0 0, .slice none 0 0, .bool false, .bool false])) (hgrow : W.grownBy w1 (Value.slice av k cv).ownBlock) (hat : (Value.slice av k cv).ownBlock = some g ∨ g = W.heap.size) (hlt1 : g < w1.heap.size) :
    (w1.cell? ⟨g, k * 5, none⟩ = some (.int .i64 0) ∧ w1.cell? ⟨g, k * 5 + 1, none⟩ = some (.slice none 0 0) ∧ w1.cell? ⟨g, k * 5 + 2, none⟩ = some (.slice none 0 0) ∧ w1.cell? ⟨g, k * 5 + 3, none⟩ = some (.bool false) ∧ w1.cell? ⟨g, k * 5 + 4, none⟩ = some (.bool false)) ∧ (∀ q, w1.frozen? ⟨g, q, none⟩ = false) ∧ g ≠ M ∧ g ≠ Z ∧
      w1.heap[M]? = some (.cells #[.int .i64 op, .slice ca cn cc, .slice av k cv, .bool false, .bool false] 82) ∧ w1.heap[Z]? = some (.cells #[.int .i64 xx.op, .slice xx.ca xx.cn xx.cc, .slice xx.pa xx.pn xx.pc, .bool xx.em, .bool xx.en] 82) ∧
      MnAt B d t op ca cn cc kl H R M (k + 1) w ((F5 w1 g (k * 5) xx).setCell ⟨M, 2, none⟩ (.slice (some ⟨g, 0, none⟩) (k + 1) cap)) := by
  have hWs : W.heap.size = Z + 2 := by rw [hW]; show (P3.alloc _).heap.size = _; simp; omega
  have hWb : ∀ y, y < P3.heap.size → W.heap[y]? = P3.heap[y]? := fun y hy => by rw [hW]; exact Below.heap_alloc _ _ _ hy
  have e6 := hb3.size
  have hgb : H + 3 ≤ g := (hown1.lt g rfl).1
  have hold : ∀ y, (Value.slice av k cv).ownBlock = some y → H + 3 ≤ y ∧ y < wr.heap.size := m3.lt
  have hnold : ∀ y, (y < H + 3 ∨ wr.heap.size ≤ y) → (Value.slice av k cv).ownBlock ≠ some y := fun y hy e => by have := hold y e; omega
  have hgM : g ≠ M := by omega
  have hgr : g < wr.heap.size ∨ g = Z + 2 := by
    rcases hat with h | h
    · exact .inl (hold g h).2
    · exact .inr (h.trans hWs)
  have hgZ : g ≠ Z := by omega
  have hw1b : ∀ y, y < P3.heap.size → (Value.slice av k cv).ownBlock ≠ some y → w1.heap[y]? = P3.heap[y]? := fun y hy hne => (hgrow.block y (by omega) (Ne.symm hne)).trans (hWb y hy)
  have hM1 : w1.heap[M]? = some (.cells #[.int .i64 op, .slice ca cn cc, .slice av k cv, .bool false, .bool false] 82) := (hw1b M (by omega) (hnold M (by omega))).trans ((hb3.block M (by omega)).trans m1)
  have hZ1 := (hw1b Z (by omega) (hnold Z (by omega))).trans hz3
  have hfl : flatK xs ++ [.int .i64 0, .slice none 0 0, .slice none 0 0, .bool false, .bool false] = flatK (xs ++ [Mk.zero]) := (flatK_snoc xs Mk.zero).symm
  rw [hfl] at hown1
  obtain ⟨g', hg', _, cur, hgc, _, _, hcel⟩ := own_cells5 hown1 (by omega)
  cases hg'
  have hxl : (xs ++ [Mk.zero]).length = k + 1 := by rw [List.length_append, m4]; rfl
  have hck := hcel k (by omega)
  have hzk : (xs ++ [Mk.zero])[k]'(by omega) = Mk.zero := by rw [List.getElem_append_right (by omega)]; simp
  rw [hzk] at hck
  refine ⟨hck, fun q => Lib.frozen_of_heap hgc q, hgM, hgZ, hM1, hZ1, ?_⟩
  have hg5 := f5_grown w1 g (k * 5) xx
  have hs5 := f5_size w1 g (k * 5) xx
  have hown5 := own_set5 hown1 k (by omega) xx
  rw [show (xs ++ [Mk.zero]).set k xx = xs ++ [xx] by rw [List.set_append_right _ _ (by omega), m4, Nat.sub_self]; rfl] at hown5
  generalize F5 w1 g (k * 5) xx = F at hg5 hs5 hown5 ⊢
  have hFM : F.heap[M]? = some (.cells #[.int .i64 op, .slice ca cn cc, .slice av k cv, .bool false, .bool false] 82) := (hg5.block M (by have := hgrow.size; omega) (fun e => hgM (by injection e with e; exact e.symm))).trans hM1
  have hw1s : Z + 2 ≤ w1.heap.size := by have := hgrow.size; omega
  have hsame : ∀ y, y < P3.heap.size → y ≠ g → y ≠ M → (Value.slice av k cv).ownBlock ≠ some y → (F.setCell ⟨M, 2, none⟩ (.slice (some ⟨g, 0, none⟩) (k + 1) cap)).heap[y]? = P3.heap[y]? := fun y h0 h1 h2 h3 =>
    (Below.heap_setCell _ _ _ _ h2).trans ((hg5.block y (by omega) (fun e => h1 (by injection e))).trans (hw1b y h0 h3))
  have hVs : (F.setCell ⟨M, 2, none⟩ (.slice (some ⟨g, 0, none⟩) (k + 1) cap)).heap.size = w1.heap.size := by simp [World.setCell, hs5]
  have hos : Below H w P3 := m5.trans (hb3.mono (by omega))
  have hWo : W.os = P3.os ∧ W.tape = P3.tape ∧ W.output = P3.output := by rw [hW]; exact ⟨rfl, rfl, rfl⟩
  have hBel : Below H w (F.setCell ⟨M, 2, none⟩ (.slice (some ⟨g, 0, none⟩) (k + 1) cap)) := by
    have h1 := hos.size
    refine ⟨?_, ?_, ?_, by omega, fun y hy => ?_⟩
    · exact hg5.os.trans (hgrow.os.trans (hWo.1.trans hos.os))
    · exact hg5.tape.trans (hgrow.tape.trans (hWo.2.1.trans hos.tape))
    · exact hg5.output.trans (hgrow.output.trans (hWo.2.2.trans hos.output))
    · exact (hsame y (by omega) (by omega) (by omega) (hnold y (by omega))).trans (hos.block y hy)
  refine ⟨.slice (some ⟨g, 0, none⟩) (k + 1) cap, xs ++ [xx], fun i => if i < k then fps i else fp, ?_, ?_, ?_, by rw [List.length_append, m4]; rfl, hBel, by omega, ?_⟩
  · exact (heap_setCell_same _ M 2 _ _ _ hFM).trans (by simp)
  · rw [hsame R (by omega) (by omega) (by omega) (hnold R (by omega)), hb3.block R (by omega)]
    exact m2
  · exact hown5.kept (grown_cell _ M 2 _) (Or.inr (fun e => hgM (by injection e)))
  · intro i hi hl
    generalize F.setCell ⟨M, 2, none⟩ (.slice (some ⟨g, 0, none⟩) (k + 1) cap) = V at hsame hVs hBel ⊢
    by_cases hik : i < k
    · obtain ⟨r1, r2, r3⟩ := m7 i (by omega) hl
      simp only [if_pos hik]
      refine ⟨fun y hy => ?_, fun j hj y hy => ?_, ?_⟩
      · have h1 := r1 y hy
        refine ⟨h1.1, by omega, fun e => ?_⟩
        have hyg : g = y := by injection e
        rcases hat with h | h
        · exact h1.2.2 (by rw [← hyg]; exact h)
        · omega
      · rw [if_pos (by omega)]; exact r2 j hj y hy
      · rw [show (xs ++ [xx])[i]'hi = xs[i]'(by omega) from List.getElem_append_left (by omega)]
        refine r3.frame d (fun y hy hf => ?_)
        have hyg : y ≠ g ∧ y ≠ M ∧ (Value.slice av k cv).ownBlock ≠ some y := by
          rcases hf with hf | hf
          · have h1 := r1 y hf
            refine ⟨fun e => ?_, by omega, h1.2.2⟩
            rcases hat with h | h
            · exact h1.2.2 (by rw [e]; exact h)
            · omega
          · exact ⟨by omega, by omega, hnold y (by omega)⟩
        rw [hsame y (by omega) hyg.1 hyg.2.1 hyg.2.2]
        exact hb3.block y hy
    · have hie : i = k := by rw [List.length_append, m4] at hi; simp at hi; omega
      subst hie
      simp only [if_neg hik]
      refine ⟨fun y hy => ?_, fun j hj y hy => ?_, ?_⟩
      · have h1 := hfp y hy
        refine ⟨by omega, by omega, fun e => ?_⟩
        have hyg : g = y := by injection e
        omega
      · rw [if_pos hj]
        intro hy2
        have h1 := hfp y hy
        have h2 := (m7 j (by omega) (by omega)).1 y hy2
        omega
      · rw [show (xs ++ [xx])[i]'hi = xx by rw [List.getElem_append_right (by omega)]; simp, hkx]
        refine hn3.frame d (fun y hy hf => ?_)
        have hyg : y ≠ g ∧ y ≠ M ∧ (Value.slice av i cv).ownBlock ≠ some y := by
          rcases hf with hf | hf
          · have h1 := hfp y hf
            exact ⟨by omega, by omega, hnold y (by omega)⟩
          · exact ⟨by omega, by omega, hnold y (by omega)⟩
        exact hsame y hy hyg.1 hyg.2.1 hyg.2.2
end Go.Proofs.Ytjbhfonokgkalaa
