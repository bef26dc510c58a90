/- The walk of remove; what note leaves in memory, step by step. -/
import Derived.Test.YtlelbepfkkaojaaDoorRgE
namespace Go.Proofs.YtlelbepfkkaojaaDoor
open Go.RowKit Go.Shelf Go.Maps Go.Sort
set_option linter.unusedVariables false
set_option linter.unusedSimpArgs false

set_option maxHeartbeats 2000000 in
theorem remove_rga {P B Q M : Nat} {ve vo vi : Value} {O : List Opn} (hv : Rv O) (x : Opn) (hi : x.ins = false) (hh : hasE O x.ref = true) (hl : O.length ≤ 99000) (W : World) (h : TxAt W P B ve vo vi Q M O) (hB : B ≤ W.heap.size) :
    Calls Tryd.prog 19 #[.pointer (some ⟨P, 0, none⟩), .int .i64 (fIx O x.ref)] W fun e w' => e = .returned (.tuple #[]) ∧ EndI W w' P B ve vo vi Q M O x := by
  have hN : (els O).length ≤ 99000 := by rw [els_len]; exact Nat.le_trans (seqE_len O) hl
  obtain ⟨n, h1, h2, h3⟩ := fIx_some O hv x.ref hh
  obtain ⟨e1, e2⟩ := els_rem hv hi h3
  have hn : n < (els O).length := by rw [els_len]; exact h2
  obtain ⟨g, cap, rfl, hbg, hcap, c0, c1, c2, c3, fz⟩ := own_el h.elm n hn
  have hset := own_el_set h.elm n hn false
  rw [← e1] at hset
  have hlen : (els (O ++ [x])).length = (els O).length := by rw [e1]; simp
  rw [h1]
  have p0 := h.cells.1
  have hST : InsMid W (W.setCell ⟨g, n * 4 + 3, none⟩ (.bool false)) P B (.slice (some ⟨g, 0, none⟩) (els O).length cap) vo vi Q M (.slice (some ⟨g, 0, none⟩) (els O).length cap) (els (O ++ [x])) (marks O) O (mD O) (topO O) := by
    obtain ⟨a1, a2, a3, a4, a5, a6, a7, a8, a9⟩ := h.apart
    have hc : Chg W (W.setCell ⟨g, n * 4 + 3, none⟩ (.bool false)) (fun k => k = g) := cg_set W g _ _
    have a6 := a6 g rfl
    refine ⟨⟨cg_heap hc h.blk (fun e => a1 (e ▸ rfl)), by rw [hlen]; exact hset, cg_own hc h.ops (fun k hk e => a6.1 (e ▸ hk)), h.idx.keep hc (fun k hk e => a6.2.1 (e ▸ hk)), cg_map hc h.map (fun e => a6.2.2 e.symm), h.hP, h.hM⟩, cg_trans (cg_refl W _) hc (fun k _ e => .inr (.inl (e ▸ rfl))), fun k hk => .inl hk⟩
  obtain ⟨EN, HEN, HSX⟩ : ∃ EN : World → Prop, Hid (∀ w', EN w' → EndI W w' P B (.slice (some ⟨g, 0, none⟩) (els O).length cap) vo vi Q M O x) ∧ (W.setCell ⟨g, n * 4 + 3, none⟩ (.bool false)).cell? ⟨P, 1, none⟩ = some (.pointer (some ⟨Q, 0, none⟩)) ∧ Hid (Calls Tryd.prog 39 #[.pointer (some ⟨Q, 0, none⟩), .int .i64 (n : Int), .bool false] (W.setCell ⟨g, n * 4 + 3, none⟩ (.bool false)) fun e w' => e = .returned (.bool true) ∧ EN w') := by
    refine ⟨fun w' => EndI W w' P B (.slice (some ⟨g, 0, none⟩) (els O).length cap) vo vi Q M O x, fun _ h => h, hST.1.cells.2.1, ?_⟩
    refine (setX_any Q B vi (marks O) n false _ hST.1.idx (by rw [marks_len, ← els_len]; omega) (by rw [marks_len]; exact h2)).mono fun e w' hq => ⟨hq.1, ?_⟩
    have q2 := hq.2
    rw [← e2] at q2
    obtain ⟨vi', z1, z2, z3⟩ := ins_end hST q2
    exact ⟨_, vi', z1, z2, z3⟩
  obtain ⟨p1, HSY⟩ := HSX
  have hn0 : (n : Int) < ((els O).length : Int) := by omega
  clear hST hset hv hi hh h h1 h2 h3 e1 e2 hbg hlen c0 c1 c2 hB hl
  generalize (els O).length = N at *
  go_enter Tryd.func19, Tryd.ntmps19
  go_wp2_with (first | (go_at_call 39; refine HSY.out.mono ?_; rintro e w4 ⟨rfl, z⟩; have HE : Hid (EN w4) := z; clear z))
  go_end0
  exact ⟨rfl, HEN.out _ HE.out⟩
/-- Behind the append of an operation. -/
theorem note_ops {W w1 w2 : World} {P B Q M : Nat} {ve vo vi vo' : Value} {rs : List El} {L : List Bool} {O O' : List Opn} {D : DataW Value} {top : Int} (h : TxM W P B ve vo vi Q M rs L O D top) (hb : Below W.heap.size W w1)
    (h1 : w2.ownsRow B 32 7 vo' O'.length (flatP O')) (h2 : w1.grownBy w2 vo.ownBlock) (h3 : AtX w1 vo.ownBlock vo') (hl : O.length ≤ O'.length) :
    w2.cell? ⟨P, 2, none⟩ = some vo ∧ w2.frozen? ⟨P, 2, none⟩ = false ∧ TxM (w2.setCell ⟨P, 2, none⟩ vo') P B ve vo' vi Q M rs L O' D top ∧ (w2.setCell ⟨P, 2, none⟩ vo').ownsMap Tryd.prog 3 RH M O.length D ∧ Chg W (w2.setCell ⟨P, 2, none⟩ vo') (OwnT P ve vo vi Q M) ∧ ∀ k, vo'.ownBlock = some k → vo.ownBlock = some k ∨ W.heap.size ≤ k := by
  obtain ⟨a1, a2, a3, a4, a5, a6, a7, a8, a9⟩ := h.apart
  have hc : Chg W w2 (fun k => vo.ownBlock = some k) := cg_trans (cg_below hb _) (cg_gb h2) (fun k _ r => r)
  have hP := cg_heap hc h.blk a2
  have hPW := (Array.getElem?_eq_some_iff.1 h.blk).1
  have hs := hb.size
  have hne : ∀ k, vo'.ownBlock = some k → k ≠ P := fun k hk e => by
    rcases h3 k hk with r | r
    · exact a2 (e ▸ r)
    · omega
  have hset := cg_set w2 P 2 vo'
  have hall : Chg W (w2.setCell ⟨P, 2, none⟩ vo') (fun k => vo.ownBlock = some k ∨ k = P) := cg_trans (Q := fun k => vo.ownBlock = some k ∨ k = P) (cg_trans (cg_refl W _) hc (fun k _ r => .inl r)) hset (fun k _ r => .inr r)
  have hmap : (w2.setCell ⟨P, 2, none⟩ vo').ownsMap Tryd.prog 3 RH M O.length D := by
    refine cg_map hall h.map (fun r => ?_)
    rcases r with r | r
    · exact (a7 M r).2 rfl
    · exact a5 r
  refine ⟨cell_of_row w2 P 2 _ _ _ hP, Lib.frozen_of_heap hP _, ⟨?_, cg_own hall h.elm (fun k hk r => ?_), cg_own hset h1 (fun k hk e => hne k hk e), h.idx.keep hall (fun k hk r => ?_), hmap.mono hl, h.hP, h.hM⟩, hmap, cg_trans (cg_refl W _) hall (fun k _ r => ?_), fun k hk => ?_⟩
  · rw [heap_setX w2 P 2 _ _ _ _ hP]; rfl
  · rcases r with r | r
    · exact (a6 k hk).1 r
    · exact a1 (r ▸ hk)
  · rcases r with r | r
    · exact (a7 k r).1 hk
    · exact a9 (r ▸ hk)
  · rcases r with r | r
    · exact .inr (.inr (.inl r))
    · exact .inl r
  · rcases h3 k hk with r | r
    · exact .inl r
    · exact .inr (by omega)
/-- Behind the map's store. -/
theorem note_map {W w2 : World} {P B Q M n : Nat} {ve vo vi : Value} {rs : List El} {L : List Bool} {O : List Opn} {D D' : DataW Value} {top : Int} (h : TxM W P B ve vo vi Q M rs L O D top)
    (h1 : w2.ownsMap Tryd.prog 3 RH M n D') (hn : n ≤ O.length) (h2 : W.grownBy w2 (some M)) : TxM w2 P B ve vo vi Q M rs L O D' top ∧ Chg W w2 (OwnT P ve vo vi Q M) := by
  obtain ⟨a1, a2, a3, a4, a5, a6, a7, a8, a9⟩ := h.apart
  have hc : Chg W w2 (fun k => some M = some k) := cg_gb h2
  have e : ∀ {k}, some M = some k → k = M := fun r => (Option.some.inj r).symm
  exact ⟨⟨cg_heap hc h.blk (fun r => a5 (e r).symm), cg_own hc h.elm (fun k hk r => (a6 k hk).2.2 (e r)), cg_own hc h.ops (fun k hk r => (a7 k hk).2 (e r)), h.idx.keep hc (fun k hk r => a8 (e r ▸ hk)), h1.mono hn, h.hP, h.hM⟩, cg_trans (cg_refl W _) hc (fun k _ r => .inr (.inr (.inr (.inr (e r)))))⟩
/-- Behind the store of the greatest counter. -/
theorem note_top {W : World} {P B Q M : Nat} {ve vo vi : Value} {rs : List El} {L : List Bool} {O : List Opn} {D : DataW Value} {top : Int} (t : Int) (h : TxM W P B ve vo vi Q M rs L O D top) :
    TxM (W.setCell ⟨P, 4, none⟩ (.int .i64 t)) P B ve vo vi Q M rs L O D t ∧ Chg W (W.setCell ⟨P, 4, none⟩ (.int .i64 t)) (OwnT P ve vo vi Q M) := by
  obtain ⟨a1, a2, a3, a4, a5, a6, a7, a8, a9⟩ := h.apart
  have hc := cg_set W P 4 (.int .i64 t)
  refine ⟨⟨?_, cg_own hc h.elm (fun k hk r => a1 (r ▸ hk)), cg_own hc h.ops (fun k hk r => a2 (r ▸ hk)), h.idx.keep hc (fun k hk r => a9 (r ▸ hk)), cg_map hc h.map (fun r => a5 r), h.hP, h.hM⟩, cg_trans (cg_refl W _) hc (fun k _ r => .inl r)⟩
  rw [heap_setX W P 4 _ _ _ _ h.blk]; rfl
end Go.Proofs.YtlelbepfkkaojaaDoor
