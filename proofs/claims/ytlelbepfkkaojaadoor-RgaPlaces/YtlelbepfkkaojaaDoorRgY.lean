/- A text of the call's own, and two of them; what each call leaves of them. -/
import Derived.Test.YtlelbepfkkaojaaDoorRgX
namespace Go.Proofs.YtlelbepfkkaojaaDoor
open Go.RowKit Go.Shelf Go.Maps Go.Sort
set_option linter.unusedVariables false
set_option linter.unusedSimpArgs false

/-- A text of the call's own, apart from some blocks. -/
def RgS (w0 w : World) (P : Nat) (O : List Opn) (hs : Nat → Prop) : Prop :=
  Rv O ∧ ∃ ve vo vi Q M, TxAt w P w0.heap.size ve vo vi Q M O ∧ Below w0.heap.size w0 w ∧ ∀ k, hs k → k < w.heap.size ∧ ¬ OwnT P ve vo vi Q M k
theorem RgS.below {w0 w : World} {P : Nat} {O : List Opn} {hs : Nat → Prop} (h : RgS w0 w P O hs) : Below w0.heap.size w0 w := by obtain ⟨_, _, _, _, _, _, _, hb, _⟩ := h; exact hb
theorem RgS.rv {w0 w : World} {P : Nat} {O : List Opn} {hs : Nat → Prop} (h : RgS w0 w P O hs) : Rv O := h.1
theorem RgS.more {w0 w w' : World} {P : Nat} {O : List Opn} {hs hs' : Nat → Prop} (h : RgS w0 w P O hs) (hb : Below w.heap.size w w') (hh : ∀ k, hs' k → hs k ∨ (w.heap.size ≤ k ∧ k < w'.heap.size)) : RgS w0 w' P O hs' := by
  obtain ⟨hv, ve, vo, vi, Q, M, h1, h2, h3⟩ := h
  refine ⟨hv, ve, vo, vi, Q, M, h1.later hb, h2.trans (hb.mono h2.size), fun k hk => ?_⟩
  rcases hh k hk with r | ⟨r1, r2⟩
  · exact ⟨Nat.lt_of_lt_of_le (h3 k r).1 hb.size, (h3 k r).2⟩
  · exact ⟨r2, fun q => by have := (h1.ge q).2; omega⟩
theorem RgS.later {w0 w w' : World} {P : Nat} {O : List Opn} {hs : Nat → Prop} (h : RgS w0 w P O hs) (hb : Below w.heap.size w w') : RgS w0 w' P O hs := h.more hb fun k hk => .inl hk
/-- Behind a change of blocks that are none of the text's. -/
theorem RgS.chg {w0 w w' : World} {P : Nat} {O : List Opn} {hs : Nat → Prop} {R : Nat → Prop} (h : RgS w0 w P O hs) (hc : Chg w w' R) (hr : ∀ k, R k → hs k) (hr2 : ∀ k, R k → w0.heap.size ≤ k) : RgS w0 w' P O hs := by
  obtain ⟨hv, ve, vo, vi, Q, M, h1, h2, h3⟩ := h
  refine ⟨hv, ve, vo, vi, Q, M, h1.keep hc (fun k hk r => (h3 k (hr k r)).2 hk), ⟨hc.1.trans h2.os, hc.2.1.trans h2.tape, hc.2.2.1.trans h2.output, Nat.le_trans h2.size hc.2.2.2.1, fun k hk => (hc.2.2.2.2 k (Nat.lt_of_lt_of_le hk h2.size) (fun r => by have := hr2 k r; omega)).trans (h2.block k hk)⟩, fun k hk => ⟨Nat.lt_of_lt_of_le (h3 k hk).1 hc.2.2.2.1, (h3 k hk).2⟩⟩
theorem putO_len (O : List Opn) (x : Opn) : (putO O x).length ≤ O.length + 1 := by unfold putO; split <;> simp
theorem s_new14 {w0 w : World} (hb : Below w0.heap.size w0 w) (hs : Nat → Prop) (hh : ∀ k, hs k → k < w.heap.size) : Calls Tryd.prog 5 #[] w fun e w' => ∃ P, e = .returned (.pointer (some ⟨P, 0, none⟩)) ∧ RgS w0 w' P [] hs ∧ Below w.heap.size w w' := by
  refine (new_rga w).mono fun e w' h => ?_
  obtain ⟨P, vi, Q, M, rfl, h1, h2⟩ := h
  have hs0 := hb.size
  refine ⟨P, rfl, ⟨rv_nil, _, _, vi, Q, M, ⟨h1.blk, ⟨h1.elm.1, .inl ⟨rfl, rfl⟩⟩, ⟨h1.ops.1, .inl ⟨rfl, rfl⟩⟩, ?_, h1.map, Nat.le_trans hs0 h1.hP, Nat.le_trans hs0 h1.hM⟩, hb.trans (h2.mono hs0), fun k hk => ⟨Nat.lt_of_lt_of_le (hh k hk) h2.size, fun q => ?_⟩⟩, h2⟩
  · obtain ⟨Bs, g1, g2, g3, g4, g5, g6⟩ := h1.idx
    exact ⟨Bs, g1, g2, g3, ownsRow_base_a g4 hs0, g5, Nat.le_trans hs0 g6⟩
  · have := (h1.ge q).1
    have := hh k hk
    omega
theorem s_put {w0 w : World} {P : Nat} {O : List Opn} {hs : Nat → Prop} (h : RgS w0 w P O hs) (x : Opn) (hl : O.length ≤ 99000) :
    Calls Tryd.prog 6 #[.pointer (some ⟨P, 0, none⟩), .agg #[.int .i64 x.c, .int .i64 x.a, .int .i64 x.s, .bool x.ins, .int .i64 x.rc, .int .i64 x.ra, .int .i32 x.ch]] w fun e w' => e = .returned (.tuple #[.bool (putA O x).1, .int .i64 (putA O x).2]) ∧ RgS w0 w' P (putO O x) hs ∧ (∀ k, hs k → w'.heap[k]? = w.heap[k]?) ∧ w.heap.size ≤ w'.heap.size := by
  obtain ⟨hv, ve, vo, vi, Q, M, h1, h2, h3⟩ := h
  refine (put_rga hv x hl w h1 h2.size).mono fun e w' hh => ?_
  obtain ⟨rfl, ve', vo', vi', q1, q2, q3⟩ := hh
  have hs' := q2.2.2.2.1
  refine ⟨rfl, ⟨rv_put hv x, ve', vo', vi', Q, M, q1, ⟨q2.1.trans h2.os, q2.2.1.trans h2.tape, q2.2.2.1.trans h2.output, Nat.le_trans h2.size hs', fun k hk => (q2.2.2.2.2 k (Nat.lt_of_lt_of_le hk h2.size) (fun r => by have := (h1.ge r).1; omega)).trans (h2.block k hk)⟩, fun k hk => ⟨Nat.lt_of_lt_of_le (h3 k hk).1 hs', fun r => ?_⟩⟩, fun k hk => q2.2.2.2.2 k (h3 k hk).1 (h3 k hk).2, hs'⟩
  rcases q3 k r with r | r
  · exact (h3 k hk).2 r
  · have := (h3 k hk).1; omega
theorem s_vis {w0 w : World} {P : Nat} {O : List Opn} {hs : Nat → Prop} (h : RgS w0 w P O hs) (hl : O.length ≤ 99000) : Calls Tryd.prog 9 #[.pointer (some ⟨P, 0, none⟩)] w fun e w' => ∃ v, e = .returned v ∧ w'.ownsRow w.heap.size 21 1 v (visC (els O)).length (flatC (visC (els O))) ∧ Below w.heap.size w w' := by
  obtain ⟨hv, ve, vo, vi, Q, M, h1, h2, h3⟩ := h

  exact (visible_rga hl w (B := w0.heap.size) h1)
theorem s_ids {w0 w : World} {P : Nat} {O : List Opn} {hs : Nat → Prop} (h : RgS w0 w P O hs) (hl : O.length ≤ 99000) : Calls Tryd.prog 7 #[.pointer (some ⟨P, 0, none⟩)] w fun e w' => ∃ v, e = .returned v ∧ w'.ownsRow w.heap.size 30 2 v (visI (els O)).length (flatE (visI (els O))) ∧ Below w.heap.size w w' := by
  obtain ⟨hv, ve, vo, vi, Q, M, h1, h2, h3⟩ := h
  exact (ids_rga hl w (B := w0.heap.size) h1)
theorem s_alive {w0 w : World} {P : Nat} {O : List Opn} {hs : Nat → Prop} (h : RgS w0 w P O hs) (hl : O.length ≤ 99000) (i1 i2 : Int) (hi : (Lit.int .i64 i2).wf = true) : Calls Tryd.prog 12 #[.pointer (some ⟨P, 0, none⟩), .agg #[.int .i64 i1, .int .i64 i2]] w fun e w' => e = .returned (.bool (aliveE O (i1, i2))) ∧ Gw w w' := by
  obtain ⟨hv, ve, vo, vi, Q, M, h1, h2, h3⟩ := h
  exact (alive_rga hv hl (i1, i2) hi w (B := w0.heap.size) h1)
theorem s_len14 {w0 w : World} {P : Nat} {O : List Opn} {hs : Nat → Prop} (h : RgS w0 w P O hs) : Calls Tryd.prog 8 #[.pointer (some ⟨P, 0, none⟩)] w fun e w' => e = .returned (.int .i64 (cnt (marks O) : Int)) ∧ w' = w := by
  obtain ⟨hv, ve, vo, vi, Q, M, h1, h2, h3⟩ := h
  exact len_rga w h1
theorem s_top {w0 w : World} {P : Nat} {O : List Opn} {hs : Nat → Prop} (h : RgS w0 w P O hs) : Calls Tryd.prog 14 #[.pointer (some ⟨P, 0, none⟩)] w fun e w' => e = .returned (.int .i64 (topO O)) ∧ w' = w := by
  obtain ⟨hv, ve, vo, vi, Q, M, h1, h2, h3⟩ := h
  exact top_rga w h1
theorem results_cell_rg {fn : Func} {p : Tmp} {ty : TypeId} (h : fn.results = #[.cell p ty]) (tmps : Array Value) (P : Program) (w : World) :
    (results fn tmps).run P w = ((asAddr (tmps.getD p undef)).run P w).andThen fun a w₁ => (loadVar ty a).run P w₁ := by
  simp only [results, h]
  simp [Sem.run_bind, Result.andThen]
theorem id_any (c a : Int) (w : World) : Calls Tryd.prog 13 #[.int .i64 c, .int .i64 a] w fun e w' => e = .returned (.agg #[.int .i64 c, .int .i64 a]) ∧ Gw w w' := by
  have HG : Hid (∀ o, Gw w (w.alloc o)) := fun o => gw_alloc w o
  go_enter Tryd.func13, Tryd.ntmps13
  go_wp2
  refine bodyPost_ret (v := .agg #[.int .i64 c, .int .i64 a]) ?_ rfl ⟨rfl, HG.out _⟩
  rw [results_cell_rg rfl]
  go_simp
end Go.Proofs.YtlelbepfkkaojaaDoor
