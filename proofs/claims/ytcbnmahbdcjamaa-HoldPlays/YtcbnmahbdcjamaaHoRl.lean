/- Both holds side by side; what each call leaves of them; the closures of HoldPlays. -/
import Derived.Test.YtcbnmahbdcjamaaHoRk
namespace Go.Proofs.Ytcbnmahbdcjamaa
open Go.RowKit Go.Sort
set_option linter.unusedVariables false
set_option linter.unusedSimpArgs false

def HpS (w V : World) (P r T : Nat) (l M : List Opn) (bs : Nat → Prop) : Prop :=
  ∃ v, HoO w V P r l (fun k => (k = T ∨ v.ownBlock = some k) ∨ bs k) ∧ RfH V w.heap.size T r M v ∧ ∀ k, bs k → (k ≠ T ∧ w.heap.size ≤ k) ∧ v.ownBlock ≠ some k
theorem HpS.below {w V : World} {P r T : Nat} {l M : List Opn} {bs : Nat → Prop} (h : HpS w V P r T l M bs) : Below w.heap.size w V := by obtain ⟨v, h1, _⟩ := h; exact h1.below
theorem HpS.asc {w V : World} {P r T : Nat} {l M : List Opn} {bs : Nat → Prop} (h : HpS w V P r T l M bs) : AscK l := by obtain ⟨v, h1, _⟩ := h; exact h1.asc
theorem HpS.room {w V : World} {P r T : Nat} {l M : List Opn} {bs : Nat → Prop} (h : HpS w V P r T l M bs) : l.length ≤ r := by obtain ⟨v, h1, _⟩ := h; exact h1.room
theorem HpS.more {w V V' : World} {P r T : Nat} {l M : List Opn} {bs bs' : Nat → Prop} (h : HpS w V P r T l M bs) (hb : Below V.heap.size V V') (hn : ∀ k, bs' k → bs k ∨ (V.heap.size ≤ k ∧ k < V'.heap.size)) : HpS w V' P r T l M bs' := by
  obtain ⟨v, h1, h2, h3⟩ := h
  refine ⟨v, h1.more hb (fun k hk => ?_), h2.later hb, fun k hk => ?_⟩
  · rcases hk with hk | hk
    · exact .inl (.inl hk)
    · rcases hn k hk with q | q
      · exact .inl (.inr q)
      · exact .inr q
  · rcases hn k hk with q | q
    · exact h3 k q
    · have hT := (Array.getElem?_eq_some_iff.1 h2.box).1
      have hs := h1.below.size
      exact ⟨⟨by omega, by omega⟩, fun e => by have := (h2.row.lt k e).2; omega⟩
theorem HpS.later {w V V' : World} {P r T : Nat} {l M : List Opn} {bs : Nat → Prop} (h : HpS w V P r T l M bs) (hb : Below V.heap.size V V') : HpS w V' P r T l M bs := h.more hb fun k hk => .inl hk
/-- Behind a change of boxes that are kept apart. -/
theorem HpS.chg {w V V' : World} {P r T : Nat} {l M : List Opn} {bs R : Nat → Prop} (h : HpS w V P r T l M bs) (hc : Chg V V' R) (hr : ∀ k, R k → bs k) : HpS w V' P r T l M bs := by
  obtain ⟨v, h1, h2, h3⟩ := h
  exact ⟨v, h1.chg hc (fun k hk => .inr (hr k hk)) (fun k hk => (h3 k (hr k hk)).1.2), ⟨h2.low, cg_heap hc h2.box (fun q => (h3 _ (hr _ q)).1.1 rfl), cg_own hc h2.row (fun k hk q => (h3 k (hr k q)).2 hk)⟩, h3⟩
theorem hp_hol {w V V' : World} {P r T : Nat} {l' M : List Opn} {bs : Nat → Prop} {v : Value} (h2 : RfH V w.heap.size T r M v) (h3 : ∀ k, bs k → (k ≠ T ∧ w.heap.size ≤ k) ∧ v.ownBlock ≠ some k) (h : HoL w V V' P r l' (fun k => (k = T ∨ v.ownBlock = some k) ∨ bs k)) : HpS w V' P r T l' M bs ∧ ∀ k, bs k → V'.heap[k]? = V.heap[k]? := by
  obtain ⟨q1, q2, q3⟩ := h
  refine ⟨⟨v, q1, ⟨h2.low, (q2 T (.inl (.inl rfl))).trans h2.box, ?_⟩, h3⟩, fun k hk => q2 k (.inr hk)⟩
  obtain ⟨hl, e | ⟨g, cap, cur, rfl, g1, g2, g3⟩⟩ := h2.row
  · exact ⟨hl, .inl e⟩
  · exact ⟨hl, .inr ⟨g, cap, cur, rfl, g1, (q2 g (.inl (.inr rfl))).trans g2, g3⟩⟩
theorem hoO_chg2 {w0 w w' : World} {P r : Nat} {l : List Opn} {hs hs' R : Nat → Prop} (h : HoO w0 w P r l hs) (hc : Chg w w' R) (hr : ∀ k, R k → hs k) (hr2 : ∀ k, R k → w0.heap.size ≤ k) (hn : ∀ k, hs' k → hs k ∨ (w.heap.size ≤ k ∧ k < w'.heap.size)) : HoO w0 w' P r l hs' := by
  obtain ⟨h1, h2, v, h3, h4⟩ := h
  refine ⟨h1.trans (cg_bel hc h1.size hr2), h2, v, h3.chg hc (fun k hk q => (h4 k (hr k q)).2 hk), fun k hk => ?_⟩
  rcases hn k hk with q | ⟨q1, q2⟩
  · exact ⟨Nat.lt_of_lt_of_le (h4 k q).1 hc.2.2.2.1, (h4 k q).2⟩
  · exact ⟨q2, fun q => by have := (h3.lt k q).1; omega⟩
theorem hp_rfz {w V V' : World} {P r T : Nat} {l M M' : List Opn} {bs : Nat → Prop} {v : Value} (h1 : HoO w V P r l (fun k => (k = T ∨ v.ownBlock = some k) ∨ bs k)) (h2 : RfH V w.heap.size T r M v) (h3 : ∀ k, bs k → (k ≠ T ∧ w.heap.size ≤ k) ∧ v.ownBlock ≠ some k) (h : RfZ V w.heap.size T r v M' V') : HpS w V' P r T l M' bs ∧ ∀ k, bs k → V'.heap[k]? = V.heap[k]? := by
  obtain ⟨v', q1, q2, q3⟩ := h
  have hlt : ∀ k, bs k → k < V.heap.size := fun k hk => by obtain ⟨_, _, _, _, h4⟩ := h1; exact (h4 k (.inr hk)).1
  refine ⟨⟨v', hoO_chg2 h1 q2 (fun k q => .inl (.inl q)) (fun k q => by subst q; exact h2.low) (fun k hk => ?_), q1, fun k hk => ⟨(h3 k hk).1, fun e => ?_⟩⟩, fun k hk => q2.2.2.2.2 k (hlt k hk) (h3 k hk).1.1⟩
  rcases hk with (hk | hk) | hk
  · exact .inl (.inl (.inl hk))
  · rcases q3 k hk with q | q
    · exact .inl (.inl (.inr q))
    · exact .inr ⟨q, (q1.row.lt k hk).2⟩
  · exact .inl (.inr hk)
  · rcases q3 k e with q | q
    · exact (h3 k hk).2 q
    · have := hlt k hk; omega
theorem hp_cells {w V : World} {P r T : Nat} {l M : List Opn} {bs : Nat → Prop} (h : HpS w V P r T l M bs) : ∃ a c, V.cell? ⟨T, 0, none⟩ = some (.int .i64 (r : Int)) ∧ V.cell? ⟨T, 1, none⟩ = some (.slice a M.length c) := by
  obtain ⟨v, h1, h2, h3⟩ := h
  obtain ⟨a, c, rfl, _⟩ := h2.rd
  exact ⟨a, c, h2.cells.1, h2.cells.2.1⟩
section
variable {w V : World} {P r T : Nat} {l M : List Opn} {bs : Nat → Prop}
theorem hp_add (h : HpS w V P r T l M bs) (o : Opn) (hl : l.length < 1000) :
    Calls Try.prog 46 #[.pointer (some ⟨P, 0, none⟩), .agg #[.int .i64 o.c, .int .i64 o.a, .int .i64 o.s, .bool o.ins, .int .i64 o.rc, .int .i64 o.ra, .int .i32 o.ch]] V fun e w' => e = .returned (.int .i64 (addE l r o)) ∧ HpS w w' P r T (addK l r o) M bs ∧ ∀ k, bs k → w'.heap[k]? = V.heap[k]? := by
  obtain ⟨v, h1, h2, h3⟩ := h
  refine (h_add h1 o hl).mono fun e w' q => ?_
  obtain ⟨q1, q2⟩ := q
  exact ⟨q1, hp_hol (V := V) (v := v) h2 h3 q2⟩
theorem hp_radd (h : HpS w V P r T l M bs) (o : Opn) (hl : M.length ≤ 100000) :
    Calls Try.prog 47 #[.pointer (some ⟨T, 0, none⟩), .agg #[.int .i64 o.c, .int .i64 o.a, .int .i64 o.s, .bool o.ins, .int .i64 o.rc, .int .i64 o.ra, .int .i32 o.ch]] V fun e w' => e = .returned (.int .i64 (rfE M r o)) ∧ HpS w w' P r T l (rfA M r o) bs ∧ ∀ k, bs k → w'.heap[k]? = V.heap[k]? := by
  obtain ⟨v, h1, h2, h3⟩ := h
  cases hh : hasK M o.a o.s
  · by_cases hr : r ≤ M.length
    · refine (rf_add_old V o h2 hl 8 (.inr ⟨hh, hr, rfl⟩)).mono fun e w' q => ?_
      have e1 : rfA M r o = M := by unfold rfA; rw [if_neg (by rw [hh]; decide), if_pos hr]
      have e2 : rfE M r o = 8 := by unfold rfE; rw [if_neg (by rw [hh]; decide), if_pos hr]
      rw [e1, e2]
      exact ⟨q.1, hp_rfz h1 h2 h3 (rfz_later h2 q.2)⟩
    · refine (rf_add_new V o h2 hl hh hr).mono fun e w' q => ?_
      have e1 : rfA M r o = M ++ [o] := by unfold rfA; rw [if_neg (by rw [hh]; decide), if_neg hr]
      have e2 : rfE M r o = 0 := by unfold rfE; rw [if_neg (by rw [hh]; decide), if_neg hr]
      rw [e1, e2]
      exact ⟨q.1, hp_rfz h1 h2 h3 (rfz_of q.2)⟩
  · refine (rf_add_old V o h2 hl 0 (.inl ⟨hh, rfl⟩)).mono fun e w' q => ?_
    have e1 : rfA M r o = M := by unfold rfA; rw [if_pos hh]
    have e2 : rfE M r o = 0 := by unfold rfE; rw [if_pos hh]
    rw [e1, e2]
    exact ⟨q.1, hp_rfz h1 h2 h3 (rfz_later h2 q.2)⟩
theorem hp_has (h : HpS w V P r T l M bs) (a s : Int) :
    Calls Try.prog 44 #[.pointer (some ⟨P, 0, none⟩), .int .i64 a, .int .i64 s] V fun e w' => e = .returned (.bool (hasK l a s)) ∧ Below V.heap.size V w' := by
  obtain ⟨v, h1, h2, h3⟩ := h
  exact h_has h1 a s
theorem hp_rhas (h : HpS w V P r T l M bs) (hl : M.length ≤ 100000) (a s : Int) :
    Calls Try.prog 45 #[.pointer (some ⟨T, 0, none⟩), .int .i64 a, .int .i64 s] V fun e w' => e = .returned (.bool (hasK M a s)) ∧ w' = V := by
  obtain ⟨v, h1, h2, h3⟩ := h
  exact rf_has V h2 hl a s
theorem hp_len (h : HpS w V P r T l M bs) : Calls Try.prog 51 #[.pointer (some ⟨P, 0, none⟩)] V fun e w' => e = .returned (.int .i64 (l.length : Int)) ∧ w' = V := by
  obtain ⟨v, h1, h2, h3⟩ := h
  exact h_len h1
theorem hp_room (h : HpS w V P r T l M bs) : Calls Try.prog 52 #[.pointer (some ⟨P, 0, none⟩)] V fun e w' => e = .returned (.int .i64 ((r : Int) - (l.length : Int))) ∧ w' = V.drew := by
  obtain ⟨v, h1, h2, h3⟩ := h
  exact h_room h1
theorem hp_all (h : HpS w V P r T l M bs) : Calls Try.prog 48 #[.pointer (some ⟨P, 0, none⟩)] V fun e w' => ∃ a c, e = .returned (.slice a l.length c) ∧ w'.ownsRow V.heap.size 34 7 (.slice a l.length c) l.length (flatP l) ∧ Below V.heap.size V w' := by
  obtain ⟨v, h1, h2, h3⟩ := h
  exact (h_all h1).mono fun e w' q => by obtain ⟨a, c, q1, q2, _, q4⟩ := q; exact ⟨a, c, q1, q2, q4⟩
theorem hp_rall (h : HpS w V P r T l M bs) (hp : l.Perm M) (hl : M.length ≤ 100000) : Calls Try.prog 50 #[.pointer (some ⟨T, 0, none⟩)] V fun e w' => ∃ a c, e = .returned (.slice a l.length c) ∧ RdP w' a l.length l ∧ Below V.heap.size V w' := by
  have hA := h.asc
  obtain ⟨v, h1, h2, h3⟩ := h
  exact (rf_all V h2 hA hp hl).mono fun e w' q => by
    obtain ⟨a, c, rfl, q1, q2⟩ := q
    obtain ⟨a9, c9, e9, _, _, r9, _⟩ := rdP_own q1
    cases e9
    exact ⟨a, c, rfl, r9, q2⟩
theorem hp_ready (h : HpS w V P r T l M bs) (F : Nat) (cs : Array Value) (Q : Opn → Bool) (hA : Ask F cs Q V) :
    Calls Try.prog 39 #[.pointer (some ⟨P, 0, none⟩), .func (.func F) #[] cs] V fun e w' => (∃ o, l.find? Q = some o ∧ e = .returned (.tuple #[o.val, .bool true]) ∧ HpS w w' P r T (remK l o.a o.s) M bs ∧ ∀ k, bs k → w'.heap[k]? = V.heap[k]?) ∨ (l.find? Q = none ∧ e = .returned (.tuple #[op0.val, .bool false]) ∧ HpS w w' P r T l M bs ∧ ∀ k, bs k → w'.heap[k]? = V.heap[k]?) := by
  have h0 := h
  obtain ⟨v, h1, h2, h3⟩ := h
  have hlt : ∀ k, bs k → k < V.heap.size := fun k hk => by obtain ⟨_, _, _, _, h4⟩ := h1; exact (h4 k (.inr hk)).1
  refine (h_ready h1 F cs Q hA).mono fun e w' q => ?_
  rcases q with ⟨o, q1, q2, q3⟩ | ⟨q1, q2, q3⟩
  · exact .inl ⟨o, q1, q2, hp_hol h2 h3 q3⟩
  · exact .inr ⟨q1, q2, h0.later q3, fun k hk => q3.block k (hlt k hk)⟩
theorem hp_drop (h : HpS w V P r T l M bs) (F : Nat) (cs : Array Value) (Q : Opn → Bool) (hA : Ask F cs Q V) :
    Calls Try.prog 42 #[.pointer (some ⟨P, 0, none⟩), .func (.func F) #[] cs] V fun e w' => e = .returned (.int .i64 ((l.length : Int) - ((l.filter fun x => !Q x).length : Int))) ∧ HpS w w' P r T (l.filter fun x => !Q x) M bs ∧ ∀ k, bs k → w'.heap[k]? = V.heap[k]? := by
  obtain ⟨v, h1, h2, h3⟩ := h
  refine (h_drop h1 F cs Q hA).mono fun e w' q => ?_
  obtain ⟨q1, q2⟩ := q
  exact ⟨q1, hp_hol (V := V) (v := v) h2 h3 q2⟩
/-- The statement's ready: of whichever row of the program's own hold, as long as the reference has its operations. -/
theorem hp_lready {l' : List Opn} (h : HpS w V P r T l' M bs) (hA : AscK l) (hp : l.Perm M) (hl : M.length ≤ 1000) (n : Int) :
    Calls Try.prog 40 #[.pointer (some ⟨T, 0, none⟩), .int .i64 n] V fun e w' => (∃ o, l.find? (rdP n) = some o ∧ e = .returned (.tuple #[o.val, .bool true]) ∧ HpS w w' P r T l' (remK M o.a o.s) bs ∧ ∀ k, bs k → w'.heap[k]? = V.heap[k]?) ∨ (l.find? (rdP n) = none ∧ e = .returned (.tuple #[op0.val, .bool false]) ∧ HpS w w' P r T l' M bs ∧ ∀ k, bs k → w'.heap[k]? = V.heap[k]?) := by
  obtain ⟨v, h1, h2, h3⟩ := h
  refine (lw_ready V h2 hA hp hl n).mono fun e w' q => ?_
  rcases q with ⟨o, q1, q2, q3⟩ | ⟨q1, q2, q3⟩
  · exact .inl ⟨o, q1, q2, hp_rfz h1 h2 h3 q3⟩
  · exact .inr ⟨q1, q2, hp_rfz h1 h2 h3 q3⟩
end
theorem cl_may (N : Nat) (v : Int) (o : Opn) (W : World) (hN : W.heap[N]? = some (bxI v)) : Calls Try.prog 38 #[o.val, .pointer (some ⟨N, 0, none⟩)] W fun e w' => e = .returned (.bool (rdP v o)) ∧ Below W.heap.size W w' := by
  obtain ⟨W0, hW0⟩ : ∃ W0, W0 = W.alloc (bxP o) := ⟨_, rfl⟩
  obtain ⟨M, hM⟩ : ∃ M, M = W.heap.size := ⟨_, rfl⟩
  have hb0 : Below W.heap.size W W0 := by rw [hW0]; exact (Below.refl _ W).alloc (Nat.le_refl _) _
  have hbx : W0.heap[M]? = some (bxP o) := by rw [hW0, hM]; exact heap_alloc_new W _
  have hs : W0.cell? ⟨N, 0, none⟩ = some (.int .i64 v) := cell_of_row W0 N 0 _ _ _ (bel_heap hb0 hN)
  obtain ⟨q0, q1, q2, q3, q4, q5, q6⟩ := opAt_box hbx
  have HB : Hid (Below W.heap.size W W0) := hb0
  have hpe : rdP v o = ((bits .and .i64 v 1 == 1) || (bits .and .i64 o.s v != 0)) := rfl
  rw [hpe]
  clear hN hbx hb0 hpe
  obtain ⟨oc, oa, os, oi, orc, ora, och⟩ := o
  simp only [Opn.val] at q0 q1 q2 q3 q4 q5 q6 ⊢
  cases t1 : (bits .and .i64 v 1 == 1)
  · cases t2 : (bits .and .i64 os v != 0)
    all_goals
      go_enter Try.func38, Try.ntmps38
      go_upto_region 1 with fail
      rw [← hM, ← hW0]
      clear hM hW0
      go_wp2
      go_ret
      exact ⟨rfl, HB.out⟩
  · go_enter Try.func38, Try.ntmps38
    go_upto_region 1 with fail
    rw [← hM, ← hW0]
    clear hM hW0
    go_wp2
    go_ret
    exact ⟨rfl, HB.out⟩
theorem ask_may (N : Nat) (v : Int) (w : World) (hN : w.heap[N]? = some (bxI v)) : Ask 38 #[.pointer (some ⟨N, 0, none⟩)] (rdP v) w :=
  ⟨fun x W => enter_of Try.func38 (by kernel_rfl) (by kernel_rfl) x W, fun o W hW => cl_may N v o W (bel_heap hW hN)⟩
theorem cl_old (N : Nat) (v : Int) (o : Opn) (W : World) (hN : W.heap[N]? = some (bxI v)) : Calls Try.prog 41 #[o.val, .pointer (some ⟨N, 0, none⟩)] W fun e w' => e = .returned (.bool (decide (o.s ≤ v))) ∧ Below W.heap.size W w' := by
  obtain ⟨W0, hW0⟩ : ∃ W0, W0 = W.alloc (bxP o) := ⟨_, rfl⟩
  obtain ⟨M, hM⟩ : ∃ M, M = W.heap.size := ⟨_, rfl⟩
  have hb0 : Below W.heap.size W W0 := by rw [hW0]; exact (Below.refl _ W).alloc (Nat.le_refl _) _
  have hbx : W0.heap[M]? = some (bxP o) := by rw [hW0, hM]; exact heap_alloc_new W _
  have hs : W0.cell? ⟨N, 0, none⟩ = some (.int .i64 v) := cell_of_row W0 N 0 _ _ _ (bel_heap hb0 hN)
  obtain ⟨q0, q1, q2, q3, q4, q5, q6⟩ := opAt_box hbx
  have HB : Hid (Below W.heap.size W W0) := hb0
  clear hN hbx hb0
  obtain ⟨oc, oa, os, oi, orc, ora, och⟩ := o
  simp only [Opn.val] at q0 q1 q2 q3 q4 q5 q6 ⊢
  go_enter Try.func41, Try.ntmps41
  go_upto_region 1 with fail
  rw [← hM, ← hW0]
  clear hM hW0
  go_wp2
  go_ret
  exact ⟨rfl, HB.out⟩
theorem ask_old (N : Nat) (v : Int) (w : World) (hN : w.heap[N]? = some (bxI v)) : Ask 41 #[.pointer (some ⟨N, 0, none⟩)] (fun o => decide (o.s ≤ v)) w :=
  ⟨fun x W => enter_of Try.func41 (by kernel_rfl) (by kernel_rfl) x W, fun o W hW => cl_old N v o W (bel_heap hW hN)⟩
end Go.Proofs.Ytcbnmahbdcjamaa
