/- The walk of the library's DeleteFunc over operations: of any function of operations. -/
import Derived.Test.YtcbnmahbdcjamaaHoG
namespace Go.Proofs.Ytcbnmahbdcjamaa
open Go.RowKit Go.Sort
set_option linter.unusedVariables false
set_option linter.unusedSimpArgs false

theorem zero_P (w : World) : (zeroValue 34).run Try.prog w = .ok op0.val w := by
  obtain ⟨i0, hi, hz0, hz1, hz2⟩ := info_parts info_P
  simp [zeroValue, typeInfo, hi, hz0]
/-- clear of operations. -/
theorem clearK (b o n c : Nat) (hn : 0 < n) : ∃ D : List Value, D.length = n * 7 ∧ ∀ (w : World), (∀ j, j < n * 7 → (w.cell? ⟨b, o + j, none⟩).isSome = true) → (∀ j, j < n * 7 → w.frozen? ⟨b, o + j, none⟩ = false) →
    ∀ ty, (Builtin.clear_ #[22] ty #[.slice (some ⟨b, o, none⟩) n c]).run Try.prog w = .ok (.tuple #[]) (w.setCells b o D) := by
  refine ⟨(Builtin.zeroCells op0.val.cells n).toList, by simp [Builtin.zeroCells, Opn.val, Value.cells], fun w hc hf ty => ?_⟩
  have hl : (Builtin.zeroCells op0.val.cells n).toList.length = n * 7 := by simp [Builtin.zeroCells, Opn.val, Value.cells]
  have hst := run_storeCells_cells (P := Try.prog) b o (Builtin.zeroCells op0.val.cells n).toList 0 w (by rw [hl]; simpa using hc) (by rw [hl]; simpa using hf) (by
    intro v hv
    simp only [Builtin.zeroCells, Array.toList_map, List.mem_map] at hv
    obtain ⟨i, _, rfl⟩ := hv
    have h7 : i % op0.val.cells.size < 7 := Nat.mod_lt _ (by simp [Opn.val, Value.cells])
    generalize i % op0.val.cells.size = j at h7
    have : j = 0 ∨ j = 1 ∨ j = 2 ∨ j = 3 ∨ j = 4 ∨ j = 5 ∨ j = 6 := by omega
    rcases this with rfl | rfl | rfl | rfl | rfl | rfl | rfl <;> rfl)
  simp only [Nat.add_zero] at hst
  obtain ⟨m, rfl⟩ : ∃ m, n = m + 1 := ⟨n - 1, by omega⟩
  have hz := zero_P w
  simp [Builtin.clear_, run_underlying Try.underlying22, hz, hst]
/-- What a function value answers of operations, while a row of blocks changes. -/
def AskC (F : Nat) (cs : Array Value) (P : Opn → Bool) (w : World) (S : Nat → Prop) : Prop := (∀ (x : Array Value) (W : World), (callFunc F x).run Try.prog W = .ok (.enter F x) W) ∧ ∀ (o : Opn) (W : World), Chg w W S → Calls Try.prog F (#[o.val] ++ cs) W fun e w' => e = .returned (.bool (P o)) ∧ Below W.heap.size W w'
theorem AskC.ask {F : Nat} {cs : Array Value} {P : Opn → Bool} {w : World} {S : Nat → Prop} (h : AskC F cs P w S) : Ask F cs P w := ⟨h.1, fun o W hW => h.2 o W (cg_below hW S)⟩
/-- Behind j of a row, i of which stay. -/
structure DelS (w wr : World) (g c : Nat) (l : List Opn) (P : Opn → Bool) (i j : Nat) (n : Nat) (cur : Array Value) : Prop where
  here : wr.heap[g]? = some (.cells cur 34 (0, 0))
  size : cur.size = c * 7
  num : i = (keptK l (fun x => !P x) j).length
  took : cur.toList.take (i * 7) = flatP (keptK l (fun x => !P x) j)
  rest : ∀ q, j * 7 ≤ q → q < n * 7 → cur[q]? = (flatP l)[q]?
  chg : Chg w wr (fun k => k = g)
theorem delS_low {w wr V : World} {g c i j n : Nat} {l : List Opn} {P : Opn → Bool} {cur : Array Value} (h : DelS w wr g c l P i j n cur) (hb : Below wr.heap.size wr V) : DelS w V g c l P i j n cur :=
  ⟨bel_heap hb h.here, h.size, h.num, h.took, h.rest, cg_trans h.chg (cg_below hb (fun _ => False)) (fun _ _ q => q.elim)⟩
theorem delS_skip {w wr : World} {g c i j n : Nat} {l : List Opn} {P : Opn → Bool} {cur : Array Value} (h : DelS w wr g c l P i j n cur) (hj : j < l.length) (hp : P (l.getD j op0) = true) : DelS w wr g c l P i (j + 1) n cur := by
  have e : keptK l (fun x => !P x) (j + 1) = keptK l (fun x => !P x) j := by rw [keptK_snoc l _ j hj, hp]; simp
  exact ⟨h.here, h.size, by rw [e]; exact h.num, by rw [e]; exact h.took, fun q h1 h2 => h.rest q (by omega) h2, h.chg⟩
theorem row_keep (L F E : List Value) (i N : Nat) (hL : L.length = N) (hF : L.take (i * 7) = F) (hE : E.length = 7) (hi : i * 7 + 7 ≤ N) :
    (L.take (i * 7) ++ (E ++ L.drop (i * 7 + E.length))).take ((i + 1) * 7) = F ++ E ∧ ∀ q, (i + 1) * 7 ≤ q → (L.take (i * 7) ++ (E ++ L.drop (i * 7 + E.length)))[q]? = L[q]? := by
  have h1 : (L.take (i * 7)).length = i * 7 := by rw [List.length_take]; omega
  constructor
  · rw [hF] at h1 ⊢
    rw [← List.append_assoc, List.take_append_of_le_length (by rw [List.length_append]; omega), List.take_of_length_le (by rw [List.length_append]; omega)]
  · intro q hq
    rw [List.getElem?_append_right (by omega), List.getElem?_append_right (by omega), List.getElem?_drop]
    congr 1
    omega
theorem cg_weak {w w' : World} {Q R : Nat → Prop} (h : Chg w w' Q) (hr : ∀ k, Q k → R k) : Chg w w' R := ⟨h.1, h.2.1, h.2.2.1, h.2.2.2.1, fun k hk hq => h.2.2.2.2 k hk (fun q => hq (hr k q))⟩
theorem delS_keep {w wr : World} {g c i j n : Nat} {l : List Opn} {P : Opn → Bool} {cur : Array Value} (h : DelS w wr g c l P i j n cur) (hj : j < l.length) (hn : n = l.length) (hc : n ≤ c) (hij : i < j) (hp : P (l.getD j op0) = false) : DelS w (wr.setCells g (i * 7) (encP (l.getD j op0))) g c l P (i + 1) (j + 1) n (setL cur (i * 7) (encP (l.getD j op0))) := by
  have e : keptK l (fun x => !P x) (j + 1) = keptK l (fun x => !P x) j ++ [l.getD j op0] := by rw [keptK_snoc l _ j hj, hp]; simp
  have hs := h.size
  have ht := h.took
  have hr := h.rest
  obtain ⟨E, hE⟩ : ∃ E, E = encP (l.getD j op0) := ⟨_, rfl⟩
  have h7 : E.length = 7 := by rw [hE]; rfl
  have hfe : flatP (keptK l (fun x => !P x) (j + 1)) = flatP (keptK l (fun x => !P x) j) ++ E := by rw [e, flatP_app, flatP_one, hE]
  have hnum : i + 1 = (keptK l (fun x => !P x) (j + 1)).length := by rw [e, List.length_append, ← h.num]; rfl
  rw [← hE]
  have hl := setL_list E cur (i * 7) (by rw [h7, hs]; omega)
  obtain ⟨k1, k2⟩ := row_keep cur.toList _ E i (c * 7) (by simpa using hs) ht h7 (by omega)
  rw [← hl] at k1 k2
  refine ⟨heap_setCells g _ _ wr cur _ _ h.here, by rw [setL_size]; exact hs, hnum, by rw [hfe]; exact k1, fun q h1 h2 => ?_, cg_trans h.chg (cg_cells wr g _ _) (fun _ _ q => q)⟩
  have := k2 q (by omega)
  rw [Array.getElem?_toList, Array.getElem?_toList] at this
  rw [this]
  exact hr q (by omega) h2
theorem delS_at {w wr : World} {g c i j n : Nat} {l : List Opn} {P : Opn → Bool} {cur : Array Value} (h : DelS w wr g c l P i j n cur) (hj : j < n) (hn : n = l.length) (o : Opn) (ho : o = l.getD j op0) : wr.cell? ⟨g, j * 7, none⟩ = some (.int .i64 o.c) ∧ wr.cell? ⟨g, j * 7 + 1, none⟩ = some (.int .i64 o.a) ∧ wr.cell? ⟨g, j * 7 + 2, none⟩ = some (.int .i64 o.s) ∧ wr.cell? ⟨g, j * 7 + 3, none⟩ = some (.bool o.ins) ∧ wr.cell? ⟨g, j * 7 + 4, none⟩ = some (.int .i64 o.rc) ∧ wr.cell? ⟨g, j * 7 + 5, none⟩ = some (.int .i64 o.ra) ∧ wr.cell? ⟨g, j * 7 + 6, none⟩ = some (.int .i32 o.ch) := by
  have hh : ∀ k u, k < 7 → (encP o)[k]? = some u → wr.cell? ⟨g, j * 7 + k, none⟩ = some u := fun k u hk hu => by
    rw [cell_of_row wr g _ _ _ _ h.here, h.rest _ (by omega) (by omega), flatP_at l j (by omega) k hk, ← ho]
    exact hu
  exact ⟨hh 0 _ (by omega) rfl, hh 1 _ (by omega) rfl, hh 2 _ (by omega) rfl, hh 3 _ (by omega) rfl, hh 4 _ (by omega) rfl, hh 5 _ (by omega) rfl, hh 6 _ (by omega) rfl⟩
/-- A cell of the row, that may be written. -/
theorem delS_cell {w wr : World} {g c i j n : Nat} {l : List Opn} {P : Opn → Bool} {cur : Array Value} (h : DelS w wr g c l P i j n cur) (k : Nat) (hk : k < c * 7) : (wr.cell? ⟨g, k, none⟩).isSome = true ∧ wr.frozen? ⟨g, k, none⟩ = false := by
  refine ⟨?_, Lib.frozen_of_heap h.here _⟩
  rw [cell_of_row wr g _ _ _ _ h.here, Array.getElem?_eq_getElem (by rw [h.size]; exact hk)]
  rfl
/-- What is left of a row. -/
def DelQ (w : World) (B : Nat) (l : List Opn) (P : Opn → Bool) (a : Option Addr) (n c : Nat) (e : Ending) (w' : World) : Prop :=
  ∃ m, e = .returned (.slice a m c) ∧ m = (l.filter fun x => !P x).length ∧ w'.ownsRow B 34 7 (.slice a m c) m (flatP (l.filter fun x => !P x)) ∧ Chg w w' (fun k => (Value.slice a n c).ownBlock = some k)
theorem delS_end {w wr : World} {B g c i n : Nat} {l : List Opn} {P : Opn → Bool} {cur : Array Value} {D : List Value} (h : DelS w wr g c l P i n n cur) (hn : n = l.length) (hnc : n ≤ c) (hc : c ≤ 9223372036854775807) (hB : B ≤ g) (hi : i < n) (hD : D.length = (n - i) * 7) :
    DelQ w B l P (some ⟨g, 0, none⟩) n c (.returned (.slice (some ⟨g, 0, none⟩) i c)) (wr.setCells g (i * 7) D) := by
  have e := keptK_all l (fun x => !P x)
  rw [← hn] at e
  have hs := h.size
  have h1 := h.num
  have h2 := h.took
  rw [e] at h1 h2
  have hl := setL_list D cur (i * 7) (by rw [hD, hs]; omega)
  have hll : (cur.toList.take (i * 7)).length = i * 7 := by rw [List.length_take]; simp [hs]; omega
  refine ⟨i, rfl, h1, ⟨by rw [flatP_len]; omega, .inr ⟨g, c, _, rfl, hB, heap_setCells g _ _ wr cur _ _ h.here, by omega, by unfold maxLen; omega, by rw [setL_size]; exact hs, ?_⟩⟩, ?_⟩
  · rw [hl, List.take_append_of_le_length (by omega), List.take_of_length_le (by omega)]
    exact h2
  · exact cg_weak (cg_trans h.chg (cg_cells wr g _ _) (fun _ _ q => q)) (fun k q => by rw [q]; rfl)
set_option maxRecDepth 100000 in
set_option maxHeartbeats 8000000 in
theorem deleteK_any (B : Nat) (l : List Opn) (a : Option Addr) (n c : Nat) (w : World) (F : Nat) (cs : Array Value) (P : Opn → Bool) (hrow : w.ownsRow B 34 7 (.slice a n c) n (flatP l)) (hn : n ≤ 100000) (hA : AskC F cs P w (fun k => (Value.slice a n c).ownBlock = some k)) :
    Calls Try.prog 90 #[.slice a n c, .func (.func F) #[] cs] w (DelQ w B l P a n c) := by
  have hln : n = l.length := by have := hrow.1; rw [flatP_len] at this; omega
  obtain ⟨a', c', hv, g1, g2, g3, g4⟩ := rdP_own hrow
  cases hv
  have HIX : Hid (Calls Try.prog 124 #[.slice a n c, .func (.func F) #[] cs] w fun e w' => ∃ z : Int, e = .returned (.int .i64 z) ∧ ((∃ k : Nat, k < n ∧ (∀ j, j < k → P (l.getD j op0) = false) ∧ P (l.getD k op0) = true ∧ z = (k : Int)) ∨ ((∀ j, j < n → P (l.getD j op0) = false) ∧ z = -1)) ∧ Below w.heap.size w w') := (indexK_any l a n c w F cs P g3 hn hA.ask).mono (by
    rintro e w' ⟨⟨k, h1, h2, h3, rfl⟩ | ⟨h1, rfl⟩, hb⟩
    · exact ⟨_, rfl, .inl ⟨k, h1, h2, h3, rfl⟩, hb⟩
    · exact ⟨_, rfl, .inr ⟨h1, rfl⟩, hb⟩)
  have HQ : Hid (∃ Q : Ending → World → Prop, Q = DelQ w B l P a n c) := ⟨_, rfl⟩
  obtain ⟨Q, hQ⟩ := HQ.out
  have HQQ : Hid (∀ e w', DelQ w B l P a n c e w' → Q e w') := fun e w' q => by rw [hQ]; exact q
  rw [← hQ]
  have HROW : Hid (w.ownsRow B 34 7 (.slice a n c) n (flatP l)) := hrow
  have HLN : Hid (n = l.length) := hln
  have HA : Hid (AskC F cs P w (fun k => (Value.slice a n c).ownBlock = some k)) := hA
  have hcf := hA.1
  have HSTART : Hid (∀ (k : Nat) (w2 : World), k < n → (∀ j, j < k → P (l.getD j op0) = false) → P (l.getD k op0) = true → Below w.heap.size w w2 → ∃ g cur, a = some ⟨g, 0, none⟩ ∧ B ≤ g ∧ n ≤ c ∧ DelS w w2 g c l P k (k + 1) n cur) := by
    intro k w2 hk h1 h2 hb
    rcases hrow.2 with ⟨h0, h9⟩ | ⟨g, cap', cur, hv, hbg, hg, hnc, hm, hs, ht⟩
    · omega
    cases hv
    have e : keptK l (fun x => !P x) k = l.take k := by
      unfold keptK
      rw [List.filter_eq_self]
      intro x hx
      obtain ⟨j, hj, rfl⟩ := List.mem_iff_getElem.1 hx
      rw [List.length_take] at hj
      have := h1 j (by omega)
      simp [show j < l.length by omega] at this
      simp [this]
    have hD : DelS w w2 g c l P k k n cur := ⟨bel_heap hb hg, hs, by rw [e, List.length_take]; omega, by
      rw [e]
      have h5 := (flatP_take l k (by omega)).1
      rw [h5, ← ht, List.take_take]
      congr 1
      omega, fun q q1 q2 => by
      rw [← Array.getElem?_toList, ← ht, List.getElem?_take, if_pos q2], cg_below hb _⟩
    exact ⟨g, cur, rfl, hbg, hnc, delS_skip hD (by omega) h2⟩
  clear HQ hQ hrow hln hA g3 g4 g1
  go_enter Try.func90, Try.ntmps90
  go_upto_region 2 with (go_at_call 124; refine HIX.out.mono ?_; rintro e w2 ⟨z, rfl, hq, hb⟩; have HB2 : Hid (Below w.heap.size w w2) := hb; clear hb)
  rcases hq with ⟨k, hkn, hk1, hk2, rfl⟩ | ⟨hno, rfl⟩
  rotate_left
  · have HE : Hid (Q (.returned (.slice a n c)) w2) := by
      have e : (l.filter fun x => !P x) = l := by
        rw [List.filter_eq_self]
        intro x hx
        obtain ⟨j, hj, rfl⟩ := List.mem_iff_getElem.1 hx
        have := hno j (by have := HLN.out; omega)
        simp [hj] at this
        simp [this]
      refine HQQ.out _ _ ⟨n, rfl, by rw [e]; exact HLN.out, ?_, cg_below HB2.out _⟩
      rw [e]
      exact cg_own (cg_below HB2.out (fun _ => False)) HROW.out (fun _ _ q => q)
    clear hno HSTART HA
    go_wp2
    exact HE.out
  · obtain ⟨g, cur, rfl, hBg, hnc, hds⟩ := HSTART.out k w2 hkn hk1 hk2 HB2.out
    have HDS : Hid (DelS w w2 g c l P k (k + 1) n cur) := hds
    have HBG : Hid (B ≤ g) := hBg
    have HAA : Hid (∀ (o : Opn) (W : World), Chg w W (fun k => k = g) → Calls Try.prog F (#[o.val] ++ cs) W fun e w' => e = .returned (.bool (P o)) ∧ Below W.heap.size W w') := fun o W hW => HA.out.2 o W (cg_weak hW (fun k q => by rw [q]; rfl))
    have HEND : Hid (∀ (i : Nat) (wr : World) (cur : Array Value), i < n → DelS w wr g c l P i n n cur → ∃ D : List Value, (∀ ty, (Builtin.clear_ #[22] ty #[.slice (some ⟨g, i * 7, none⟩) (n - i) (c - i)]).run Try.prog wr = .ok (.tuple #[]) (wr.setCells g (i * 7) D)) ∧ Q (.returned (.slice (some ⟨g, 0, none⟩) i c)) (wr.setCells g (i * 7) D)) := by
      intro i wr cur hi hd
      obtain ⟨D, hD, hr⟩ := clearK g (i * 7) (n - i) (c - i) (by omega)
      refine ⟨D, hr wr (fun j hj => (delS_cell hd _ (by omega)).1) (fun j hj => (delS_cell hd _ (by omega)).2), HQQ.out _ _ (delS_end hd HLN.out hnc g2 hBg hi hD)⟩
    clear hds hk1 hk2 HSTART HA HIX hBg HB2 HQQ HROW
    have hw1 : IntKind.i64.wrap ((k : Int) + 1) = ((k + 1 : Nat) : Int) := by rw [IntKind.wrap_i64]; omega
    have hne : ((k : Int) == -1) = false := by simp
    go_upto_region 5 with fail
    go_loopw [5, 6] (fun x5 x6 wr => ∃ (i j : Nat) (cur : Array Value), x5 = .int .i64 (i : Int) ∧ x6 = .int .i64 (j : Int) ∧ i < j ∧ j ≤ n ∧ DelS w wr g c l P i j n cur) (fun _ x6 _ => n - (intOf x6).toNat)
    case atStart => exact ⟨k, k + 1, cur, rfl, rfl, by omega, by omega, HDS.out⟩
    case round =>
      obtain ⟨i, j, cur, hx5, hx6, hij, hjn, hd⟩ := hrel
      subst hx5 hx6
      have HD : Hid (DelS w wr g c l P i j n cur) := hd
      clear hd HDS
      by_cases hlt : j < n
      · obtain ⟨p, hp⟩ : ∃ p, p = l.getD j op0 := ⟨_, rfl⟩
        obtain ⟨c0, c1, c2, c3, c4, c5, c6⟩ := delS_at HD.out hlt HLN.out p hp
        obtain ⟨W1, hW1⟩ : ∃ W1, W1 = wr.alloc (bxP p) := ⟨_, rfl⟩
        obtain ⟨M, hM⟩ : ∃ M, M = wr.heap.size := ⟨_, rfl⟩
        have hbx : W1.heap[M]? = some (bxP p) := by rw [hW1, hM]; exact heap_alloc_new wr _
        have hb1 : Below wr.heap.size wr W1 := by rw [hW1]; exact (Below.refl _ wr).alloc (Nat.le_refl _) _
        have hd1 := delS_low HD.out hb1
        have HA1 : Calls Try.prog F (#[p.val] ++ cs) W1 fun e w' => e = .returned (.bool (P p)) ∧ w'.heap[M]? = some (bxP p) ∧ DelS w w' g c l P i j n cur := (HAA.out p W1 hd1.chg).mono (by
          rintro e w' ⟨rfl, h2⟩
          exact ⟨rfl, bel_heap h2 hbx, delS_low hd1 h2⟩)
        obtain ⟨q0, q1, q2, q3, q4, q5, q6⟩ := opAt_box hbx
        cases hz : P p
        · rw [hz] at HA1
          have HK : Hid (∀ V, DelS w V g c l P i j n cur → ∃ cur', DelS w (V.setCells g (i * 7) (encP p)) g c l P (i + 1) (j + 1) n cur') := fun V hV => by
            rw [hp]
            exact ⟨_, delS_keep hV (by have := HLN.out; omega) HLN.out hnc hij (by rw [← hp]; exact hz)⟩
          clear hz hp hd1
          obtain ⟨pc, pa, ps, pi, prc, pra, pch⟩ := p
          simp only [Opn.val] at HA1 q0 q1 q2 q3 q4 q5 q6 c0 c1 c2 c3 c4 c5 c6
          go_upto_region 8 with fail
          rw [← hM, ← hW1]
          clear hM hW1
          have HA2 : Hid (Calls Try.prog F (#[.agg #[.int .i64 pc, .int .i64 pa, .int .i64 ps, .bool pi, .int .i64 prc, .int .i64 pra, .int .i32 pch]] ++ cs) W1 fun e w' => e = .returned (.bool false) ∧ w'.heap[M]? = some (bxP ⟨pc, pa, ps, pi, prc, pra, pch⟩) ∧ DelS w w' g c l P i j n cur) := HA1
          have HMX : Hid (∀ V : World, V.heap[M]? = some (bxP ⟨pc, pa, ps, pi, prc, pra, pch⟩) → V.cell? ⟨M, 0, none⟩ = some (.int .i64 pc) ∧ V.cell? ⟨M, 1, none⟩ = some (.int .i64 pa) ∧ V.cell? ⟨M, 2, none⟩ = some (.int .i64 ps) ∧ V.cell? ⟨M, 3, none⟩ = some (.bool pi) ∧ V.cell? ⟨M, 4, none⟩ = some (.int .i64 prc) ∧ V.cell? ⟨M, 5, none⟩ = some (.int .i64 pra) ∧ V.cell? ⟨M, 6, none⟩ = some (.int .i32 pch)) := fun V hV => opAt_box hV
          have hin : i < n := by omega
          have HFZ : Hid (∀ V : World, DelS w V g c l P i j n cur → ((∃ u, V.cell? ⟨g, i * 7, none⟩ = some u) ∧ V.frozen? ⟨g, i * 7, none⟩ = false) ∧ ∀ k, k < 7 → (∃ u, V.cell? ⟨g, i * 7 + k, none⟩ = some u) ∧ V.frozen? ⟨g, i * 7 + k, none⟩ = false) := fun V hV => by
            have hh : ∀ k, k < 7 → (∃ u, V.cell? ⟨g, i * 7 + k, none⟩ = some u) ∧ V.frozen? ⟨g, i * 7 + k, none⟩ = false := fun k hk => by
              have := delS_cell hV (i * 7 + k) (by omega)
              exact ⟨Option.isSome_iff_exists.1 this.1, this.2⟩
            exact ⟨by have := hh 0 (by omega); rwa [Nat.add_zero] at this, hh⟩
          clear HA1 HAA hbx hb1
          go_wp2_with ((with_reducible show Calls _ F _ _ _); refine HA2.out.mono ?_; rintro e w2 ⟨rfl, h1, h2⟩; have HD2 : Hid (DelS w w2 g c l P i j n cur) := h2; obtain ⟨m0, m1, m2, m3, m4, m5, m6⟩ := HMX.out w2 h1; obtain ⟨⟨⟨u0, y0⟩, f0⟩, hff⟩ := HFZ.out w2 h2; obtain ⟨⟨u1, y1⟩, f1⟩ := hff 1 (by omega); obtain ⟨⟨u2, y2⟩, f2⟩ := hff 2 (by omega); obtain ⟨⟨u3, y3⟩, f3⟩ := hff 3 (by omega); obtain ⟨⟨u4, y4⟩, f4⟩ := hff 4 (by omega); obtain ⟨⟨u5, y5⟩, f5⟩ := hff 5 (by omega); obtain ⟨⟨u6, y6⟩, f6⟩ := hff 6 (by omega); clear h1 h2 hff)
          go_roundw
          case rel =>
            obtain ⟨cur', hd'⟩ := HK.out _ HD2.out
            exact ⟨i + 1, j + 1, cur', (by go_num), (by go_num), (by omega), (by omega), hd'⟩
          case measure => simp [intOf]; omega
        · rw [hz] at HA1
          have HK : Hid (∀ V, DelS w V g c l P i j n cur → DelS w V g c l P i (j + 1) n cur) := fun V hV => delS_skip hV (by have := HLN.out; omega) (by rw [← hp]; exact hz)
          clear hz hp hd1
          obtain ⟨pc, pa, ps, pi, prc, pra, pch⟩ := p
          simp only [Opn.val] at HA1 q0 q1 q2 q3 q4 q5 q6 c0 c1 c2 c3 c4 c5 c6
          go_upto_region 8 with fail
          rw [← hM, ← hW1]
          clear hM hW1
          have HA2 : Hid (Calls Try.prog F (#[.agg #[.int .i64 pc, .int .i64 pa, .int .i64 ps, .bool pi, .int .i64 prc, .int .i64 pra, .int .i32 pch]] ++ cs) W1 fun e w' => e = .returned (.bool true) ∧ w'.heap[M]? = some (bxP ⟨pc, pa, ps, pi, prc, pra, pch⟩) ∧ DelS w w' g c l P i j n cur) := HA1
          clear HA1 HAA hbx hb1
          go_wp2_with ((with_reducible show Calls _ F _ _ _); refine HA2.out.mono ?_; rintro e w2 ⟨rfl, h1, h2⟩; have HD2 : Hid (DelS w w2 g c l P i j n cur) := h2; clear h1 h2)
          go_roundw
          case rel => exact ⟨i, j + 1, cur, rfl, (by go_num), (by omega), (by omega), HK.out _ HD2.out⟩
          case measure => simp [intOf]; omega
      · obtain rfl : j = n := by omega
        obtain ⟨D, hcl, hq⟩ := HEND.out i wr cur hij HD.out
        have HE : Hid (Q (.returned (.slice (some ⟨g, 0, none⟩) i c)) (wr.setCells g (i * 7) D)) := hq
        have k1 : ∀ W, (Instr.slice 22 (.slice (some ⟨g, 0, none⟩) j c) (some (.int .i64 i)) none none).run Try.prog W = .ok (.slice (some ⟨g, i * 7, none⟩) (j - i) (c - i)) W := fun W => by
          have := cutP_from g j c i (by omega) hnc W
          rw [if_neg (by omega)] at this
          exact this
        have k2 : ∀ W, (Instr.slice 22 (.slice (some ⟨g, 0, none⟩) j c) none (some (.int .i64 i)) none).run Try.prog W = .ok (.slice (some ⟨g, 0, none⟩) i c) W := fun W => cutP_to _ j c i (by omega) W
        clear hq HAA HEND
        go_wp2
        exact HE.out
end Go.Proofs.Ytcbnmahbdcjamaa
