/- RgaGone: what two who take the same away make; two texts and boxes. -/
import Derived.Test.YtcbnmahbdcjamaaRgTt
import Derived.Deep.MidRow
namespace Go.Proofs.Ytcbnmahbdcjamaa
open Go.RowKit Go.Shelf Go.Maps Go.Sort
set_option linter.unusedVariables false
set_option linter.unusedSimpArgs false

/-- Operations of new authors, each their first, at an element. -/
def NewM (O M : List Opn) : Prop := (∀ m ∈ M, opB m = true ∧ m.s = 1 ∧ hasE O m.ref = true ∧ ∀ o ∈ O, o.a ≠ m.a) ∧ (M.map Opn.a).Nodup
theorem new_step {O M : List Opn} (hv : Rv O) (h : NewM O M) : (j : Nat) → j ≤ M.length → Rv (O ++ M.take j) ∧ ∀ i, i < j → putA (O ++ M.take i) (M.getD i op0) = (true, 0) ∧ putO (O ++ M.take i) (M.getD i op0) = O ++ M.take (i + 1)
  | 0, _ => ⟨by simpa using hv, fun i hi => by omega⟩
  | j + 1, hj => by
    obtain ⟨h1, h2⟩ := new_step hv h j (by omega)
    have hm : M.getD j op0 ∈ M := by simp [List.getD, List.getElem?_eq_getElem (show j < M.length by omega)]
    obtain ⟨g1, g2, g3, g4⟩ := h.1 _ hm
    have ha : ∀ o ∈ O ++ M.take j, o.a ≠ (M.getD j op0).a := by
      intro o ho
      rcases List.mem_append.1 ho with ho | ho
      · exact g4 o ho
      · obtain ⟨q, hq, hqx⟩ := (mem_take_iff _ _ _).1 ho
        intro e
        have hn := h.2
        have e1 : (M.map Opn.a)[q]? = some o.a := by rw [List.getElem?_map, hqx]; rfl
        have e2 : (M.map Opn.a)[j]? = some (M.getD j op0).a := by rw [List.getElem?_map, List.getElem?_eq_getElem (show j < M.length by omega)]; simp [List.getD, List.getElem?_eq_getElem (show j < M.length by omega)]
        rw [e] at e1
        have l1 := (List.getElem?_eq_some_iff.1 e1)
        have l2 := (List.getElem?_eq_some_iff.1 e2)
        obtain ⟨p1, p2⟩ := l1
        obtain ⟨p3, p4⟩ := l2
        have := (List.getElem_inj (h₀ := p1) (h₁ := p3) hn).1 (p2.trans p4.symm)
        omega
    have hr : hasE (O ++ M.take j) (M.getD j op0).ref = true := by
      obtain ⟨p, q1, q2⟩ := (hasE_iff _ _).1 g3
      exact (hasE_iff _ _).2 ⟨p, by simp [q1], q2⟩
    have hput := put_new h1 _ g1 g2 ha (.inr hr)
    have hpo : putO (O ++ M.take j) (M.getD j op0) = O ++ M.take (j + 1) := by
      rw [(put_took (by rw [hput])).1, take_nextR M j (by omega), List.append_assoc]
    refine ⟨by rw [← hpo]; exact rv_put h1 _, fun i hi => ?_⟩
    by_cases hij : i < j
    · exact h2 i hij
    · obtain rfl : i = j := by omega
      exact ⟨hput, hpo⟩
theorem top_le {O : List Opn} : Rv O → topO O ≤ 4294967295 := by
  refine snocR (P := fun O => Rv O → topO O ≤ 4294967295) (fun _ => by show (0 : Int) ≤ 4294967295; omega) (fun O x ih h => ?_) O
  obtain ⟨h1, h2⟩ := rv_front h
  have := ih h1
  have := op_id ((putA_iff _ _).1 h2).1
  rw [topO_snoc]
  omega
/-- One who takes x away, or puts something behind it. -/
def goO (t a : Int) (x : Int × Int) : Opn := ⟨t + 1, a, 1, false, x.1, x.2, 0⟩
def goI (t a : Int) (x : Int × Int) (c : Int) : Opn := ⟨t + 1, a, 1, true, x.1, x.2, c⟩
theorem go_new {O : List Opn} (hv : Rv O) (x : Int × Int) (hx : hasE O x = true) (c : Int) (hc : chB c = true) (ht : topO O < 4294967295) (ha : ∀ o ∈ O, o.a < 4194301) :
    opB (goO (topO O) 4194303 x) = true ∧ opB (goO (topO O) 4194302 x) = true ∧ opB (goI (topO O) 4194301 x c) = true := by
  obtain ⟨p, q1, _, q2⟩ := (hasE_iff _ _).1 hx
  have h1 := op_id (rv_op hv p q1)
  have h2 := top_ge p q1
  have e1 : x.1 = p.c := by rw [← q2]
  have e2 : x.2 = p.a := by rw [← q2]
  have h3 := top_nn O
  have hz : zrB x.1 x.2 = false := by unfold zrB; rw [e1]; simp; omega
  have hi : idB x.1 x.2 = true := by
    unfold idB
    rw [Bool.and_eq_true]
    exact ⟨(cnB_iff _).2 (by omega), (belB_iff _ _).2 (by omega)⟩
  have hi2 : ∀ a : Int, 0 ≤ a → a < 4194304 → idB (topO O + 1) a = true := fun a g1 g2 => by
    unfold idB
    rw [Bool.and_eq_true]
    exact ⟨(cnB_iff _).2 (by omega), (belB_iff _ _).2 (by omega)⟩
  have hl : decide (x.1 < topO O + 1) = true := decide_eq_true (by omega)
  have h1s : cnB 1 = true := (cnB_iff _).2 (by omega)
  refine ⟨?_, ?_, ?_⟩
  · unfold opB rrB ruB goO
    simp only [hi2 4194303 (by omega) (by omega), h1s, hz, hi, hl]
    simp
  · unfold opB rrB ruB goO
    simp only [hi2 4194302 (by omega) (by omega), h1s, hz, hi, hl]
    simp
  · unfold opB rrB ruB goI
    simp only [hi2 4194301 (by omega) (by omega), h1s, hz, hi, hl, hc]
    simp
theorem go_newM {O : List Opn} (hv : Rv O) (x : Int × Int) (hx : hasE O x = true) (c : Int) (hc : chB c = true) (ht : topO O < 4294967295) (ha : ∀ o ∈ O, o.a < 4194301) :
    NewM O [goO (topO O) 4194303 x, goO (topO O) 4194302 x, goI (topO O) 4194301 x c] ∧ NewM O [goI (topO O) 4194301 x c, goO (topO O) 4194302 x, goO (topO O) 4194303 x] := by
  obtain ⟨h1, h2, h3⟩ := go_new hv x hx c hc ht ha
  have q1 : opB (goO (topO O) 4194303 x) = true ∧ (goO (topO O) 4194303 x).s = 1 ∧ hasE O (goO (topO O) 4194303 x).ref = true ∧ ∀ o ∈ O, o.a ≠ (goO (topO O) 4194303 x).a := ⟨h1, rfl, hx, fun o ho => by have := ha o ho; show o.a ≠ 4194303; omega⟩
  have q2 : opB (goO (topO O) 4194302 x) = true ∧ (goO (topO O) 4194302 x).s = 1 ∧ hasE O (goO (topO O) 4194302 x).ref = true ∧ ∀ o ∈ O, o.a ≠ (goO (topO O) 4194302 x).a := ⟨h2, rfl, hx, fun o ho => by have := ha o ho; show o.a ≠ 4194302; omega⟩
  have q3 : opB (goI (topO O) 4194301 x c) = true ∧ (goI (topO O) 4194301 x c).s = 1 ∧ hasE O (goI (topO O) 4194301 x c).ref = true ∧ ∀ o ∈ O, o.a ≠ (goI (topO O) 4194301 x c).a := ⟨h3, rfl, hx, fun o ho => by have := ha o ho; show o.a ≠ 4194301; omega⟩
  constructor
  · refine ⟨fun m hm => ?_, ?_⟩
    · simp only [List.mem_cons, List.not_mem_nil, or_false] at hm
      rcases hm with rfl | rfl | rfl
      · exact q1
      · exact q2
      · exact q3
    · show [4194303, 4194302, (4194301 : Int)].Nodup
      decide
  · refine ⟨fun m hm => ?_, ?_⟩
    · simp only [List.mem_cons, List.not_mem_nil, or_false] at hm
      rcases hm with rfl | rfl | rfl
      · exact q3
      · exact q2
      · exact q1
    · show [4194301, 4194302, (4194303 : Int)].Nodup
      decide
/-- What is told at the end. -/
theorem go_end {O : List Opn} (hv : Rv O) (x : Int × Int) (hx : hasE O x = true) (c : Int) (hc : chB c = true) (ht : topO O < 4294967295) (ha : ∀ o ∈ O, o.a < 4194301) :
    els (O ++ [goO (topO O) 4194303 x, goO (topO O) 4194302 x, goI (topO O) 4194301 x c]) = els (O ++ [goI (topO O) 4194301 x c, goO (topO O) 4194302 x, goO (topO O) 4194303 x]) ∧
    aliveE (O ++ [goO (topO O) 4194303 x, goO (topO O) 4194302 x, goI (topO O) 4194301 x c]) x = false ∧ aliveE (O ++ [goO (topO O) 4194303 x, goO (topO O) 4194302 x, goI (topO O) 4194301 x c]) (topO O + 1, 4194301) = true := by
  obtain ⟨h1, h2⟩ := go_newM hv x hx c hc ht ha
  have r1 := (new_step hv h1 3 (Nat.le_refl _)).1
  have r2 := (new_step hv h2 3 (Nat.le_refl _)).1
  have hxe : x ≠ (topO O + 1, 4194301) := by
    obtain ⟨p, q1, _, q2⟩ := (hasE_iff _ _).1 hx
    have := top_ge p q1
    intro e
    have e1 : x.1 = p.c := by rw [← q2]
    have e2 : x.1 = topO O + 1 := by rw [e]
    omega
  refine ⟨els_ext r1 r2 fun o => ?_, ?_, ?_⟩
  · simp only [List.take_succ_cons, List.take_zero, List.mem_append, List.mem_cons, List.not_mem_nil, or_false]
    constructor
    · rintro (h | h | h | h)
      · exact .inl h
      · exact .inr (.inr (.inr h))
      · exact .inr (.inr (.inl h))
      · exact .inr (.inl h)
    · rintro (h | h | h | h)
      · exact .inl h
      · exact .inr (.inr (.inr h))
      · exact .inr (.inr (.inl h))
      · exact .inr (.inl h)
  · have : deadE (O ++ [goO (topO O) 4194303 x, goO (topO O) 4194302 x, goI (topO O) 4194301 x c]) x = true := (deadE_iff _ _).2 ⟨goO (topO O) 4194303 x, by simp, rfl, rfl⟩
    unfold aliveE
    rw [this]
    simp
  · have g1 : hasE (O ++ [goO (topO O) 4194303 x, goO (topO O) 4194302 x, goI (topO O) 4194301 x c]) (topO O + 1, 4194301) = true := (hasE_iff _ _).2 ⟨goI (topO O) 4194301 x c, by simp, rfl, rfl⟩
    have g2 : deadE (O ++ [goO (topO O) 4194303 x, goO (topO O) 4194302 x, goI (topO O) 4194301 x c]) (topO O + 1, 4194301) = false := by
      cases h : deadE (O ++ [goO (topO O) 4194303 x, goO (topO O) 4194302 x, goI (topO O) 4194301 x c]) (topO O + 1, 4194301)
      · rfl
      · exfalso
        obtain ⟨o, p1, p2, p3⟩ := (deadE_iff _ _).1 h
        rcases List.mem_append.1 p1 with p1 | p1
        · have := top_ge o p1
          have e1 : o.rc = topO O + 1 := congrArg Prod.fst p3
          rcases op_ref (rv_op hv o p1) with ⟨q, _⟩ | ⟨_, _, q, _⟩
          · have : o.rc = 0 := congrArg Prod.fst q
            have := top_nn O
            omega
          · omega
        · simp only [List.mem_cons, List.not_mem_nil, or_false] at p1
          rcases p1 with rfl | rfl | rfl
          · exact hxe p3
          · exact hxe p3
          · cases p2
    unfold aliveE
    rw [g1, g2]
    rfl
/-- Two texts, and boxes that stay. -/
def GoS (w W : World) (P : Nat) (O : List Opn) (Q : Nat) (B : List Opn) (bx : List (Nat × Obj)) : Prop :=
  TtS w W P O Q B (fun k => ∃ o, (k, o) ∈ bx) ∧ ∀ k o, (k, o) ∈ bx → W.heap[k]? = some o
theorem GoS.later {w W W' : World} {P Q : Nat} {O B : List Opn} {bx : List (Nat × Obj)} (h : GoS w W P O Q B bx) (hb : Below W.heap.size W W') : GoS w W' P O Q B bx :=
  ⟨h.1.later hb, fun k o hk => (hb.block k (Array.getElem?_eq_some_iff.1 (h.2 k o hk)).1).trans (h.2 k o hk)⟩
theorem GoS.put1 {w W : World} {P Q : Nat} {O B : List Opn} {bx : List (Nat × Obj)} (h : GoS w W P O Q B bx) (x : Opn) (hl : O.length ≤ 99000) :
    Calls Try.prog 12 #[.pointer (some ⟨P, 0, none⟩), .agg #[.int .i64 x.c, .int .i64 x.a, .int .i64 x.s, .bool x.ins, .int .i64 x.rc, .int .i64 x.ra, .int .i32 x.ch]] W fun e w' => e = .returned (.tuple #[.bool (putA O x).1, .int .i64 (putA O x).2]) ∧ GoS w w' P (putO O x) Q B bx :=
  (tt_put1 h.1 x hl).mono fun e w' q => ⟨q.1, q.2.1, fun k o hk => (q.2.2.1 k ⟨o, hk⟩).trans (h.2 k o hk)⟩
theorem GoS.swap {w W : World} {P Q : Nat} {O B : List Opn} {bx : List (Nat × Obj)} (h : GoS w W P O Q B bx) : GoS w W Q B P O bx := ⟨h.1.swap, h.2⟩
theorem GoS.put2 {w W : World} {P Q : Nat} {O B : List Opn} {bx : List (Nat × Obj)} (h : GoS w W P O Q B bx) (x : Opn) (hl : B.length ≤ 99000) :
    Calls Try.prog 12 #[.pointer (some ⟨Q, 0, none⟩), .agg #[.int .i64 x.c, .int .i64 x.a, .int .i64 x.s, .bool x.ins, .int .i64 x.rc, .int .i64 x.ra, .int .i32 x.ch]] W fun e w' => e = .returned (.tuple #[.bool (putA B x).1, .int .i64 (putA B x).2]) ∧ GoS w w' P O Q (putO B x) bx :=
  (h.swap.put1 x hl).mono fun e w' q => ⟨q.1, q.2.swap⟩
/-- A box more. -/
theorem GoS.box {w W : World} {P Q : Nat} {O B : List Opn} {bx : List (Nat × Obj)} (h : GoS w W P O Q B bx) (o : Obj) : GoS w (W.alloc o) P O Q B ((W.heap.size, o) :: bx) := by
  have hb : Below W.heap.size W (W.alloc o) := (Below.refl _ W).alloc (Nat.le_refl _) o
  refine ⟨h.1.more hb (fun k hk => ?_), fun k p hk => ?_⟩
  · obtain ⟨p, hp⟩ := hk
    rcases List.mem_cons.1 hp with hp | hp
    · cases hp; exact .inr ⟨Nat.le_refl _, by simp⟩
    · exact .inl ⟨p, hp⟩
  · rcases List.mem_cons.1 hk with hk | hk
    · cases hk; exact heap_alloc_new W o
    · exact (h.later hb).2 k p hk
/-- The cells of an operation's box. -/
abbrev bxG (o : Opn) : Obj := .cells #[.int .i64 o.c, .int .i64 o.a, .int .i64 o.s, .bool o.ins, .int .i64 o.rc, .int .i64 o.ra, .int .i32 o.ch] 34 (0, 0)
theorem cellsG {W : World} {X : Nat} {o : Opn} (h : W.heap[X]? = some (bxG o)) : W.cell? ⟨X, 0, none⟩ = some (.int .i64 o.c) ∧ W.cell? ⟨X, 1, none⟩ = some (.int .i64 o.a) ∧ W.cell? ⟨X, 2, none⟩ = some (.int .i64 o.s) ∧ W.cell? ⟨X, 3, none⟩ = some (.bool o.ins) ∧ W.cell? ⟨X, 4, none⟩ = some (.int .i64 o.rc) ∧ W.cell? ⟨X, 5, none⟩ = some (.int .i64 o.ra) ∧ W.cell? ⟨X, 6, none⟩ = some (.int .i32 o.ch) :=
  ⟨cell_of_row W X 0 _ _ _ h, cell_of_row W X 1 _ _ _ h, cell_of_row W X 2 _ _ _ h, cell_of_row W X 3 _ _ _ h, cell_of_row W X 4 _ _ _ h, cell_of_row W X 5 _ _ _ h, cell_of_row W X 6 _ _ _ h⟩
theorem cells2G {W : World} {X : Nat} {u v : Value} {t : TypeId} (h : W.heap[X]? = some (.cells #[u, v] t)) : W.cell? ⟨X, 0, none⟩ = some u ∧ W.cell? ⟨X, 1, none⟩ = some v :=
  ⟨cell_of_row W X 0 _ _ _ h, cell_of_row W X 1 _ _ _ h⟩
/-- Three operations in a row. -/
theorem rd3 {W : World} {X : Nat} {p q r : Opn} (h : W.heap[X]? = some (.cells #[.int .i64 p.c, .int .i64 p.a, .int .i64 p.s, .bool p.ins, .int .i64 p.rc, .int .i64 p.ra, .int .i32 p.ch, .int .i64 q.c, .int .i64 q.a, .int .i64 q.s, .bool q.ins, .int .i64 q.rc, .int .i64 q.ra, .int .i32 q.ch, .int .i64 r.c, .int .i64 r.a, .int .i64 r.s, .bool r.ins, .int .i64 r.rc, .int .i64 r.ra, .int .i32 r.ch] 34)) : RdP W (some ⟨X, 0, none⟩) 3 [p, q, r] := by
  refine ⟨rfl, fun _ => ⟨X, 0, rfl, fun j u hu => ?_⟩⟩
  rw [Nat.zero_add, cell_of_row W X j _ _ _ h]
  have e : flatP [p, q, r] = (#[.int .i64 p.c, .int .i64 p.a, .int .i64 p.s, .bool p.ins, .int .i64 p.rc, .int .i64 p.ra, .int .i32 p.ch, .int .i64 q.c, .int .i64 q.a, .int .i64 q.s, .bool q.ins, .int .i64 q.rc, .int .i64 q.ra, .int .i32 q.ch, .int .i64 r.c, .int .i64 r.a, .int .i64 r.s, .bool r.ins, .int .i64 r.rc, .int .i64 r.ra, .int .i32 r.ch] : Array Value).toList := rfl
  rw [e] at hu
  simpa using hu
theorem cg_cellsG (w : World) (g o : Nat) (D : List Value) : Chg w (w.setCells g o D) (fun k => k = g) := by
  obtain ⟨s1, s2, s3, s4⟩ := size_setCells g D o w
  exact ⟨s2, s3, s4, by rw [s1]; exact Nat.le_refl _, fun k _ hq => heap_setCells_other g k hq D o w⟩
theorem set_boxG (w : World) (b : Nat) (p q : Opn) (h : w.heap[b]? = some (bxG q)) : (w.setCells b 0 (encP p)).heap[b]? = some (bxG p) := by
  rw [heap_setCells b (encP p) 0 w _ _ _ h]
  have : setL #[.int .i64 q.c, .int .i64 q.a, .int .i64 q.s, .bool q.ins, .int .i64 q.rc, .int .i64 q.ra, .int .i32 q.ch] 0 (encP p) = #[.int .i64 p.c, .int .i64 p.a, .int .i64 p.s, .bool p.ins, .int .i64 p.rc, .int .i64 p.ra, .int .i32 p.ch] := by
    simp [encP, setL]
  rw [this]
theorem thereG {w : World} {b : Nat} {q : Opn} (h : w.heap[b]? = some (bxG q)) : w.there b 0 7 := by
  intro j hj
  refine ⟨?_, Lib.frozen_of_heap h _⟩
  rw [cell_of_row w b (0 + j) _ _ _ h, Array.getElem?_eq_getElem (by show 0 + j < 7; omega)]
  rfl
/-- A box is made, and written. -/
theorem box_alloc {w0 w : World} (hb : Below w0.heap.size w0 w) : Below w0.heap.size w0 (w.alloc (bxG op0)) ∧ w0.heap.size ≤ w.heap.size ∧ (w.alloc (bxG op0)).heap[w.heap.size]? = some (bxG op0) := ⟨hb.alloc hb.size _, hb.size, heap_alloc_new w _⟩
theorem box_set {w0 w : World} {N : Nat} {p q : Opn} (hb : Below w0.heap.size w0 w) (hN : w0.heap.size ≤ N) (h : w.heap[N]? = some (bxG q)) : Below w0.heap.size w0 (w.setCells N 0 (encP p)) ∧ (w.setCells N 0 (encP p)).heap[N]? = some (bxG p) :=
  ⟨hb.trans (cg_bel (cg_cellsG w N 0 (encP p)) hb.size (fun k q => by subst q; exact hN)), set_boxG w N p q h⟩
theorem gw_keep {w W : World} {N : Nat} {o : Obj} (hg : Gw w W) (h : w.heap[N]? = some o) : W.heap[N]? = some o := (hg.below.block N (Array.getElem?_eq_some_iff.1 h).1).trans h
end Go.Proofs.Ytcbnmahbdcjamaa
