/- The walks of the statements' all and shown. -/
import Derived.Test.YtcbnmahbdcjamaaHoJ
namespace Go.Proofs.Ytcbnmahbdcjamaa
open Go.RowKit Go.Sort
set_option linter.unusedVariables false
set_option linter.unusedSimpArgs false

theorem all_any (o : Opn) (W : World) : Calls Try.prog 86 #[o.val] W fun e w' => e = .returned (.bool true) ∧ Below W.heap.size W w' := by
  have HB : Hid (∀ x : Obj, Below W.heap.size W (W.alloc x)) := fun x => (Below.refl _ W).alloc (Nat.le_refl _) x
  obtain ⟨oc, oa, os, oi, orc, ora, och⟩ := o
  simp only [Opn.val]
  go_enter Try.func86, Try.ntmps86
  go_wp2
  go_ret
  exact ⟨rfl, HB.out _⟩
theorem ask_all (w : World) : Ask 86 #[] (fun _ => true) w :=
  ⟨fun x W => enter_of Try.func86 (by kernel_rfl) (by kernel_rfl) x W, fun o W _ => all_any o W⟩
theorem HoL.cell {w0 w w' : World} {P r : Nat} {l : List Opn} {hs : Nat → Prop} (h : HoL w0 w w' P r l hs) {k : Nat} {o : Obj} (hk : hs k) (ho : w.heap[k]? = some o) : w'.heap[k]? = some o := (h.2.1 k hk).trans ho
/-- A box is written over. -/
theorem set_boxK (w : World) (b : Nat) (p q : Opn) (h : w.heap[b]? = some (bxP q)) : (w.setCells b 0 (encP p)).heap[b]? = some (bxP p) := by
  rw [heap_setCells b (encP p) 0 w _ _ _ h]
  have : setL #[.int .i64 q.c, .int .i64 q.a, .int .i64 q.s, .bool q.ins, .int .i64 q.rc, .int .i64 q.ra, .int .i32 q.ch] 0 (encP p) = #[.int .i64 p.c, .int .i64 p.a, .int .i64 p.s, .bool p.ins, .int .i64 p.rc, .int .i64 p.ra, .int .i32 p.ch] := by
    simp [encP, setL]
  rw [this]
def exX : Opn := ⟨3, 5, 2, false, 0, 0, 0⟩
def exY : Opn := ⟨1, 5, 1, false, 0, 0, 0⟩
abbrev bxX : Obj := .cells #[.int .i64 3, .int .i64 5, .int .i64 2, .bool false, .int .i64 0, .int .i64 0, .int .i32 0] 34 (0, 0)
abbrev bxY : Obj := .cells #[.int .i64 1, .int .i64 5, .int .i64 1, .bool false, .int .i64 0, .int .i64 0, .int .i32 0] 34 (0, 0)
theorem cellsX {W : World} {k : Nat} (h : W.heap[k]? = some bxX) : W.cell? ⟨k, 0, none⟩ = some (.int .i64 3) ∧ W.cell? ⟨k, 1, none⟩ = some (.int .i64 5) ∧ W.cell? ⟨k, 2, none⟩ = some (.int .i64 2) ∧ W.cell? ⟨k, 3, none⟩ = some (.bool false) ∧ W.cell? ⟨k, 4, none⟩ = some (.int .i64 0) ∧ W.cell? ⟨k, 5, none⟩ = some (.int .i64 0) ∧ W.cell? ⟨k, 6, none⟩ = some (.int .i32 0) := opAt_box (o := exX) h
theorem cellsY {W : World} {k : Nat} (h : W.heap[k]? = some bxY) : W.cell? ⟨k, 0, none⟩ = some (.int .i64 1) ∧ W.cell? ⟨k, 1, none⟩ = some (.int .i64 5) ∧ W.cell? ⟨k, 2, none⟩ = some (.int .i64 1) ∧ W.cell? ⟨k, 3, none⟩ = some (.bool false) ∧ W.cell? ⟨k, 4, none⟩ = some (.int .i64 0) ∧ W.cell? ⟨k, 5, none⟩ = some (.int .i64 0) ∧ W.cell? ⟨k, 6, none⟩ = some (.int .i32 0) := opAt_box (o := exY) h
set_option maxRecDepth 100000 in
set_option maxHeartbeats 8000000 in
theorem shown16_any (w : World) : Calls Try.prog 35 #[] w fun e w' => e = .returned (.bool true) ∧ Below w.heap.size w w' := by
  have HN : Hid (∀ W, Below w.heap.size w W → Calls Try.prog 36 #[.int .i64 1] W fun e w' => ∃ P, e = .returned (.pointer (some ⟨P, 0, none⟩)) ∧ HoO w w' P 1 [] (fun _ => False)) := fun W hW => (h_new hW 1 (by omega) (fun _ => False) (fun _ h => h.elim)).mono (by
    rintro e w' ⟨P, rfl, q1, _⟩
    exact ⟨P, rfl, q1⟩)
  have HB0 : Hid (Below w.heap.size w w) := Below.refl _ _
  go_enter Try.func35, Try.ntmps35
  go_upto_region 6 with (go_at_call 36; refine (HN.out _ HB0.out).mono ?_; rintro e w1 ⟨P, rfl, h1⟩; have HS1 : Hid (HoO w w1 P 1 [] (fun _ => False)) := h1; clear h1)
  obtain ⟨W2, hW2⟩ : ∃ W2, W2 = (w1.alloc bxX).alloc bxY := ⟨_, rfl⟩
  obtain ⟨X, hX⟩ : ∃ X, X = w1.heap.size := ⟨_, rfl⟩
  obtain ⟨Y, hY⟩ : ∃ Y, Y = w1.heap.size + 1 := ⟨_, rfl⟩
  obtain ⟨hs, hhs⟩ : ∃ hs : Nat → Prop, hs = fun k => k = X ∨ k = Y := ⟨_, rfl⟩
  have hx2 : W2.heap[X]? = some bxX := by
    rw [hW2, hX]
    exact (((Below.refl _ _).alloc (Nat.le_refl _) _).block w1.heap.size (by simp)).trans (heap_alloc_new w1 _)
  have hy2 : W2.heap[Y]? = some bxY := by
    rw [hW2, hY]
    have := heap_alloc_new (w1.alloc bxX) bxY
    simpa using this
  have HS2 : Hid (HoO w W2 P 1 [] hs ∧ W2.heap[X]? = some bxX ∧ W2.heap[Y]? = some bxY) := ⟨HS1.out.more (by rw [hW2]; exact ((Below.refl _ w1).alloc (Nat.le_refl _) _).alloc (by simp) _) (fun k hk => by
    rw [hhs] at hk
    have : W2.heap.size = w1.heap.size + 2 := by rw [hW2]; simp
    rcases hk with rfl | rfl <;> omega), hx2, hy2⟩
  have HKX : Hid (hs X ∧ hs Y) := by
    have : hs X ∧ hs Y := by rw [hhs]; exact ⟨.inl rfl, .inr rfl⟩
    exact this
  have HA1 : Hid (∀ W, HoO w W P 1 [] hs ∧ W.heap[X]? = some bxX ∧ W.heap[Y]? = some bxY → Calls Try.prog 46 #[.pointer (some ⟨P, 0, none⟩), .agg #[.int .i64 3, .int .i64 5, .int .i64 2, .bool false, .int .i64 0, .int .i64 0, .int .i32 0]] W fun e w' => e = .returned (.int .i64 0) ∧ HoO w w' P 1 [exX] hs ∧ w'.heap[X]? = some bxX ∧ w'.heap[Y]? = some bxY) := fun W h => (h_add h.1 exX (by simp)).mono (by
    rintro e w' ⟨rfl, q⟩
    exact ⟨rfl, q.1, q.cell HKX.out.1 h.2.1, q.cell HKX.out.2 h.2.2⟩)
  have HA2 : Hid (∀ W, HoO w W P 1 [exX] hs ∧ W.heap[X]? = some bxX ∧ W.heap[Y]? = some bxY → Calls Try.prog 46 #[.pointer (some ⟨P, 0, none⟩), .agg #[.int .i64 3, .int .i64 5, .int .i64 2, .bool false, .int .i64 0, .int .i64 0, .int .i32 0]] W fun e w' => e = .returned (.int .i64 0) ∧ HoO w w' P 1 [exX] hs ∧ w'.heap[X]? = some bxX ∧ w'.heap[Y]? = some bxY) := fun W h => (h_add h.1 exX (by simp)).mono (by
    rintro e w' ⟨rfl, q⟩
    exact ⟨rfl, q.1, q.cell HKX.out.1 h.2.1, q.cell HKX.out.2 h.2.2⟩)
  have HA3 : Hid (∀ W, HoO w W P 1 [exX] hs ∧ W.heap[X]? = some bxX ∧ W.heap[Y]? = some bxY → Calls Try.prog 46 #[.pointer (some ⟨P, 0, none⟩), .agg #[.int .i64 1, .int .i64 5, .int .i64 1, .bool false, .int .i64 0, .int .i64 0, .int .i32 0]] W fun e w' => e = .returned (.int .i64 8) ∧ HoO w w' P 1 [exX] hs ∧ w'.heap[X]? = some bxX ∧ w'.heap[Y]? = some bxY) := fun W h => (h_add h.1 exY (by simp)).mono (by
    rintro e w' ⟨rfl, q⟩
    exact ⟨rfl, q.1, q.cell HKX.out.1 h.2.1, q.cell HKX.out.2 h.2.2⟩)
  have HH1 : Hid (∀ W, HoO w W P 1 [exX] hs ∧ W.heap[X]? = some bxX ∧ W.heap[Y]? = some bxY → Calls Try.prog 44 #[.pointer (some ⟨P, 0, none⟩), .int .i64 5, .int .i64 2] W fun e w' => e = .returned (.bool true) ∧ HoO w w' P 1 [exX] hs ∧ w'.heap[X]? = some bxX ∧ w'.heap[Y]? = some bxY) := fun W h => (h_has h.1 5 2).mono (by
    rintro e w' ⟨rfl, q⟩
    exact ⟨rfl, h.1.later q, bel_heap q h.2.1, bel_heap q h.2.2⟩)
  have HH2 : Hid (∀ W, HoO w W P 1 [exX] hs ∧ W.heap[X]? = some bxX ∧ W.heap[Y]? = some bxY → Calls Try.prog 44 #[.pointer (some ⟨P, 0, none⟩), .int .i64 5, .int .i64 1] W fun e w' => e = .returned (.bool false) ∧ HoO w w' P 1 [exX] hs ∧ w'.heap[X]? = some bxX ∧ w'.heap[Y]? = some bxY) := fun W h => (h_has h.1 5 1).mono (by
    rintro e w' ⟨rfl, q⟩
    exact ⟨rfl, h.1.later q, bel_heap q h.2.1, bel_heap q h.2.2⟩)
  have HLE : Hid (∀ W l, HoO w W P 1 l hs ∧ W.heap[X]? = some bxX ∧ W.heap[Y]? = some bxY → Calls Try.prog 51 #[.pointer (some ⟨P, 0, none⟩)] W fun e w' => e = .returned (.int .i64 (l.length : Int)) ∧ w' = W) := fun W l h => h_len h.1
  have HRO : Hid (∀ W l, HoO w W P 1 l hs ∧ W.heap[X]? = some bxX ∧ W.heap[Y]? = some bxY → Calls Try.prog 52 #[.pointer (some ⟨P, 0, none⟩)] W fun e w' => e = .returned (.int .i64 (1 - (l.length : Int))) ∧ w' = W.drew) := fun W l h => h_room h.1
  have HR1 : Hid (∀ W, HoO w W P 1 [exX] hs ∧ W.heap[X]? = some bxX ∧ W.heap[Y]? = some bxY → Calls Try.prog 39 #[.pointer (some ⟨P, 0, none⟩), .func (.func 86) #[] #[]] W fun e w' => e = .returned (.tuple #[.agg #[.int .i64 3, .int .i64 5, .int .i64 2, .bool false, .int .i64 0, .int .i64 0, .int .i32 0], .bool true]) ∧ HoO w w' P 1 [] hs ∧ w'.heap[X]? = some bxX ∧ w'.heap[Y]? = some bxY) := fun W h => (h_ready h.1 _ _ _ (ask_all W)).mono (by
    rintro e w' (⟨o, ho, rfl, q⟩ | ⟨hn, _⟩)
    · obtain rfl : exX = o := by simpa using ho
      exact ⟨rfl, q.1, q.cell HKX.out.1 h.2.1, q.cell HKX.out.2 h.2.2⟩
    · simp at hn)
  have HR2 : Hid (∀ W, HoO w W P 1 [] hs ∧ W.heap[X]? = some bxX ∧ W.heap[Y]? = some bxY → Calls Try.prog 39 #[.pointer (some ⟨P, 0, none⟩), .func (.func 86) #[] #[]] W fun e w' => e = .returned (.tuple #[.agg #[.int .i64 0, .int .i64 0, .int .i64 0, .bool false, .int .i64 0, .int .i64 0, .int .i32 0], .bool false]) ∧ HoO w w' P 1 [] hs ∧ w'.heap[X]? = some bxX ∧ w'.heap[Y]? = some bxY ∧ Below W.heap.size W w') := fun W h => (h_ready h.1 _ _ _ (ask_all W)).mono (by
    rintro e w' (⟨o, ho, _⟩ | ⟨_, rfl, q⟩)
    · simp at ho
    · exact ⟨rfl, h.1.later q, bel_heap q h.2.1, bel_heap q h.2.2, q⟩)
  obtain ⟨x0, x1, x2, x3, x4, x5, x6⟩ := cellsX hx2
  rw [← hY, ← hX, ← hW2]
  clear hX hY hW2 hhs hx2 hy2
  go_upto_region 7 with (go_at_call 46; refine (HA1.out _ HS2.out).mono ?_; rintro e w3 ⟨rfl, h1, h2, h3⟩; have HSw3 : Hid (HoO w w3 P 1 [exX] hs ∧ w3.heap[X]? = some bxX ∧ w3.heap[Y]? = some bxY) := ⟨h1, h2, h3⟩; obtain ⟨x0, x1, x2, x3, x4, x5, x6⟩ := cellsX h2; clear h1 h2 h3)
  clear HS2
  go_upto_region 8 with (go_at_call 46; refine (HA2.out _ HSw3.out).mono ?_; rintro e w4 ⟨rfl, h1, h2, h3⟩; have HSw4 : Hid (HoO w w4 P 1 [exX] hs ∧ w4.heap[X]? = some bxX ∧ w4.heap[Y]? = some bxY) := ⟨h1, h2, h3⟩; obtain ⟨x0, x1, x2, x3, x4, x5, x6⟩ := cellsY h3; clear h1 h2 h3)
  clear HSw3
  go_upto_region 9 with (go_at_call 46; refine (HA3.out _ HSw4.out).mono ?_; rintro e w5 ⟨rfl, h1, h2, h3⟩; have HSw5 : Hid (HoO w w5 P 1 [exX] hs ∧ w5.heap[X]? = some bxX ∧ w5.heap[Y]? = some bxY) := ⟨h1, h2, h3⟩; clear h1 h2 h3)
  clear HSw4
  go_upto_region 10 with (first
    | (go_at_call 52; refine (HRO.out _ _ HSw7.out).mono ?_; rintro e w8 ⟨rfl, h1⟩; have h1 := h1.symm; subst h1)
    | (go_at_call 51; refine (HLE.out _ _ HSw7.out).mono ?_; rintro e w8 ⟨rfl, h1⟩; have h1 := h1.symm; subst h1)
    | (go_at_call 44; refine (HH2.out _ HSw6.out).mono ?_; rintro e w7 ⟨rfl, h1, h2, h3⟩; have HSw7 : Hid (HoO w w7 P 1 [exX] hs ∧ w7.heap[X]? = some bxX ∧ w7.heap[Y]? = some bxY) := ⟨h1, h2, h3⟩; clear h1 h2 h3)
    | (go_at_call 44; refine (HH1.out _ HSw5.out).mono ?_; rintro e w6 ⟨rfl, h1, h2, h3⟩; have HSw6 : Hid (HoO w w6 P 1 [exX] hs ∧ w6.heap[X]? = some bxX ∧ w6.heap[Y]? = some bxY) := ⟨h1, h2, h3⟩; clear h1 h2 h3))
  have HS7 : Hid (HoO w w7.drew P 1 [exX] hs ∧ w7.drew.heap[X]? = some bxX ∧ w7.drew.heap[Y]? = some bxY) := ⟨HSw7.out.1.later ((Below.refl _ _).drew), HSw7.out.2⟩
  clear HSw7 HSw6 HSw5
  go_upto_region 11 with (go_at_call 39; refine (HR1.out _ HS7.out).mono ?_; rintro e w8 ⟨rfl, h1, h2, h3⟩; have HS8 : Hid (HoO w w8 P 1 [] hs ∧ w8.heap[X]? = some bxX ∧ w8.heap[Y]? = some bxY) := ⟨h1, h2, h3⟩; clear h1 h2 h3)
  obtain ⟨W9, hW9⟩ : ∃ W9, W9 = w8.alloc bxX := ⟨_, rfl⟩
  obtain ⟨Z, hZ⟩ : ∃ Z, Z = w8.heap.size := ⟨_, rfl⟩
  have hb9 : Below w8.heap.size w8 W9 := by rw [hW9]; exact (Below.refl _ w8).alloc (Nat.le_refl _) _
  have HS9 : Hid ((HoO w W9 P 1 [] hs ∧ W9.heap[X]? = some bxX ∧ W9.heap[Y]? = some bxY) ∧ W9.heap[Z]? = some bxX) := ⟨⟨HS8.out.1.later hb9, bel_heap hb9 HS8.out.2.1, bel_heap hb9 HS8.out.2.2⟩, by rw [hW9, hZ]; exact heap_alloc_new w8 _⟩
  rw [← hZ, ← hW9]
  clear hZ hW9 hb9 HS8 HS7
  go_upto_region 12 with (go_at_call 39; refine (HR2.out _ HS9.out.1).mono ?_; rintro e w10 ⟨rfl, h1, h2, h3, h4⟩; have HS10 : Hid (HoO w w10 P 1 [] hs ∧ w10.heap[X]? = some bxX ∧ w10.heap[Y]? = some bxY) := ⟨h1, h2, h3⟩; have HZ10 : Hid (w10.heap[Z]? = some bxX) := bel_heap h4 HS9.out.2; clear h1 h2 h3 h4)
  obtain ⟨W11, hW11⟩ : ∃ W11, W11 = w10.alloc (.cells #[.int .i64 0, .int .i64 0, .int .i64 0, .bool false, .int .i64 0, .int .i64 0, .int .i32 0] 34) := ⟨_, rfl⟩
  have hb : Below w10.heap.size w10 W11 := by rw [hW11]; exact (Below.refl _ w10).alloc (Nat.le_refl _) _
  have HS11 : Hid (HoO w W11 P 1 [] hs ∧ W11.heap[X]? = some bxX ∧ W11.heap[Y]? = some bxY) := ⟨HS10.out.1.later hb, bel_heap hb HS10.out.2.1, bel_heap hb HS10.out.2.2⟩
  obtain ⟨x0, x1, x2, x3, x4, x5, x6⟩ := cellsX HS11.out.2.1
  obtain ⟨z0, z1, z2, z3, z4, z5, z6⟩ := cellsX (bel_heap hb HZ10.out)
  rw [← hW11]
  clear hW11 hb HZ10
  clear HS10 HS9
  go_wp2_with (first
    | (go_at_call 52; refine (HRO.out _ _ HS11.out).mono ?_; rintro e w8 ⟨rfl, h1⟩; have h1 := h1.symm; subst h1)
    | (go_at_call 51; refine (HLE.out _ _ HS11.out).mono ?_; rintro e w8 ⟨rfl, h1⟩; have h1 := h1.symm; subst h1))
  go_ret
  exact ⟨rfl, HS11.out.1.below.drew⟩
end Go.Proofs.Ytcbnmahbdcjamaa
