/- The walks of ident's functions of IDs and operations: Less, rightID, rightRef, rightRune, Right. -/
import Derived.Test.YtcbnmahbdcjamaaIdA
namespace Go.Proofs.Ytcbnmahbdcjamaa
open Go.RowKit Go.Sort
set_option linter.unusedVariables false

/-- The order of IDs. -/
def lsB (a1 a2 b1 b2 : Int) : Bool := decide (a1 < b1) || (decide (a1 = b1) && decide (a2 < b2))
theorem less_any (a1 a2 b1 b2 : Int) (w : World) : Calls Try.prog 106 #[.agg #[.int .i64 a1, .int .i64 a2], .agg #[.int .i64 b1, .int .i64 b2]] w fun e w' => e = .returned (.bool (lsB a1 a2 b1 b2)) ∧ Gw w w' := by
  obtain ⟨R, hR⟩ : ∃ R, R = lsB a1 a2 b1 b2 := ⟨_, rfl⟩
  rw [← hR]
  unfold lsB at hR
  have HG : Hid (∀ o o2 : Obj, Gw w ((w.alloc o).alloc o2)) := fun o o2 => (gw_alloc w o).alloc o2
  rcases Int.lt_trichotomy a1 b1 with h | h | h
  · have h2 : ¬ a1 = b1 := by omega
    simp only [h, decide_true, Bool.true_or] at hR
    subst hR
    go_enter Try.func106, Try.ntmps106
    go_wp2
    go_ret
    exact ⟨rfl, HG.out _ _⟩
  · subst h
    have h2 : ¬ a1 < a1 := by omega
    simp only [h2, decide_true, decide_false, Bool.false_or, Bool.true_and] at hR
    clear h2
    by_cases h3 : a2 < b2
    all_goals
      simp only [h3, decide_true, decide_false] at hR
      subst hR
      go_enter Try.func106, Try.ntmps106
      go_wp2
      go_ret
      exact ⟨rfl, HG.out _ _⟩
  · have h2 : ¬ a1 = b1 := by omega
    have h3 : ¬ a1 < b1 := by omega
    simp only [h2, h3, decide_false, Bool.false_and, Bool.false_or] at hR
    subst hR
    clear h
    go_enter Try.func106, Try.ntmps106
    go_wp2
    go_ret
    exact ⟨rfl, HG.out _ _⟩
/-- Is an ID right? -/
def idB (c a : Int) : Bool := cnB c && auB a
theorem rightID_any (c a : Int) (w : World) : Calls Try.prog 98 #[.agg #[.int .i64 c, .int .i64 a]] w fun e w' => e = .returned (.bool (idB c a)) ∧ Gw w w' := by
  have HA : Hid (∀ W : World, Calls Try.prog 99 #[.int .i64 c] W fun e w' => e = .returned (.bool (cnB c)) ∧ w' = W) := fun W => counts_any c W
  have HB : Hid (∀ W : World, Calls Try.prog 123 #[.int .i64 a] W fun e w' => e = .returned (.bool (auB a)) ∧ w' = W) := fun W => isAuthor_any a W
  have hR : idB c a = (cnB c && auB a) := rfl
  generalize idB c a = R at hR ⊢
  generalize cnB c = x at HA hR
  generalize auB a = y at HB hR
  have HG : Hid (∀ o : Obj, Gw w (w.alloc o)) := fun o => gw_alloc w o
  cases x
  · simp only [Bool.false_and] at hR
    subst hR
    go_enter Try.func98, Try.ntmps98
    go_wp2_with (first | (go_at_call 99; refine (HA.out _).mono ?_; rintro e w' ⟨rfl, rfl⟩))
    go_ret
    exact ⟨rfl, HG.out _⟩
  · simp only [Bool.true_and] at hR
    subst hR
    go_enter Try.func98, Try.ntmps98
    go_wp2_with (first | (go_at_call 99; refine (HA.out _).mono ?_; rintro e w' ⟨rfl, rfl⟩) | (go_at_call 123; refine (HB.out _).mono ?_; rintro e w' ⟨rfl, rfl⟩))
    go_ret
    exact ⟨rfl, HG.out _⟩
/-- An operation. -/
structure Opn where
  c : Int
  a : Int
  s : Int
  ins : Bool
  rc : Int
  ra : Int
  ch : Int
abbrev Opn.val (o : Opn) : Value := .agg #[.int .i64 o.c, .int .i64 o.a, .int .i64 o.s, .bool o.ins, .int .i64 o.rc, .int .i64 o.ra, .int .i32 o.ch]
/-- The zero ID. -/
def zrB (c a : Int) : Bool := decide (c = 0) && decide (a = 0)
theorem eql_id (c a : Int) (W : World) : (binOp .eql 32 (.agg #[.int .i64 c, .int .i64 a]) (.agg #[.int .i64 0, .int .i64 0])).run Try.prog W = .ok (.bool (zrB c a)) W := by
  unfold zrB
  by_cases h1 : c = 0 <;> by_cases h2 : a = 0 <;> go_simp
def rrB (o : Opn) : Bool := if zrB o.rc o.ra = true then o.ins else idB o.rc o.ra && decide (o.rc < o.c)
theorem rightRef_any (o : Opn) (w : World) : Calls Try.prog 100 #[o.val] w fun e w' => e = .returned (.bool (rrB o)) ∧ Gw w w' := by
  have hR : rrB o = if zrB o.rc o.ra = true then o.ins else idB o.rc o.ra && decide (o.rc < o.c) := rfl
  generalize rrB o = R at hR ⊢
  obtain ⟨c, a, s, ins, rc, ra, ch⟩ := o
  simp only [Opn.val] at hR ⊢
  have HQ := eql_id rc ra
  have HA : Hid (∀ W : World, Calls Try.prog 98 #[.agg #[.int .i64 rc, .int .i64 ra]] W fun e w' => e = .returned (.bool (idB rc ra)) ∧ Gw W w') := fun W => rightID_any rc ra W
  have HG : Hid (∀ o : Obj, Gw w (w.alloc o)) := fun o => gw_alloc w o
  generalize zrB rc ra = z at HQ hR
  generalize idB rc ra = y at HA hR
  obtain ⟨cv, hcv⟩ : ∃ cv : Array Value, cv = #[.int .i64 c, .int .i64 a, .int .i64 s, .bool ins, .int .i64 rc, .int .i64 ra, .int .i32 ch] := ⟨_, rfl⟩
  have HK : Hid (∀ w2, Gw (w.alloc (.cells #[.int .i64 c, .int .i64 a, .int .i64 s, .bool ins, .int .i64 rc, .int .i64 ra, .int .i32 ch] 34)) w2 → w2.cell? ⟨w.heap.size, 0, none⟩ = some (.int .i64 c) ∧ w2.cell? ⟨w.heap.size, 4, none⟩ = some (.int .i64 rc)) := by
    intro w2 h2
    have hb := h2.below.block w.heap.size (by simp)
    rw [heap_alloc_new w _] at hb
    exact ⟨cell_of_row w2 w.heap.size 0 _ _ _ hb, cell_of_row w2 w.heap.size 4 _ _ _ hb⟩
  cases z
  · rw [if_neg (by simp)] at hR
    cases y
    · rw [Bool.false_and] at hR
      subst hR
      go_enter Try.func100, Try.ntmps100
      go_wp2_with (first | (go_at_call 98; refine (HA.out _).mono ?_; rintro e w2 ⟨rfl, hg⟩; have HG2 : Hid (Gw _ w2) := hg; clear hg))
      go_ret
      exact ⟨rfl, (HG.out _).trans HG2.out⟩
    · rw [Bool.true_and] at hR
      subst hR
      go_enter Try.func100, Try.ntmps100
      go_wp2_with (first | (go_at_call 98; refine (HA.out _).mono ?_; rintro e w2 ⟨rfl, hg⟩; have HG2 : Hid (Gw _ w2) := hg; obtain ⟨k0, k4⟩ := HK.out w2 hg; clear hg))
      go_ret
      exact ⟨rfl, (HG.out _).trans HG2.out⟩
  · rw [if_pos rfl] at hR
    subst hR
    go_enter Try.func100, Try.ntmps100
    go_wp2
    go_ret
    exact ⟨rfl, HG.out _⟩
/-- Is it a character? -/
def chB (c : Int) : Bool := decide (0 ≤ c) && decide (c ≤ 1114111) && (decide (c < 55296) || decide (57343 < c))
def ruB (o : Opn) : Bool := if o.ins = true then chB o.ch else decide (o.ch = 0)
theorem rightRune_any (o : Opn) (w : World) : Calls Try.prog 101 #[o.val] w fun e w' => e = .returned (.bool (ruB o)) ∧ Gw w w' := by
  have hR : ruB o = if o.ins = true then chB o.ch else decide (o.ch = 0) := rfl
  generalize ruB o = R at hR ⊢
  obtain ⟨c, a, s, ins, rc, ra, ch⟩ := o
  simp only [Opn.val] at hR ⊢
  have HG : Hid (∀ o : Obj, Gw w (w.alloc o)) := fun o => gw_alloc w o
  cases ins
  · rw [if_neg (by simp)] at hR
    by_cases h : ch = 0
    all_goals
      simp only [h, decide_true, decide_false] at hR
      subst hR
      first
        | subst h
        | skip
      go_enter Try.func101, Try.ntmps101
      go_wp2
      go_ret
      exact ⟨by simp [*], HG.out _⟩
  · rw [if_pos rfl] at hR
    unfold chB at hR
    by_cases h1 : 0 ≤ ch
    · by_cases h2 : ch ≤ 1114111
      · by_cases h3 : ch < 55296
        · simp only [h1, h2, h3, decide_true, Bool.true_or, Bool.and_self] at hR
          subst hR
          go_enter Try.func101, Try.ntmps101
          go_wp2
          go_ret
          exact ⟨rfl, HG.out _⟩
        · by_cases h4 : 57343 < ch
          all_goals
            simp only [h1, h2, h3, h4, decide_true, decide_false, Bool.false_or, Bool.and_self, Bool.and_false] at hR
            subst hR
            go_enter Try.func101, Try.ntmps101
            go_wp2
            go_ret
            exact ⟨rfl, HG.out _⟩
      · simp only [h1, h2, decide_true, decide_false, Bool.and_false, Bool.false_and] at hR
        subst hR
        go_enter Try.func101, Try.ntmps101
        go_wp2
        go_ret
        exact ⟨rfl, HG.out _⟩
    · simp only [h1, decide_false, Bool.false_and] at hR
      subst hR
      go_enter Try.func101, Try.ntmps101
      go_wp2
      go_ret
      exact ⟨rfl, HG.out _⟩
/-- Is an operation right? -/
def opB (o : Opn) : Bool := idB o.c o.a && cnB o.s && rrB o && ruB o
theorem right_any (o : Opn) (w : World) : Calls Try.prog 56 #[o.val] w fun e w' => e = .returned (.bool (opB o)) ∧ Gw w w' := by
  have hR : opB o = (idB o.c o.a && cnB o.s && rrB o && ruB o) := rfl
  have HC : Hid (∀ W : World, Calls Try.prog 100 #[o.val] W fun e w' => e = .returned (.bool (rrB o)) ∧ Gw W w') := fun W => rightRef_any o W
  have HD : Hid (∀ W : World, Calls Try.prog 101 #[o.val] W fun e w' => e = .returned (.bool (ruB o)) ∧ Gw W w') := fun W => rightRune_any o W
  generalize opB o = R at hR ⊢
  generalize rrB o = x3 at HC hR
  generalize ruB o = x4 at HD hR
  obtain ⟨c, a, s, ins, rc, ra, ch⟩ := o
  simp only [Opn.val] at hR HC HD ⊢
  have HA : Hid (∀ W : World, Calls Try.prog 98 #[.agg #[.int .i64 c, .int .i64 a]] W fun e w' => e = .returned (.bool (idB c a)) ∧ Gw W w') := fun W => rightID_any c a W
  have HB : Hid (∀ W : World, Calls Try.prog 99 #[.int .i64 s] W fun e w' => e = .returned (.bool (cnB s)) ∧ w' = W) := fun W => counts_any s W
  generalize idB c a = x1 at HA hR
  generalize cnB s = x2 at HB hR
  have HG : Hid (∀ o : Obj, Gw w (w.alloc o)) := fun o => gw_alloc w o
  obtain ⟨W0, hW0⟩ : ∃ W0, W0 = w.alloc (.cells #[.int .i64 c, .int .i64 a, .int .i64 s, .bool ins, .int .i64 rc, .int .i64 ra, .int .i32 ch] 34) := ⟨_, rfl⟩
  have HK : Hid (∀ w2, Gw (w.alloc (.cells #[.int .i64 c, .int .i64 a, .int .i64 s, .bool ins, .int .i64 rc, .int .i64 ra, .int .i32 ch] 34)) w2 → w2.cell? ⟨w.heap.size, 0, none⟩ = some (.int .i64 c) ∧ w2.cell? ⟨w.heap.size, 1, none⟩ = some (.int .i64 a) ∧ w2.cell? ⟨w.heap.size, 2, none⟩ = some (.int .i64 s) ∧ w2.cell? ⟨w.heap.size, 3, none⟩ = some (.bool ins) ∧ w2.cell? ⟨w.heap.size, 4, none⟩ = some (.int .i64 rc) ∧ w2.cell? ⟨w.heap.size, 5, none⟩ = some (.int .i64 ra) ∧ w2.cell? ⟨w.heap.size, 6, none⟩ = some (.int .i32 ch)) := by
    intro w2 h2
    have hb := h2.below.block w.heap.size (by simp)
    rw [heap_alloc_new w _] at hb
    exact ⟨cell_of_row w2 w.heap.size 0 _ _ _ hb, cell_of_row w2 w.heap.size 1 _ _ _ hb, cell_of_row w2 w.heap.size 2 _ _ _ hb, cell_of_row w2 w.heap.size 3 _ _ _ hb, cell_of_row w2 w.heap.size 4 _ _ _ hb, cell_of_row w2 w.heap.size 5 _ _ _ hb, cell_of_row w2 w.heap.size 6 _ _ _ hb⟩
  clear hW0
  cases x1
  · simp only [Bool.false_and] at hR
    subst hR
    go_enter Try.func56, Try.ntmps56
    go_wp2_with (first | (go_at_call 98; refine (HA.out _).mono ?_; rintro e w2 ⟨rfl, hg⟩; have HG2 : Hid (Gw _ w2) := hg; clear hg))
    go_ret
    exact ⟨rfl, (HG.out _).trans HG2.out⟩
  · cases x2
    · simp only [Bool.false_and, Bool.and_false] at hR
      subst hR
      go_enter Try.func56, Try.ntmps56
      go_wp2_with (first
        | (go_at_call 98; refine (HA.out _).mono ?_; rintro e w2 ⟨rfl, hg⟩; have HG2 : Hid (Gw _ w2) := hg; obtain ⟨k0, k1, k2, k3, k4, k5, k6⟩ := HK.out w2 hg; clear hg)
        | (go_at_call 99; refine (HB.out _).mono ?_; rintro e w' ⟨rfl, hw'⟩; obtain rfl := hw'.symm; clear hw'))
      go_ret
      exact ⟨rfl, (HG.out _).trans HG2.out⟩
    · cases x3
      · simp only [Bool.false_and, Bool.and_false] at hR
        subst hR
        go_enter Try.func56, Try.ntmps56
        go_wp2_with (first
          | (go_at_call 98; refine (HA.out _).mono ?_; rintro e w2 ⟨rfl, hg⟩; have HG2 : Hid (Gw _ w2) := hg; obtain ⟨k0, k1, k2, k3, k4, k5, k6⟩ := HK.out w2 hg; clear hg)
          | (go_at_call 99; refine (HB.out _).mono ?_; rintro e w' ⟨rfl, hw'⟩; obtain rfl := hw'.symm; clear hw')
          | (go_at_call 100; refine (HC.out _).mono ?_; rintro e w3 ⟨rfl, hg⟩; have HG3 : Hid (Gw _ w3) := HG2.out.trans hg; clear hg))
        go_ret
        exact ⟨rfl, (HG.out _).trans HG3.out⟩
      · simp only [Bool.true_and, Bool.and_self] at hR
        subst hR
        go_enter Try.func56, Try.ntmps56
        go_wp2_with (first
          | (go_at_call 98; refine (HA.out _).mono ?_; rintro e w2 ⟨rfl, hg⟩; have HG2 : Hid (Gw _ w2) := hg; obtain ⟨k0, k1, k2, k3, k4, k5, k6⟩ := HK.out w2 hg; clear hg)
          | (go_at_call 99; refine (HB.out _).mono ?_; rintro e w' ⟨rfl, hw'⟩; obtain rfl := hw'.symm; clear hw')
          | (go_at_call 100; refine (HC.out _).mono ?_; rintro e w3 ⟨rfl, hg⟩; have HG3 : Hid (Gw _ w3) := HG2.out.trans hg; obtain ⟨k0, k1, k2, k3, k4, k5, k6⟩ := HK.out w3 HG3.out; clear hg)
          | (go_at_call 101; refine (HD.out _).mono ?_; rintro e w4 ⟨rfl, hg⟩; have HG4 : Hid (Gw _ w4) := HG3.out.trans hg; clear hg))
        go_ret
        exact ⟨rfl, (HG.out _).trans HG4.out⟩
end Go.Proofs.Ytcbnmahbdcjamaa
