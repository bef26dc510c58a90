/- Plain mathematics of a table's text: ranges by their first characters; lines that do not matter; a range written as a line is read as that range; nothing of the program is named here. -/
import Derived.Test.YtgncpchgmjacdaaGreatDoorPropsN
namespace Go.Proofs.YtgncpchgmjacdaaGreatDoor
set_option linter.unusedVariables false

/-- Ranges in order, none meeting another. -/
def Asc : List Rg → Prop
  | [] => True
  | x :: r => x.1 ≤ x.2.1 ∧ (∀ y ∈ r, x.2.1 < y.1) ∧ Asc r
theorem meets_comm (x y : Rg) : meets x y = meets y x := by unfold meets; rw [Bool.and_comm]
theorem mem_ins (x y : Rg) : (l : List Rg) → (y ∈ ins x l ↔ y = x ∨ y ∈ l)
  | [] => by simp [ins]
  | z :: r => by
    unfold ins
    split
    · rw [List.mem_cons, mem_ins x y r, List.mem_cons]
      constructor
      · rintro (h | h | h)
        · exact .inr (.inl h)
        · exact .inl h
        · exact .inr (.inr h)
      · rintro (h | h | h)
        · exact .inr (.inl h)
        · exact .inl h
        · exact .inr (.inr h)
    · simp
theorem len_ins (x : Rg) : (l : List Rg) → (ins x l).length = l.length + 1
  | [] => rfl
  | y :: r => by
    unfold ins
    split
    · simp [len_ins x r]
    · rfl
theorem asc_ins (x : Rg) (hx : x.1 ≤ x.2.1) : (l : List Rg) → Asc l → l.any (meets x) = false → Asc (ins x l)
  | [], _, _ => ⟨hx, by simp, trivial⟩
  | y :: r, h, hm => by
    obtain ⟨h1, h2, h3⟩ := h
    rw [List.any_cons, Bool.or_eq_false_iff] at hm
    obtain ⟨m1, m2⟩ := hm
    have m1' : ¬ (x.1 ≤ y.2.1 ∧ y.1 ≤ x.2.1) := by
      intro hc
      simp [meets, hc] at m1
    unfold ins
    split
    · rename_i hlt
      refine ⟨h1, ?_, asc_ins x hx r h3 m2⟩
      intro z hz
      rcases (mem_ins x z r).1 hz with rfl | hz
      · omega
      · exact h2 z hz
    · refine ⟨hx, ?_, h1, h2, h3⟩
      intro z hz
      rcases List.mem_cons.1 hz with rfl | hz
      · omega
      · have := h2 z hz
        omega
/-- Into its place by a place's number. -/
theorem ins_at (x : Rg) : (l : List Rg) → (n : Nat) → n ≤ l.length → (∀ y ∈ l.take n, y.1 < x.1) → (∀ y ∈ l.drop n, ¬ y.1 < x.1) → l.take n ++ x :: l.drop n = ins x l
  | [], n, _, _, _ => by simp [ins]
  | y :: r, 0, _, _, h2 => by
    have := h2 y (by simp)
    simp [ins, this]
  | y :: r, n + 1, hn, h1, h2 => by
    have hy := h1 y (by simp)
    have e := ins_at x r n (by simpa using hn) (fun z hz => h1 z (by simp [hz])) (fun z hz => h2 z (by simpa using hz))
    simp only [List.take_succ_cons, List.drop_succ_cons, List.cons_append]
    rw [e]
    simp [ins, hy]
/-- All that is read is in order. -/
theorem parseL_asc : (l : List (List Int)) → (i : Nat) → (out res : List Rg) → Asc out → parseL i out l = .inl res → Asc res
  | [], i, out, res, h, e => by cases e; exact h
  | x :: l, i, out, res, h, e => by
    simp only [parseL] at e
    rcases hs : stepOf out x with _ | kk | y
    · rw [hs] at e; exact parseL_asc l (i + 1) out res h e
    · rw [hs] at e; cases e
    · rw [hs] at e
      refine parseL_asc l (i + 1) (ins y out) res ?_ e
      unfold stepOf at hs
      split at hs
      · cases hs
      · split at hs
        · cases hs
        · split at hs
          · cases hs
          · split at hs
            · cases hs
            · split at hs
              · cases hs
              · cases hs
                exact asc_ins _ (by omega) out h (Bool.eq_false_iff.2 (by assumption))
theorem parseT_asc (s : List Int) (res : List Rg) (h : parseT s = .inl res) : Asc res := parseL_asc _ 0 [] res trivial h

/-- Lines that do not matter ahead of a text: the same, so many lines later. -/
def joinNl : List (List Int) → List Int
  | [] => []
  | l :: r => l ++ 10 :: joinNl r
theorem linesAt_join : (ls : List (List Int)) → (s : List Int) → (∀ l ∈ ls, ∀ c ∈ l, c ≠ 10) → linesAt [] (joinNl ls ++ s) = ls ++ linesAt [] s
  | [], s, _ => rfl
  | l :: ls, s, h => by
    simp only [joinNl, List.append_assoc, List.cons_append]
    rw [linesAt_one l _ [] (h l (by simp)), linesAt_join ls s (fun m hm => h m (by simp [hm]))]
    rfl
theorem parseT_notes (ls : List (List Int)) (s : List Int) (h : ∀ l ∈ ls, ∀ c ∈ l, c ≠ 10) (h2 : ∀ l ∈ ls, trm (noNote l) = []) : parseT (joinNl ls ++ s) = shiftBy ls.length (parseT s) := by
  unfold parseT linesOf
  rw [linesAt_join ls s h, parseL_stays ls _ 0 [] h2, parseL_shift]

/-- So many digits of a number, to base sixteen. -/
def hexc (d : Nat) : Int := if d < 10 then 48 + (d : Int) else 55 + (d : Int)
def hexn : Nat → Nat → List Int
  | 0, _ => []
  | n + 1, v => hexn n (v / 16) ++ [hexc (v % 16)]
theorem hexn_len : (n v : Nat) → (hexn n v).length = n
  | 0, _ => rfl
  | n + 1, v => by simp [hexn, hexn_len n]
theorem hexc_hex (d : Nat) (h : d < 16) : isHex (hexc d) = true ∧ hexv (hexc d) = d := by
  unfold hexc isHex hexv
  by_cases h1 : d < 10
  · simp [h1]; omega
  · simp [h1]; omega
theorem hexn_hex : (n v : Nat) → ∀ c ∈ hexn n v, isHex c = true
  | 0, _, c, h => by simp [hexn] at h
  | n + 1, v, c, h => by
    rw [hexn, List.mem_append] at h
    rcases h with h | h
    · exact hexn_hex n _ c h
    · rw [List.mem_singleton] at h
      rw [h]
      exact (hexc_hex _ (Nat.mod_lt _ (by decide))).1
theorem hval_hexn : (n v : Nat) → v < 16 ^ n → hval (hexn n v) = v
  | 0, v, h => by
    have : v = 0 := by simpa using h
    subst this
    rfl
  | n + 1, v, h => by
    have ih := hval_hexn n (v / 16) (by rw [Nat.pow_succ] at h; omega)
    unfold hval at *
    rw [hexn, List.foldl_append, ih]
    simp only [List.foldl_cons, List.foldl_nil]
    rw [(hexc_hex _ (Nat.mod_lt v (by decide))).2]
    omega
theorem hexs_run (l r : List Int) (h : ∀ c ∈ l, isHex c = true) (hr : ∀ c, r.head? = some c → isHex c = false) : hexs (l ++ r) = l := by
  unfold hexs
  rw [List.takeWhile_append_of_pos h]
  cases r with
  | nil => simp
  | cons c r =>
    rw [List.takeWhile_cons, hr c rfl]
    simp
theorem numAt_hexn (n v : Nat) (r : List Int) (h4 : 4 ≤ n) (h6 : n ≤ 6) (hv : v < 16 ^ n) (hr : ∀ c, r.head? = some c → isHex c = false) : numAt (hexn n v ++ r) = some ((v : Int), n) := by
  unfold numAt
  rw [hexs_run (hexn n v) r (hexn_hex n v) hr, hexn_len, hval_hexn n v hv, if_pos ⟨h4, h6⟩]
/-- A text whose ends are no blanks stays. -/
theorem rtr_stays (l : List Int) (h : ∀ c, l.getLast? = some c → isBl c = false) : rtr l = l := by
  rcases List.eq_nil_or_concat l with rfl | ⟨m, c, rfl⟩
  · rfl
  · rw [List.concat_eq_append, rtr_snoc, h c (by simp)]
    simp
theorem nm_plain (c : Int) (h : isNm c = true) : isBl c = false ∧ c ≠ 35 ∧ c ≠ 10 := by
  simp [isNm] at h
  unfold isBl
  refine ⟨?_, by omega, by omega⟩
  simp
  omega
/-- Blanks at the end go. -/
theorem rtr_blanks (b l : List Int) (h : ∀ c ∈ b, isBl c = true) : rtr (l ++ b) = rtr l := by
  unfold rtr
  rw [List.reverse_append, List.dropWhile_append_of_pos (fun c hc => h c (by simpa using hc))]
theorem ltr_stays (c : Int) (l : List Int) (h : isBl c = false) : ltr (c :: l) = c :: l := by
  rw [ltr_cons, h]; simp
theorem hex_plain (c : Int) (h : isHex c = true) : isBl c = false ∧ c ≠ 35 ∧ c ≠ 10 := by
  simp [isHex] at h
  unfold isBl
  refine ⟨?_, by omega, by omega⟩
  simp
  omega
theorem nmOk_some (nm : List Int) (h : nmOk nm = true) : (∀ c ∈ nm, isNm c = true) ∧ nm ≠ [] := by
  unfold nmOk at h
  simp only [Bool.and_eq_true, decide_eq_true_eq, List.all_eq_true] at h
  exact ⟨h.1.1, fun e => by rw [e] at h; simp at h⟩
theorem name_ends (p nm : List Int) (h : nmOk nm = true) : rtr (p ++ nm) = p ++ nm := by
  obtain ⟨h1, h2⟩ := nmOk_some nm h
  rcases List.eq_nil_or_concat nm with e | ⟨m, c, e⟩
  · exact absurd e h2
  · rw [List.concat_eq_append] at e
    subst e
    rw [← List.append_assoc, rtr_snoc, (nm_plain c (h1 c (by simp))).1]
    simp
theorem clsOf_line (nm : List Int) (h : nmOk nm = true) : clsOf ([32, 9, 59, 32] ++ nm) = some nm := by
  obtain ⟨h1, h2⟩ := nmOk_some nm h
  have e1 : trm ([32, 9, 59, 32] ++ nm) = 59 :: 32 :: nm := by
    unfold trm
    have : ltr ([32, 9, 59, 32] ++ nm) = [59, 32] ++ nm := by simp [ltr, isBl]
    rw [this, name_ends _ nm h]
    rfl
  have e2 : trm (32 :: nm) = nm := by
    unfold trm
    have : ltr (32 :: nm) = nm := by
      rw [ltr_cons, if_pos (by decide)]
      cases nm with
      | nil => exact absurd rfl h2
      | cons c r => exact ltr_stays c r (nm_plain c (h1 c (by simp))).1
    rw [this]
    have := name_ends [] nm h
    simpa using this
  unfold clsOf
  rw [e1]
  simp only []
  rw [e2, if_pos ⟨trivial, h⟩]
/-- A range as it is written in a line. -/
def lineOf (n a : Nat) (second : Option (Nat × Nat)) (nm : List Int) : List Int :=
  hexn n a ++ ((match second with | none => [] | some p => 46 :: 46 :: hexn p.1 p.2) ++ ([32, 9, 59, 32] ++ nm))
/-- The last character of a range as it is written. -/
def lastOf (a : Nat) : Option (Nat × Nat) → Nat
  | none => a
  | some p => p.2
theorem oneOf_line (n a : Nat) (second : Option (Nat × Nat)) (nm : List Int) (h4 : 4 ≤ n) (h6 : n ≤ 6) (ha : a < 16 ^ n) (h2 : ∀ p, second = some p → 4 ≤ p.1 ∧ p.1 ≤ 6 ∧ p.2 < 16 ^ p.1) (h : nmOk nm = true) :
    oneOf (lineOf n a second nm) = some ((a : Int), ((lastOf a second : Nat) : Int), nm) := by
  unfold oneOf lineOf
  rw [numAt_hexn n a _ h4 h6 ha (by
    intro c hc
    cases second with
    | none => simp at hc; subst hc; decide
    | some p => simp at hc; subst hc; decide)]
  simp only []
  rw [List.drop_append_of_le_length (by rw [hexn_len]; exact Nat.le_refl _), List.drop_of_length_le (by rw [hexn_len]; exact Nat.le_refl _), List.nil_append]
  cases second with
  | none =>
    have : tailOf (a : Int) ([] ++ ([32, 9, 59, 32] ++ nm)) = some ((a : Int), [32, 9, 59, 32] ++ nm) := by
      unfold tailOf
      rw [if_neg (by simp)]
      rfl
    simp only []
    rw [this]
    simp only []
    rw [clsOf_line nm h]
    rfl
  | some p =>
    obtain ⟨q4, q6, qv⟩ := h2 p rfl
    have : tailOf (a : Int) ((46 :: 46 :: hexn p.1 p.2) ++ ([32, 9, 59, 32] ++ nm)) = some ((p.2 : Int), [32, 9, 59, 32] ++ nm) := by
      unfold tailOf
      rw [if_pos (by simp)]
      have e : ((46 :: 46 :: hexn p.1 p.2) ++ ([32, 9, 59, 32] ++ nm)).drop 2 = hexn p.1 p.2 ++ ([32, 9, 59, 32] ++ nm) := by simp
      rw [e, numAt_hexn p.1 p.2 _ q4 q6 qv (by intro c hc; simp at hc; subst hc; decide)]
      simp only []
      rw [← List.drop_drop, e, List.drop_append_of_le_length (by rw [hexn_len]; exact Nat.le_refl _), List.drop_of_length_le (by rw [hexn_len]; exact Nat.le_refl _), List.nil_append]
    simp only []
    rw [this]
    simp only []
    rw [clsOf_line nm h]
    rfl
theorem lineOf_plain (n a : Nat) (second : Option (Nat × Nat)) (nm : List Int) (h : nmOk nm = true) : ∀ c ∈ lineOf n a second nm, c ≠ 35 ∧ c ≠ 10 := by
  obtain ⟨h1, _⟩ := nmOk_some nm h
  intro c hc
  unfold lineOf at hc
  rcases List.mem_append.1 hc with hc | hc
  · exact (hex_plain c (hexn_hex n a c hc)).2
  · rcases List.mem_append.1 hc with hc | hc
    · cases second with
      | none => simp at hc
      | some p =>
        simp only [List.mem_cons] at hc
        rcases hc with rfl | rfl | hc
        · decide
        · decide
        · exact (hex_plain c (hexn_hex _ _ c hc)).2
    · rcases List.mem_append.1 hc with hc | hc
      · simp at hc; omega
      · exact (nm_plain c (h1 c hc)).2
theorem noNote_run (l r : List Int) (h : ∀ c ∈ l, c ≠ 35) : noNote (l ++ 35 :: r) = l ∧ noNote l = l := by
  unfold noNote
  constructor
  · rw [List.takeWhile_append_of_pos (by intro c hc; simpa using h c hc)]
    simp
  · have := List.takeWhile_append_of_pos (p := fun c : Int => c != 35) (l₁ := l) (l₂ := []) (by intro c hc; simpa using h c hc)
    simpa using this
theorem lineOf_trm (n a : Nat) (second : Option (Nat × Nat)) (nm b : List Int) (hn : 1 ≤ n) (h : nmOk nm = true) (hb : ∀ c ∈ b, isBl c = true) : trm (lineOf n a second nm ++ b) = lineOf n a second nm := by
  have h0 : ∃ c r, lineOf n a second nm = c :: r ∧ isBl c = false := by
    cases hx : hexn n a with
    | nil => have := hexn_len n a; rw [hx] at this; simp at this; omega
    | cons c r =>
      refine ⟨c, r ++ ((match second with | none => [] | some p => 46 :: 46 :: hexn p.1 p.2) ++ ([32, 9, 59, 32] ++ nm)), by unfold lineOf; rw [hx]; rfl, (hex_plain c (hexn_hex n a c (by rw [hx]; simp))).1⟩
  obtain ⟨c, r, e, hc⟩ := h0
  unfold trm
  rw [e, List.cons_append, ltr_stays c _ hc, ← List.cons_append, ← e, rtr_blanks b _ hb]
  unfold lineOf
  rw [← List.append_assoc, ← List.append_assoc]
  exact name_ends _ nm h
/-- A range that is written in a line, a note behind it or none, is one more. -/
theorem step_line (out : List Rg) (n a : Nat) (second : Option (Nat × Nat)) (nm note : List Int) (some_ : Bool) (h4 : 4 ≤ n) (h6 : n ≤ 6) (ha : a < 16 ^ n) (h2 : ∀ p, second = some p → 4 ≤ p.1 ∧ p.1 ≤ 6 ∧ p.2 < 16 ^ p.1) (h : nmOk nm = true)
    (b : Nat) (hbd : b = lastOf a second) (hab : a ≤ b) (hb : b ≤ 1114111) (hm : out.any (meets ((a : Int), (b : Int), nm)) = false) (hl : out.length < 2000) :
    stepOf out (lineOf n a second nm ++ if some_ then 32 :: 35 :: note else []) = some (.inr ((a : Int), (b : Int), nm)) := by
  have e : trm (noNote (lineOf n a second nm ++ if some_ then 32 :: 35 :: note else [])) = lineOf n a second nm := by
    cases some_ with
    | true =>
      have := (noNote_run (lineOf n a second nm ++ [32]) note (by
        intro c hc
        rcases List.mem_append.1 hc with hc | hc
        · exact (lineOf_plain n a second nm h c hc).1
        · simp at hc; omega)).1
      simp only [if_true]
      rw [show lineOf n a second nm ++ 32 :: 35 :: note = (lineOf n a second nm ++ [32]) ++ 35 :: note by simp, this]
      exact lineOf_trm n a second nm [32] (by omega) h (by intro c hc; simp at hc; subst hc; decide)
    | false =>
      have := (noNote_run (lineOf n a second nm) [] (fun c hc => (lineOf_plain n a second nm h c hc).1)).2
      simp only [Bool.false_eq_true, if_false, List.append_nil]
      rw [this]
      have := lineOf_trm n a second nm [] (by omega) h (by simp)
      simpa using this
  have hne : lineOf n a second nm ≠ [] := by
    intro hc
    have := congrArg List.length hc
    unfold lineOf at this
    simp at this
  unfold stepOf
  rw [e, if_neg hne, oneOf_line n a second nm h4 h6 ha h2 h, ← hbd]
  simp only []
  rw [if_neg (by omega), if_neg (by rw [hm]; simp), if_neg (by omega)]
end Go.Proofs.YtgncpchgmjacdaaGreatDoor
