/- Plain mathematics of a table's text: lines of joined texts, what goes on behind lines, lines that do not matter, the first wrong line; nothing of the program is named here. -/
import Derived.Test.YtgncpchgmjacdaaGreatDoorPropsM
namespace Go.Proofs.YtgncpchgmjacdaaGreatDoor
set_option linter.unusedVariables false

theorem linesAt_nl : (a b : List Int) → (cur : List Int) → linesAt cur (a ++ 10 :: b) = linesAt cur (a ++ [10]) ++ linesAt [] b
  | [], b, cur => by simp [linesAt]
  | c :: a, b, cur => by
    by_cases h : c = 10
    · simp only [List.cons_append, linesAt, h, if_true]
      rw [linesAt_nl a b []]
    · simp only [List.cons_append, linesAt, h, if_false]
      rw [linesAt_nl a b (cur ++ [c])]
/-- A line with no line feed in it. -/
theorem linesAt_one : (l b : List Int) → (cur : List Int) → (∀ c ∈ l, c ≠ 10) → linesAt cur (l ++ 10 :: b) = (cur ++ l) :: linesAt [] b
  | [], b, cur, _ => by simp [linesAt]
  | c :: l, b, cur, h => by
    have hc : c ≠ 10 := h c (by simp)
    simp only [List.cons_append, linesAt, hc, if_false]
    rw [linesAt_one l b (cur ++ [c]) (fun d hd => h d (by simp [hd]))]
    simp
/-- The last line, with or without its line feed. -/
theorem linesAt_end : (a : List Int) → (cur : List Int) → linesAt cur (a ++ [10]) = linesAt cur a ∨ linesAt cur (a ++ [10]) = linesAt cur a ++ [[]]
  | [], cur => by
    by_cases h : cur = []
    · right; simp [linesAt, h]
    · left; simp [linesAt, h]
  | c :: a, cur => by
    by_cases h : c = 10
    · simp only [List.cons_append, linesAt, h, if_true]
      rcases linesAt_end a [] with e | e
      · left; rw [e]
      · right; rw [e]
    · simp only [List.cons_append, linesAt, h, if_false]
      exact linesAt_end a (cur ++ [c])
/-- As many lines as line feeds. -/
theorem linesAt_count : (a : List Int) → (cur : List Int) → (linesAt cur (a ++ [10])).length = a.count 10 + 1
  | [], cur => by simp [linesAt]
  | c :: a, cur => by
    by_cases h : c = 10
    · subst h
      simp [linesAt, linesAt_count a []]
    · simp only [List.cons_append, linesAt, h, if_false]
      rw [linesAt_count a (cur ++ [c]), List.count_cons]
      simp [h]
/-- A line that begins with something has it in it. -/
theorem linesAt_head : (b : List Int) → (cur : List Int) → cur ≠ [] → ∃ m r, linesAt cur b = (cur ++ m) :: r
  | [], cur, h => ⟨[], [], by simp [linesAt, h]⟩
  | c :: b, cur, h => by
    by_cases hc : c = 10
    · exact ⟨[], linesAt [] b, by simp [linesAt, hc]⟩
    · obtain ⟨m, r, e⟩ := linesAt_head b (cur ++ [c]) (by simp)
      exact ⟨c :: m, r, by simp only [linesAt, hc, if_false]; rw [e]; simp⟩

/-- Behind some lines it goes on. -/
def andThen (i n : Nat) (p : List Rg ⊕ Nat × Int) (r : List (List Int)) : List Rg ⊕ Nat × Int :=
  match p with
  | .inl out => parseL (i + n) out r
  | .inr e => .inr e
theorem parseL_append : (l r : List (List Int)) → (i : Nat) → (out : List Rg) → parseL i out (l ++ r) = andThen i l.length (parseL i out l) r
  | [], r, i, out => rfl
  | x :: l, r, i, out => by
    simp only [List.cons_append, parseL]
    rcases hs : stepOf out x with _ | e | y
    · simp only []
      rw [parseL_append l r (i + 1) out]
      simp [andThen, Nat.add_assoc, Nat.add_comm 1]
    · rfl
    · simp only []
      rw [parseL_append l r (i + 1) (ins y out)]
      simp [andThen, Nat.add_assoc, Nat.add_comm 1]
def shiftBy (n : Nat) (p : List Rg ⊕ Nat × Int) : List Rg ⊕ Nat × Int :=
  match p with
  | .inl out => .inl out
  | .inr e => .inr (e.1 + n, e.2)
theorem parseL_shift : (l : List (List Int)) → (i n : Nat) → (out : List Rg) → parseL (i + n) out l = shiftBy n (parseL i out l)
  | [], i, n, out => rfl
  | x :: l, i, n, out => by
    simp only [parseL]
    rcases hs : stepOf out x with _ | e | y
    · simp only []
      rw [show i + n + 1 = (i + 1) + n by omega, parseL_shift l (i + 1) n out]
    · simp only [shiftBy]; rw [show i + n + 1 = i + 1 + n by omega]
    · simp only []
      rw [show i + n + 1 = (i + 1) + n by omega, parseL_shift l (i + 1) n _]
theorem parseL_stays : (l r : List (List Int)) → (i : Nat) → (out : List Rg) → (∀ x ∈ l, trm (noNote x) = []) → parseL i out (l ++ r) = parseL (i + l.length) out r
  | [], r, i, out, _ => rfl
  | x :: l, r, i, out, h => by
    have hx : stepOf out x = none := by unfold stepOf; rw [if_pos (h x (by simp))]
    simp only [List.cons_append, parseL, hx]
    rw [parseL_stays l r (i + 1) out (fun y hy => h y (by simp [hy]))]
    simp [Nat.add_assoc, Nat.add_comm 1]
/-- A wrong line ahead is the one that is told, whatever stands behind. -/
theorem parseT_first (s t : List Int) (e : Nat × Int) (h : parseT s = .inr e) : parseT (s ++ 10 :: t) = .inr e := by
  unfold parseT linesOf at *
  rw [linesAt_nl, parseL_append]
  rcases linesAt_end s [] with e1 | e1
  · rw [e1, h]; rfl
  · rw [e1, parseL_append, h]; rfl
theorem hexs_none (c : Int) (l : List Int) (h : isHex c = false) : numAt (c :: l) = none := by
  unfold numAt hexs
  rw [List.takeWhile_cons, h]
  rfl
theorem dw_nil : (l : List Int) → l.dropWhile isBl = [] → ∀ c ∈ l, isBl c = true
  | [], _, c, hc => by simp at hc
  | x :: l, h, c, hc => by
    by_cases hx : isBl x = true
    · rw [List.dropWhile_cons, hx] at h
      rcases List.mem_cons.1 hc with rfl | hc
      · exact hx
      · exact dw_nil l h c hc
    · rw [List.dropWhile_cons, if_neg hx] at h
      cases h
theorem rtr_keeps (c : Int) (l : List Int) (h : isBl c = false) : ∃ m, rtr (c :: l) = c :: m := by
  obtain ⟨n, hn, e⟩ := rtr_take (c :: l)
  cases n with
  | zero =>
    exfalso
    unfold rtr at e
    rw [List.take_zero, List.reverse_eq_nil_iff] at e
    have hm : c ∈ (c :: l).reverse := by simp
    have := dw_nil _ e c hm
    rw [h] at this
    cases this
  | succ n => exact ⟨l.take n, by rw [e]; rfl⟩
theorem trm_keeps (c : Int) (l : List Int) (h : isBl c = false) : ∃ m, trm (c :: l) = c :: m := by
  unfold trm
  rw [ltr_cons, h]
  exact rtr_keeps c l h
/-- A question mark at a line's beginning is no range. -/
theorem step_mark (out : List Rg) (l : List Int) : stepOf out (63 :: l) = some (.inl 2) := by
  have e : noNote (63 :: l) = 63 :: noNote l := by simp [noNote]
  obtain ⟨m, hm⟩ := trm_keeps 63 (noNote l) (by decide)
  unfold stepOf
  rw [e, hm, if_neg (by simp)]
  have : oneOf (63 :: m) = none := by unfold oneOf; rw [hexs_none 63 m (by decide)]
  rw [this]
theorem parseL_mark (out : List Rg) (i : Nat) (t : List Int) : parseL i out (linesAt [] (63 :: t)) = .inr (i + 1, 2) := by
  have e : linesAt [] (63 :: t) = linesAt [63] t := by simp [linesAt]
  obtain ⟨m, r, hm⟩ := linesAt_head t [63] (by simp)
  rw [e, hm]
  simp only [parseL, List.singleton_append, step_mark]
/-- A text that is read, ended by a line feed, a question mark and whatever behind it: that line is told. -/
theorem parseT_mark (s t : List Int) (out : List Rg) (h : parseT (s ++ [10]) = .inl out) : parseT (s ++ 10 :: 63 :: t) = .inr (s.count 10 + 2, 2) := by
  unfold parseT linesOf at *
  rw [linesAt_nl, parseL_append, h, linesAt_count]
  show parseL (0 + (s.count 10 + 1)) out _ = _
  rw [parseL_mark]
  congr 2
  omega
/-- The last line feed does not matter. -/
theorem parseT_end (s : List Int) : parseT (s ++ [10]) = parseT s := by
  unfold parseT linesOf
  rcases linesAt_end s [] with e | e
  · rw [e]
  · rw [e, parseL_append]
    cases h : parseL 0 [] (linesAt [] s) with
    | inl out => simp [andThen, parseL, stepOf, noNote, trm, ltr, rtr]
    | inr e => rfl
end Go.Proofs.YtgncpchgmjacdaaGreatDoor
