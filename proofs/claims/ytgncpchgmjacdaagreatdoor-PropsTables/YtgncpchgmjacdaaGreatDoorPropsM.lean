/- Plain mathematics of a table's text, over rows of numbers: blanks, names, notes, digits, a line's range, lines, the ranges of a text; nothing of the program is named here. -/
namespace Go.Proofs.YtgncpchgmjacdaaGreatDoor
set_option linter.unusedVariables false

def isBl (c : Int) : Bool := c == 32 || c == 9
def ltr (bs : List Int) : List Int := bs.dropWhile isBl
def rtr (bs : List Int) : List Int := (bs.reverse.dropWhile isBl).reverse
/-- Without blanks at the ends. -/
def trm (bs : List Int) : List Int := rtr (ltr bs)
def isNm (c : Int) : Bool := decide (65 ≤ c) && decide (c ≤ 90) || decide (97 ≤ c) && decide (c ≤ 122) || decide (48 ≤ c) && decide (c ≤ 57) || c == 95
/-- May it be a class name? -/
def nmOk (bs : List Int) : Bool := bs.all isNm && decide (1 ≤ bs.length) && decide (bs.length ≤ 20)
/-- A line without its note. -/
def noNote (bs : List Int) : List Int := bs.takeWhile (fun c => c != 35)
def isHex (c : Int) : Bool := decide (48 ≤ c) && decide (c ≤ 57) || decide (65 ≤ c) && decide (c ≤ 70)
def hexv (c : Int) : Int := if c ≤ 57 then c - 48 else c - 55
def hval (l : List Int) : Int := l.foldl (fun v c => v * 16 + hexv c) 0
def hexs (bs : List Int) : List Int := bs.takeWhile isHex
/-- A character's number that a text begins with, and how many digits it has. -/
def numAt (bs : List Int) : Option (Int × Nat) := if 4 ≤ (hexs bs).length ∧ (hexs bs).length ≤ 6 then some (hval (hexs bs), (hexs bs).length) else none
/-- What stands behind the first number: the second number, and the rest. -/
def tailOf (a : Int) (s : List Int) : Option (Int × List Int) :=
  if s.take 2 = [46, 46] then
    match numAt (s.drop 2) with
    | none => none
    | some p => some (p.1, s.drop (2 + p.2))
  else some (a, s)
/-- What stands behind the numbers: the name. -/
def clsOf (s : List Int) : Option (List Int) :=
  match trm s with
  | [] => none
  | c :: r => if c = 59 ∧ nmOk (trm r) = true then some (trm r) else none
/-- The range of a line that has something. -/
def oneOf (s : List Int) : Option (Int × Int × List Int) :=
  match numAt s with
  | none => none
  | some p =>
    match tailOf p.1 (s.drop p.2) with
    | none => none
    | some q =>
      match clsOf q.2 with
      | none => none
      | some nm => some (p.1, q.1, nm)
/-- The lines of a text: what stands ahead is of the line that is under way. -/
def linesAt (cur : List Int) : List Int → List (List Int)
  | [] => if cur = [] then [] else [cur]
  | c :: r => if c = 10 then cur :: linesAt [] r else linesAt (cur ++ [c]) r
def linesOf (bs : List Int) : List (List Int) := linesAt [] bs
/-- A range: its first and last character, its class. -/
abbrev Rg := Int × Int × List Int
def meets (x y : Rg) : Bool := decide (x.1 ≤ y.2.1) && decide (y.1 ≤ x.2.1)
/-- Into its place, by the first characters. -/
def ins (x : Rg) : List Rg → List Rg
  | [] => [x]
  | y :: r => if y.1 < x.1 then y :: ins x r else x :: y :: r
/-- What a line does to the ranges so far: nothing, an error's number, one more. -/
abbrev Step := Option (Int ⊕ Rg)
def stepOf (out : List Rg) (l : List Int) : Step :=
  if trm (noNote l) = [] then none
  else match oneOf (trm (noNote l)) with
    | none => some (.inl 2)
    | some x => if 1114111 < x.1 ∨ 1114111 < x.2.1 ∨ x.2.1 < x.1 then some (.inl 3) else if out.any (meets x) = true then some (.inl 6) else if 2000 ≤ out.length then some (.inl 4) else some (.inr x)
/-- The ranges of lines; or the line, and what is wrong. -/
def parseL (i : Nat) (out : List Rg) : List (List Int) → (List Rg ⊕ Nat × Int)
  | [] => .inl out
  | l :: r =>
    match stepOf out l with
    | none => parseL (i + 1) out r
    | some (.inl e) => .inr (i + 1, e)
    | some (.inr x) => parseL (i + 1) (ins x out) r
def parseT (bs : List Int) : List Rg ⊕ Nat × Int := parseL 0 [] (linesOf bs)

theorem ltr_drop : (bs : List Int) → ∃ n, n ≤ bs.length ∧ ltr bs = bs.drop n ∧ (∀ k, k < n → isBl (bs.getD k 0) = true) ∧ (n < bs.length → isBl (bs.getD n 0) = false)
  | [] => ⟨0, by simp, rfl, by omega, by simp⟩
  | c :: r => by
    obtain ⟨n, h1, h2, h3, h4⟩ := ltr_drop r
    by_cases h : isBl c = true
    · refine ⟨n + 1, by simp; omega, ?_, ?_, ?_⟩
      · simp only [ltr, List.dropWhile_cons, h, if_true, List.drop_succ_cons]
        exact h2
      · intro k hk
        cases k with
        | zero => simpa using h
        | succ k => simpa using h3 k (by omega)
      · intro hn
        simpa using h4 (by simpa using hn)
    · refine ⟨0, by simp, ?_, by omega, ?_⟩
      · simp [ltr, h]
      · intro _
        simpa using h
theorem rtr_take (bs : List Int) : ∃ n, n ≤ bs.length ∧ rtr bs = bs.take n := by
  obtain ⟨n, h1, h2, _, _⟩ := ltr_drop bs.reverse
  refine ⟨bs.length - n, by omega, ?_⟩
  unfold rtr
  unfold ltr at h2
  rw [h2, List.drop_reverse, List.reverse_reverse]
theorem rtr_snoc (bs : List Int) (c : Int) : rtr (bs ++ [c]) = if isBl c = true then rtr bs else bs ++ [c] := by
  unfold rtr
  rw [List.reverse_append, List.reverse_singleton, List.singleton_append, List.dropWhile_cons]
  split <;> simp
theorem rtr_nil : rtr [] = [] := rfl
theorem ltr_cons (c : Int) (r : List Int) : ltr (c :: r) = if isBl c = true then ltr r else c :: r := by
  unfold ltr
  rw [List.dropWhile_cons]
end Go.Proofs.YtgncpchgmjacdaaGreatDoor
