/- Plain mathematics of a table's text: ranges that do not meet, each written in a line with a note or none, are read as these, by their first characters; nothing of the program is named here. -/
import Derived.Test.YtgncpchgmjacdaaGreatDoorPropsO
namespace Go.Proofs.YtgncpchgmjacdaaGreatDoor
set_option linter.unusedVariables false

/-- As many digits as it takes, four at least. -/
def dgn (v : Nat) : Nat := if v < 65536 then 4 else if v < 1048576 then 5 else 6
theorem dgn_fits (v : Nat) (h : v < 16777216) : 4 ≤ dgn v ∧ dgn v ≤ 6 ∧ v < 16 ^ dgn v := by
  unfold dgn
  split
  · exact ⟨by omega, by omega, by omega⟩
  · split
    · exact ⟨by omega, by omega, by omega⟩
    · exact ⟨by omega, by omega, by omega⟩
/-- A range to be written, with a note or none. -/
structure Item where
  a : Nat
  b : Nat
  nm : List Int
  note : Option (List Int)
def Item.rg (x : Item) : Rg := ((x.a : Int), (x.b : Int), x.nm)
def Item.second (x : Item) : Option (Nat × Nat) := if x.b = x.a then none else some (dgn x.b, x.b)
def Item.line (x : Item) : List Int := lineOf (dgn x.a) x.a x.second x.nm ++ (match x.note with | none => [] | some t => 32 :: 35 :: t)
def Item.Fine (x : Item) : Prop := x.a ≤ x.b ∧ x.b ≤ 1114111 ∧ nmOk x.nm = true ∧ ∀ t, x.note = some t → ∀ c ∈ t, c ≠ 10
theorem item_step (x : Item) (h : x.Fine) (out : List Rg) (hm : out.any (meets x.rg) = false) (hl : out.length < 2000) : stepOf out x.line = some (.inr x.rg) := by
  obtain ⟨h1, h2, h3, _⟩ := h
  obtain ⟨a4, a6, av⟩ := dgn_fits x.a (by omega)
  obtain ⟨b4, b6, bv⟩ := dgn_fits x.b (by omega)
  have hs : ∀ p, x.second = some p → 4 ≤ p.1 ∧ p.1 ≤ 6 ∧ p.2 < 16 ^ p.1 := by
    intro p hp
    unfold Item.second at hp
    split at hp
    · cases hp
    · cases hp; exact ⟨b4, b6, bv⟩
  have hb : x.b = lastOf x.a x.second := by
    unfold Item.second
    split
    · assumption
    · rfl
  cases hn : x.note with
  | none =>
    have := step_line out (dgn x.a) x.a x.second x.nm [] false a4 a6 av hs h3 x.b hb h1 h2 hm hl
    unfold Item.line
    rw [hn]
    unfold Item.rg
    simpa using this
  | some t =>
    have := step_line out (dgn x.a) x.a x.second x.nm t true a4 a6 av hs h3 x.b hb h1 h2 hm hl
    unfold Item.line
    rw [hn]
    unfold Item.rg
    simpa using this
theorem item_plain (x : Item) (h : x.Fine) : ∀ c ∈ x.line, c ≠ 10 := by
  obtain ⟨_, _, h3, h4⟩ := h
  intro c hc
  unfold Item.line at hc
  rcases List.mem_append.1 hc with hc | hc
  · exact (lineOf_plain _ _ _ _ h3 c hc).2
  · cases hn : x.note with
    | none => rw [hn] at hc; simp at hc
    | some t =>
      rw [hn] at hc
      simp only [List.mem_cons] at hc
      rcases hc with rfl | rfl | hc
      · decide
      · decide
      · exact h4 t hn c hc
def insAll (out : List Rg) (its : List Item) : List Rg := its.foldl (fun o x => ins x.rg o) out
/-- None of them meets one ahead. -/
def Apart : List Rg → List Item → Prop
  | _, [] => True
  | out, x :: r => out.any (meets x.rg) = false ∧ Apart (x.rg :: out) r
theorem apart_perm : (its : List Item) → (o1 o2 : List Rg) → (∀ y, y ∈ o1 ↔ y ∈ o2) → Apart o1 its → Apart o2 its
  | [], _, _, _, _ => trivial
  | x :: r, o1, o2, h, ⟨h1, h2⟩ => by
    refine ⟨?_, apart_perm r (x.rg :: o1) (x.rg :: o2) (fun y => by rw [List.mem_cons, List.mem_cons, h y]) h2⟩
    rw [Bool.eq_false_iff] at h1 ⊢
    intro hc
    apply h1
    rw [List.any_eq_true] at hc ⊢
    obtain ⟨y, hy, e⟩ := hc
    exact ⟨y, (h y).2 hy, e⟩
theorem parseL_items : (its : List Item) → (i : Nat) → (out : List Rg) → (∀ x ∈ its, x.Fine) → Apart out its → out.length + its.length ≤ 2000 → parseL i out (its.map Item.line) = .inl (insAll out its)
  | [], i, out, _, _, _ => rfl
  | x :: r, i, out, hf, ⟨h1, h2⟩, hl => by
    simp only [List.map_cons, parseL]
    rw [item_step x (hf x (by simp)) out h1 (by simp at hl; omega)]
    simp only []
    rw [parseL_items r (i + 1) (ins x.rg out) (fun y hy => hf y (by simp [hy])) (apart_perm r _ _ (fun y => by rw [mem_ins, List.mem_cons]) h2) (by rw [len_ins]; simp at hl; omega)]
    rfl
theorem parseT_items (its : List Item) (hf : ∀ x ∈ its, x.Fine) (ha : Apart [] its) (hl : its.length ≤ 2000) : parseT (joinNl (its.map Item.line)) = .inl (insAll [] its) := by
  unfold parseT linesOf
  have := linesAt_join (its.map Item.line) [] (by
    intro l hl c hc
    rw [List.mem_map] at hl
    obtain ⟨x, hx, rfl⟩ := hl
    exact item_plain x (hf x hx) c hc)
  rw [List.append_nil] at this
  rw [this]
  have e : linesAt [] ([] : List Int) = [] := rfl
  rw [e, List.append_nil]
  exact parseL_items its 0 [] hf ha (by simpa using hl)
theorem mem_insAll (y : Rg) : (its : List Item) → (out : List Rg) → (y ∈ insAll out its ↔ (∃ x ∈ its, y = x.rg) ∨ y ∈ out)
  | [], out => by simp [insAll]
  | x :: r, out => by
    have e : insAll out (x :: r) = insAll (ins x.rg out) r := rfl
    rw [e, mem_insAll y r, mem_ins]
    constructor
    · rintro (⟨z, hz, h⟩ | h | h)
      · exact .inl ⟨z, by simp [hz], h⟩
      · exact .inl ⟨x, by simp, h⟩
      · exact .inr h
    · rintro (⟨z, hz, h⟩ | h)
      · rcases List.mem_cons.1 hz with rfl | hz
        · exact .inr (.inl h)
        · exact .inl ⟨z, hz, h⟩
      · exact .inr (.inr h)
theorem len_insAll : (its : List Item) → (out : List Rg) → (insAll out its).length = out.length + its.length
  | [], out => rfl
  | x :: r, out => by
    have e : insAll out (x :: r) = insAll (ins x.rg out) r := rfl
    rw [e, len_insAll r, len_ins]
    simp
    omega
end Go.Proofs.YtgncpchgmjacdaaGreatDoor
