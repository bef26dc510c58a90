/- The mathematics of PropsBack: the lines that are written of ranges and notes, and what is read of them. -/
import Derived.Test.YtgncpchgmjacdaaGreatDoorPropsCl
import Derived.Test.YtgncpchgmjacdaaGreatDoorPropsP
namespace Go.Proofs.YtgncpchgmjacdaaGreatDoor
set_option linter.unusedVariables false

/-- A note: at most twenty bytes, without line feeds. -/
def ntF (s : List Int) : List Int := s.filter fun c => c != 10
def noteAt (ns : List (List Int)) (i : Nat) : Option (List Int) := if i < ns.length then some (ntF ((ns.getD i []).take 20)) else none
def itOf (x : Rg) (note : Option (List Int)) : Item := ⟨x.1.toNat, x.2.1.toNat, x.2.2, note⟩
def itsOf (L : List Rg) (ns : List (List Int)) : List Item := (List.range L.length).map fun i => itOf (L.getD i (0, 0, [])) (noteAt ns i)
theorem its_len (L : List Rg) (ns : List (List Int)) : (itsOf L ns).length = L.length := by simp [itsOf]
theorem its_at (L : List Rg) (ns : List (List Int)) (i : Nat) (hi : i < (itsOf L ns).length) : (itsOf L ns)[i] = itOf (L.getD i (0, 0, [])) (noteAt ns i) := by
  simp [itsOf]
theorem it_rg (x : Rg) (note : Option (List Int)) (h : reR x = true) : (itOf x note).rg = x := by
  obtain ⟨a, b, nm⟩ := x
  unfold reR at h
  simp at h
  unfold itOf Item.rg
  simp
  omega
theorem its_rg (L : List Rg) (ns : List (List Int)) (h : ClAt L) : (itsOf L ns).map Item.rg = L := by
  apply List.ext_getElem
  · simp [its_len]
  · intro i h1 h2
    rw [List.getElem_map, its_at]
    have e : L.getD i (0, 0, []) = L[i] := by simp [h2]
    rw [e]
    exact it_rg _ _ (h.2 _ (List.getElem_mem h2)).1
theorem note_fine (ns : List (List Int)) (i : Nat) : ∀ t, noteAt ns i = some t → (∀ c ∈ t, c ≠ 10) ∧ t.length ≤ 20 := by
  intro t ht
  unfold noteAt at ht
  split at ht
  · cases ht
    refine ⟨fun c hc => ?_, ?_⟩
    · have := (List.mem_filter.1 hc).2
      simpa using this
    · refine Nat.le_trans (List.length_filter_le _ _) ?_
      simp
      omega
  · cases ht
theorem its_fine (L : List Rg) (ns : List (List Int)) (h : ClAt L) : ∀ x ∈ itsOf L ns, x.Fine := by
  intro x hx
  obtain ⟨i, hi, rfl⟩ := List.mem_iff_getElem.1 hx
  rw [its_at]
  have hi' : i < L.length := by rw [its_len] at hi; exact hi
  have hr := h.2 (L.getD i (0, 0, [])) (by simp [hi'])
  generalize L.getD i (0, 0, []) = r at hr ⊢
  obtain ⟨a, b, nm⟩ := r
  obtain ⟨h1, h2, h3, h4⟩ := hr
  unfold reR at h1
  simp at h1 h2 h3 h4
  refine ⟨by show a.toNat ≤ b.toNat; omega, by show b.toNat ≤ 1114111; omega, h2, fun t ht => (note_fine ns i t ht).1⟩
theorem apart_of : (its : List Item) → (out : List Rg) → (its.map Item.rg).Pairwise ApR → (∀ x ∈ its, ∀ y ∈ out, meets x.rg y = false) → Apart out its
  | [], _, _, _ => trivial
  | x :: r, out, hp, ho => by
    rw [List.map_cons, List.pairwise_cons] at hp
    refine ⟨?_, apart_of r (x.rg :: out) hp.2 fun y hy z hz => ?_⟩
    · rw [List.any_eq_false]
      intro y hy
      rw [ho x (by simp) y hy]
      decide
    · rcases List.mem_cons.1 hz with rfl | hz
      · exact apR_symm (hp.1 y.rg (List.mem_map.2 ⟨y, hy, rfl⟩))
      · exact ho y (by simp [hy]) z hz
/-- What is written of the first so many. -/
def txt (L : List Rg) (ns : List (List Int)) (k : Nat) : List Int := joinNl (((itsOf L ns).take k).map Item.line)
theorem joinNl_snoc : (ls : List (List Int)) → (l : List Int) → joinNl (ls ++ [l]) = joinNl ls ++ (l ++ [10])
  | [], l => by simp [joinNl]
  | x :: r, l => by
    rw [List.cons_append, joinNl, joinNl_snoc r l, joinNl]
    simp
theorem txt_step (L : List Rg) (ns : List (List Int)) (k : Nat) (hk : k < L.length) : txt L ns (k + 1) = txt L ns k ++ ((itOf (L.getD k (0, 0, [])) (noteAt ns k)).line ++ [10]) := by
  have hk' : k < (itsOf L ns).length := by rw [its_len]; exact hk
  unfold txt
  rw [List.take_add_one, List.getElem?_eq_getElem hk', Option.toList_some, List.map_append, List.map_cons, List.map_nil, joinNl_snoc, its_at]
theorem line_len (x : Item) (h : nmOk x.nm = true) (ha : x.a < 16777216) (hb : x.b < 16777216) (hn : ∀ t, x.note = some t → t.length ≤ 20) : x.line.length ≤ 60 := by
  have h20 : x.nm.length ≤ 20 := by unfold nmOk at h; simp at h; omega
  have d1 := dgn_fits x.a ha
  have d2 := dgn_fits x.b hb
  have hsec : ∀ p, x.second = some p → p.1 ≤ 6 := by
    intro p hp
    unfold Item.second at hp
    split at hp
    · cases hp
    · cases hp; exact d2.2.1
  unfold Item.line lineOf
  cases hs : x.second with
  | none =>
    cases hx : x.note with
    | none => simp [hexn_len]; omega
    | some t => have := hn t hx; simp [hexn_len]; omega
  | some p =>
    have := hsec p hs
    cases hx : x.note with
    | none => simp [hexn_len]; omega
    | some t => have := hn t hx; simp [hexn_len]; omega
theorem txt_len (L : List Rg) (ns : List (List Int)) (h : ClAt L) : (k : Nat) → k ≤ L.length → (txt L ns k).length ≤ 61 * k
  | 0, _ => by simp [txt, joinNl]
  | k + 1, hk => by
    have ih := txt_len L ns h k (by omega)
    have hr := h.2 (L.getD k (0, 0, [])) (by simp [show k < L.length by omega])
    have hl := line_len (itOf (L.getD k (0, 0, [])) (noteAt ns k)) hr.2.1 (by show (L.getD k (0, 0, [])).1.toNat < _; omega) (by show (L.getD k (0, 0, [])).2.1.toNat < _; omega) (fun t ht => (note_fine ns k t ht).2)
    rw [txt_step L ns k (by omega), List.length_append, List.length_append]
    simp only [List.length_singleton]
    omega
theorem txt_read (L : List Rg) (ns : List (List Int)) (h : ClAt L) (hl : L.length ≤ 40) : parseT (txt L ns L.length) = .inl (insAll [] (itsOf L ns)) := by
  unfold txt
  rw [List.take_of_length_le (by rw [its_len]; exact Nat.le_refl _)]
  refine parseT_items (itsOf L ns) (its_fine L ns h) ?_ (by rw [its_len]; omega)
  refine apart_of _ _ ?_ (fun x _ y hy => by cases hy)
  rw [its_rg L ns h]
  exact h.1
theorem txt_mem (L : List Rg) (ns : List (List Int)) (h : ClAt L) (y : Rg) : y ∈ insAll [] (itsOf L ns) ↔ y ∈ L := by
  rw [mem_insAll]
  conv => rhs; rw [← its_rg L ns h]
  rw [List.mem_map]
  constructor
  · rintro (⟨x, hx, rfl⟩ | hy)
    · exact ⟨x, hx, rfl⟩
    · cases hy
  · rintro ⟨x, hx, rfl⟩
    exact .inl ⟨x, hx, rfl⟩
theorem txt_n (L : List Rg) (ns : List (List Int)) : (insAll [] (itsOf L ns)).length = L.length := by
  rw [len_insAll, its_len]; simp
/-- The line of a range, piece by piece. -/
theorem line_none (a b : Nat) (nm : List Int) (h : a = b) : (itOf ((a : Int), (b : Int), nm) none).line = hexn (dgn a) a ++ ([32, 9, 59, 32] ++ nm) := by
  unfold itOf Item.line Item.second lineOf
  simp [h]
theorem line_two (a b : Nat) (nm : List Int) (h : ¬ a = b) : (itOf ((a : Int), (b : Int), nm) none).line = hexn (dgn a) a ++ ([46, 46] ++ hexn (dgn b) b ++ ([32, 9, 59, 32] ++ nm)) := by
  have h' : ¬ b = a := fun e => h e.symm
  unfold itOf Item.line Item.second lineOf
  simp [h']
theorem line_note (x : Rg) (t : List Int) : (itOf x (some t)).line = (itOf x none).line ++ ([32, 35] ++ t) := by
  unfold itOf Item.line Item.second
  simp
theorem ntF_step (s : List Int) (k : Nat) (hk : k < s.length) : ntF (s.take (k + 1)) = if s.getD k 0 = 10 then ntF (s.take k) else ntF (s.take k) ++ [s.getD k 0] := by
  have e : s.take (k + 1) = s.take k ++ [s.getD k 0] := by rw [List.take_add_one, List.getElem?_eq_getElem hk]; simp [hk]
  rw [e]
  unfold ntF
  rw [List.filter_append]
  by_cases h : s.getD k 0 = 10
  · rw [if_pos h, h]; simp
  · rw [if_neg h]
    have h2 : (s.getD k 0 != 10) = true := by simpa using h
    have e2 : ([s.getD k 0].filter fun c => c != 10) = [s.getD k 0] := List.filter_eq_self.2 fun c hc => by rw [List.mem_singleton.1 hc]; exact h2
    rw [e2]
end Go.Proofs.YtgncpchgmjacdaaGreatDoor
