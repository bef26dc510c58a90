/- What Parse leaves of a text that is read, and of one that is not. -/
import Derived.Test.YtgncpchgmjacdaaGreatDoorPropsY
namespace Go.Proofs.YtgncpchgmjacdaaGreatDoor
open Go.RowKit
set_option linter.unusedVariables false

theorem parse_ok (bs : List Int) (out : List Rg) (w : World) (h : parseT bs = .inl out) (hr : ∀ y ∈ bs, 0 ≤ y ∧ y ≤ 255) (hl : bs.length < 4294967000) (hg : Gl w) :
    Calls Tryz.prog 14 #[.string (strOfNums bs)] w fun e w' => Below w.heap.size w w' ∧ ∃ a cap, e = .returned (.tuple #[.slice a out.length cap, .nilIface]) ∧ RdR w' a out.length out ∧ (a = none → cap = 0) := by
  refine (parse_any bs w hr hl hg).mono ?_
  rintro e w' ⟨hb, h1⟩
  refine ⟨hb, ?_⟩
  rcases h1 with ⟨out', v, hp, rfl, ho⟩ | ⟨ln, en, ev, hp, _⟩
  · rw [h] at hp
    cases hp
    obtain ⟨a, cap, rfl, _, _, hrd⟩ := own_rdR ho
    refine ⟨a, cap, rfl, hrd, fun ha => ?_⟩
    subst ha
    rcases ho.2 with ⟨hv, _⟩ | ⟨g, cap', cur, hv, _⟩
    · injection hv
    · injection hv with h1 h2 h3; cases h1
  · rw [h] at hp; cases hp
theorem parse_bad (bs : List Int) (ln : Nat) (en : Int) (w : World) (h : parseT bs = .inr (ln, en)) (hr : ∀ y ∈ bs, 0 ≤ y ∧ y ≤ 255) (hl : bs.length < 4294967000) (hg : Gl w) :
    Calls Tryz.prog 14 #[.string (strOfNums bs)] w fun e w' => Below w.heap.size w w' ∧ ∃ p, e = .returned (.tuple #[.slice none 0 0, .iface 82 (.pointer (some ⟨p, 0, none⟩))]) ∧ ErrAt w' (.iface 82 (.pointer (some ⟨p, 0, none⟩))) ln en := by
  refine (parse_any bs w hr hl hg).mono ?_
  rintro e w' ⟨hb, h1⟩
  refine ⟨hb, ?_⟩
  rcases h1 with ⟨out', v, hp, _⟩ | ⟨ln', en', ev, hp, rfl, he, _⟩
  · rw [h] at hp; cases hp
  · rw [h] at hp
    cases hp
    obtain ⟨p, q, rfl, h2, h3⟩ := he
    exact ⟨p, rfl, p, q, rfl, h2, h3⟩
theorem parse_rng (bs : List Int) (ln : Nat) (en : Int) (h : parseT bs = .inr (ln, en)) : 1 ≤ ln ∧ ln ≤ bs.length + 1 ∧ 1 ≤ en ∧ en ≤ 8 := by
  have key : ∀ (l : List (List Int)) (i : Nat) (out : List Rg), parseL i out l = .inr (ln, en) → i + 1 ≤ ln ∧ ln ≤ i + l.length ∧ 1 ≤ en ∧ en ≤ 8 := by
    intro l
    induction l with
    | nil => intro i out h; cases h
    | cons x r ih =>
      intro i out h
      unfold parseL at h
      rcases hs : stepOf out x with _ | e | y
      · rw [hs] at h
        have := ih (i + 1) out h
        simp only [List.length_cons]
        omega
      · rw [hs] at h
        cases h
        have := step_err out x _ hs
        simp only [List.length_cons]
        omega
      · rw [hs] at h
        have := ih (i + 1) (ins y out) h
        simp only [List.length_cons]
        omega
  have hlen : ∀ (s cur : List Int), (linesAt cur s).length ≤ s.length + 1 := by
    intro s
    induction s with
    | nil => intro cur; unfold linesAt; split <;> simp
    | cons c r ih =>
      intro cur
      unfold linesAt
      split
      · have := ih []; simp only [List.length_cons]; omega
      · have := ih (cur ++ [c]); simp only [List.length_cons]; omega
  have h1 := key (linesAt [] bs) 0 [] h
  have h2 := hlen bs []
  omega
theorem add_str1 (xs : List Int) (c : Nat) (hc : c ≤ 255) (h : xs.length ≤ 100000000) (W : World) : (Op.stringOp .add (strOfNums xs) ⟨#[UInt8.ofNat c]⟩).run Tryz.prog W = .ok (.string (strOfNums (xs ++ [(c : Int)]))) W := by
  have e : (⟨#[UInt8.ofNat c]⟩ : ByteArray) = strOfNums [(c : Int)] := by apply str_ext; rw [strOfNums_data]; simp
  rw [e]
  exact add_str xs [(c : Int)] (by simp; omega) W
/-- Line of an error, wherever. -/
def LineP (w' : World) (p : Nat) (ln : Nat) (en : Int) : Prop :=
  ∀ W2 : World, Below w'.heap.size w' W2 → Calls Tryz.prog 16 #[.iface 82 (.pointer (some ⟨p, 0, none⟩))] W2 fun e w3 => e = .returned (.tuple #[.int .i64 ln, .int .i64 en]) ∧ Below W2.heap.size W2 w3
theorem LineP.later {w w' : World} {p ln : Nat} {en : Int} (h : LineP w p ln en) (hb : Below w.heap.size w w') : LineP w' p ln en := fun W2 hW2 => h W2 (hb.trans (hW2.mono hb.size))
/-- Parse and Line of a text that is not read, wherever. -/
def BadP (w : World) (b : ByteArray) (ln : Nat) (en : Int) : Prop :=
  ∀ W : World, Below w.heap.size w W → Calls Tryz.prog 14 #[.string b] W fun e w' => Below W.heap.size W w' ∧ ∃ p, e = .returned (.tuple #[.slice none 0 0, .iface 82 (.pointer (some ⟨p, 0, none⟩))]) ∧ LineP w' p ln en ∧ ErrAt w' (.iface 82 (.pointer (some ⟨p, 0, none⟩))) ln en
theorem bad_of (w : World) (hg : Gl w) (bs : List Int) (b : ByteArray) (ln : Nat) (en : Int) (hb : b = strOfNums bs) (h : parseT bs = .inr (ln, en)) (hr : ∀ y ∈ bs, 0 ≤ y ∧ y ≤ 255) (hl : bs.length < 4294967000) : BadP w b ln en := by
  intro W hW
  rw [hb]
  refine (parse_bad bs ln en W h hr hl (hg.later hW)).mono ?_
  rintro e w' ⟨hb1, p, rfl, he⟩
  have hb2 := hW.trans (hb1.mono hW.size)
  refine ⟨hb1, p, rfl, fun W2 hW2 => ?_, he⟩
  exact line_err _ ln en W2 ((hg.later hb2).later hW2) (he.later hW2)
/-- A range's name is one. -/
theorem one_nm (s : List Int) (x : Rg) (h : oneOf s = some x) : nmOk x.2.2 = true := by
  unfold oneOf at h
  cases h1 : numAt s with
  | none => rw [h1] at h; cases h
  | some p =>
    rw [h1] at h
    simp only [] at h
    cases h2 : tailOf p.1 (s.drop p.2) with
    | none => rw [h2] at h; cases h
    | some q =>
      rw [h2] at h
      simp only [] at h
      cases h4 : clsOf q.2 with
      | none => rw [h4] at h; cases h
      | some nm =>
        rw [h4] at h
        cases h
        unfold clsOf at h4
        split at h4
        · cases h4
        · split at h4
          · rename_i hc
            cases h4
            exact hc.2
          · cases h4
theorem step_nm (out : List Rg) (l : List Int) (x : Rg) (h : stepOf out l = some (.inr x)) : nmOk x.2.2 = true ∧ reR x = true := by
  unfold stepOf at h
  split at h
  · cases h
  · split at h
    · cases h
    · rename_i h1
      split at h
      · cases h
      · split at h
        · cases h
        · split at h
          · cases h
          · cases h
            have hr := one_rng _ _ h1
            refine ⟨one_nm _ _ h1, ?_⟩
            unfold reR
            simp
            omega
/-- What is read: right ranges with names, not too many. -/
theorem parseL_fine : (l : List (List Int)) → (i : Nat) → (out res : List Rg) → Asc out → out.length ≤ 2000 → (∀ r ∈ out, nmOk r.2.2 = true ∧ reR r = true) → parseL i out l = .inl res → res.length ≤ 2000 ∧ ∀ r ∈ res, nmOk r.2.2 = true ∧ reR r = true
  | [], i, out, res, _, h1, h2, e => by cases e; exact ⟨h1, h2⟩
  | x :: l, i, out, res, ha, h1, h2, e => by
    unfold parseL at e
    rcases hs : stepOf out x with _ | en | y
    · rw [hs] at e; exact parseL_fine l (i + 1) out res ha h1 h2 e
    · rw [hs] at e; cases e
    · rw [hs] at e
      obtain ⟨i1, i2⟩ := step_ins out x y ha hs
      refine parseL_fine l (i + 1) (ins y out) res i1 i2 ?_ e
      intro r hr
      rcases (mem_ins y r out).1 hr with rfl | hr
      · exact step_nm out x _ hs
      · exact h2 r hr
theorem parseT_fine (bs : List Int) (out : List Rg) (h : parseT bs = .inl out) : out.length ≤ 2000 ∧ ∀ r ∈ out, nmOk r.2.2 = true ∧ reR r = true :=
  parseL_fine _ 0 [] out trivial (by simp) (by simp) h
theorem nm_rng (s : List Int) (h : nmOk s = true) : ∀ y ∈ s, 0 ≤ y ∧ y ≤ 255 := by
  intro y hy
  have := (nmOk_some s h).1 y hy
  simp [isNm] at this
  omega
theorem rgS_parse (bs : List Int) (out : List Rg) (h : parseT bs = .inl out) : RgS out := fun r hr => nm_rng r.2.2 ((parseT_fine bs out h).2 r hr).1
end Go.Proofs.YtgncpchgmjacdaaGreatDoor
