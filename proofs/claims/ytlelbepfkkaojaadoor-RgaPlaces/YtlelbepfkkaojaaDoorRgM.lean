/- Plain mathematics of a text that operations make: which operations are taken, the row of elements, the walk of the tree; the row is the walk; nothing of memory is named here. -/
import Derived.Test.YtlelbepfkkaojaaDoorBasW
namespace Go.Proofs.YtlelbepfkkaojaaDoor
set_option linter.unusedVariables false
set_option linter.unusedSimpArgs false

abbrev Opn.id (o : Opn) : Int × Int := (o.c, o.a)
abbrev Opn.ref (o : Opn) : Int × Int := (o.rc, o.ra)
/-- The order of IDs. -/
abbrev ltI (x y : Int × Int) : Prop := x.1 < y.1 ∨ (x.1 = y.1 ∧ x.2 < y.2)

theorem ltI_irr (x : Int × Int) : ¬ ltI x x := by unfold ltI; omega
theorem ltI_trans {x y z : Int × Int} (h1 : ltI x y) (h2 : ltI y z) : ltI x z := by unfold ltI at *; omega
theorem ltI_asym {x y : Int × Int} (h1 : ltI x y) (h2 : ltI y x) : False := by unfold ltI at *; omega
theorem ltI_tri (x y : Int × Int) : ltI x y ∨ x = y ∨ ltI y x := by
  unfold ltI
  rcases Int.lt_trichotomy x.1 y.1 with h | h | h
  · exact .inl (.inl h)
  · rcases Int.lt_trichotomy x.2 y.2 with h2 | h2 | h2
    · exact .inl (.inr ⟨h, h2⟩)
    · exact .inr (.inl (Prod.ext h h2))
    · exact .inr (.inr (.inr ⟨h.symm, h2⟩))
  · exact .inr (.inr (.inl h))
theorem ls_lt (x y : Int × Int) : lsB x.1 x.2 y.1 y.2 = decide (ltI x y) := by
  unfold lsB ltI
  rw [Bool.eq_iff_iff]
  simp

theorem snocR {α : Type} {P : List α → Prop} (h0 : P []) (h1 : ∀ l x, P l → P (l ++ [x])) (l : List α) : P l := by
  have : ∀ m : List α, P m.reverse := by
    intro m
    induction m with
    | nil => exact h0
    | cons x m ih => rw [List.reverse_cons]; exact h1 _ x ih
  have h := this l.reverse
  rwa [List.reverse_reverse] at h

/-- An author's last operation. -/
def lastO (O : List Opn) (a : Int) : Opn := O.foldl (fun z o => if o.a = a then o else z) op0
theorem lastO_snoc (O : List Opn) (o : Opn) (a : Int) : lastO (O ++ [o]) a = if o.a = a then o else lastO O a := by simp [lastO]
/-- Is there such an element? -/
def hasE (O : List Opn) (i : Int × Int) : Bool := O.any fun o => o.ins && decide (o.id = i)
theorem hasE_iff (O : List Opn) (i : Int × Int) : hasE O i = true ↔ ∃ o ∈ O, o.ins = true ∧ o.id = i := by simp [hasE]
/-- Is it taken away? -/
def deadE (O : List Opn) (i : Int × Int) : Bool := O.any fun o => !o.ins && decide (o.ref = i)
theorem deadE_iff (O : List Opn) (i : Int × Int) : deadE O i = true ↔ ∃ o ∈ O, o.ins = false ∧ o.ref = i := by simp [deadE]
/-- What Put answers: is it taken, and the error's number. -/
def putA (O : List Opn) (x : Opn) : Bool × Int :=
  if opB x = false then (false, 1)
  else if x.s ≤ (lastO O x.a).s then (false, 0)
  else if (lastO O x.a).s + 1 < x.s then (false, 6)
  else if x.ref ≠ (0, 0) ∧ hasE O x.ref = false then (false, 6)
  else if x.c ≤ (lastO O x.a).c then (false, 1)
  else (true, 0)
def putO (O : List Opn) (x : Opn) : List Opn := if (putA O x).1 = true then O ++ [x] else O
theorem putA_iff (O : List Opn) (x : Opn) : (putA O x).1 = true ↔ opB x = true ∧ x.s = (lastO O x.a).s + 1 ∧ (x.ref = (0, 0) ∨ hasE O x.ref = true) ∧ (lastO O x.a).c < x.c := by
  unfold putA
  by_cases h1 : opB x = false
  · rw [if_pos h1]; simp [h1]
  rw [if_neg h1]
  have h1' : opB x = true := by simpa using h1
  by_cases h2 : x.s ≤ (lastO O x.a).s
  · rw [if_pos h2]
    simp only [Bool.false_eq_true, false_iff]
    rintro ⟨_, h, _, _⟩; omega
  rw [if_neg h2]
  by_cases h3 : (lastO O x.a).s + 1 < x.s
  · rw [if_pos h3]
    simp only [Bool.false_eq_true, false_iff]
    rintro ⟨_, h, _, _⟩; omega
  rw [if_neg h3]
  by_cases h4 : x.ref ≠ (0, 0) ∧ hasE O x.ref = false
  · rw [if_pos h4]
    simp only [Bool.false_eq_true, false_iff]
    rintro ⟨_, _, h, _⟩
    rcases h with h | h
    · exact h4.1 h
    · rw [h4.2] at h; cases h
  rw [if_neg h4]
  have h4' : x.ref = (0, 0) ∨ hasE O x.ref = true := by
    by_cases hz : x.ref = (0, 0)
    · exact .inl hz
    · right
      cases hh : hasE O x.ref
      · exact absurd ⟨hz, hh⟩ h4
      · rfl
  by_cases h5 : x.c ≤ (lastO O x.a).c
  · rw [if_pos h5]
    simp only [Bool.false_eq_true, false_iff]
    rintro ⟨_, _, _, h⟩; omega
  rw [if_neg h5]
  simp only [true_iff]
  exact ⟨h1', by omega, h4', by omega⟩
/-- Operations that were taken one behind the other. -/
def Rv (O : List Opn) : Prop := ∀ A x B, O = A ++ x :: B → (putA A x).1 = true
theorem rv_nil : Rv [] := fun A x B h => by simp at h
theorem rv_snoc {O : List Opn} {x : Opn} (h : Rv O) (hx : (putA O x).1 = true) : Rv (O ++ [x]) := by
  intro A y B he
  rcases List.eq_nil_or_concat B with rfl | ⟨B', z, rfl⟩
  · obtain ⟨rfl, h2⟩ := List.append_inj_left' he rfl, List.append_inj_right' he rfl
    cases h2; exact hx
  · rw [List.concat_eq_append, ← List.cons_append, ← List.append_assoc] at he
    exact h A y B' (List.append_inj_left' he rfl)
theorem rv_front {O : List Opn} {x : Opn} (h : Rv (O ++ [x])) : Rv O ∧ (putA O x).1 = true :=
  ⟨fun A y B e => h A y (B ++ [x]) (by rw [e]; simp), h O x [] rfl⟩
theorem rv_put {O : List Opn} (h : Rv O) (x : Opn) : Rv (putO O x) := by
  unfold putO
  split
  · next hx => exact rv_snoc h hx
  · exact h
theorem op_id {o : Opn} (h : opB o = true) : 1 ≤ o.c ∧ o.c ≤ 4294967295 ∧ 0 ≤ o.a ∧ o.a < 4194304 ∧ 1 ≤ o.s ∧ o.s ≤ 4294967295 := by
  unfold opB idB at h
  simp only [Bool.and_eq_true] at h
  obtain ⟨⟨⟨⟨h1, h2⟩, h3⟩, _⟩, _⟩ := h
  have h1 := (cnB_iff o.c).1 h1
  have h2 := (belB_iff o.a 4194304).1 h2
  have h3 := (cnB_iff o.s).1 h3
  omega
theorem op_ref {o : Opn} (h : opB o = true) : (o.ref = (0, 0) ∧ o.ins = true) ∨ (o.ref ≠ (0, 0) ∧ 1 ≤ o.rc ∧ o.rc < o.c ∧ 0 ≤ o.ra) := by
  unfold opB at h
  simp only [Bool.and_eq_true] at h
  have h3 := h.1.2
  unfold rrB zrB at h3
  split at h3
  · next hz =>
    simp at hz
    exact .inl ⟨Prod.ext hz.1 hz.2, h3⟩
  · next hz =>
    simp at hz h3
    have h4 := h3.1
    unfold idB at h4
    simp only [Bool.and_eq_true] at h4
    have h1 := (cnB_iff o.rc).1 h4.1
    have h2 := (belB_iff o.ra 4194304).1 h4.2
    refine .inr ⟨fun e => hz (congrArg Prod.fst e) (congrArg Prod.snd e), by omega, h3.2, by omega⟩
theorem ref_lt {o : Opn} (h : opB o = true) : ltI o.ref o.id := by
  have h1 := op_id h
  rcases op_ref h with ⟨h2, _⟩ | ⟨_, _, h2, _⟩
  · rw [h2]; left; show 0 < o.c; omega
  · left; exact h2
theorem id_ne0 {o : Opn} (h : opB o = true) : o.id ≠ (0, 0) := by
  have h1 := op_id h
  intro e
  have := congrArg Prod.fst e
  simp at this
  omega
theorem rv_op {O : List Opn} : Rv O → ∀ o ∈ O, opB o = true := by
  refine snocR (P := fun O => Rv O → ∀ o ∈ O, opB o = true) (fun _ o h => (by cases h)) (fun O x ih h o ho => ?_) O
  obtain ⟨h1, h2⟩ := rv_front h
  rcases List.mem_append.1 ho with ho | ho
  · exact ih h1 o ho
  · rw [List.mem_singleton.1 ho]; exact ((putA_iff _ _).1 h2).1
/-- An author's last operation is its newest. -/
theorem rv_last {O : List Opn} : Rv O → (∀ o ∈ O, o.c ≤ (lastO O o.a).c ∧ o.s ≤ (lastO O o.a).s) ∧ ∀ a, (lastO O a = op0 ∧ ∀ o ∈ O, o.a ≠ a) ∨ (lastO O a ∈ O ∧ (lastO O a).a = a) := by
  refine snocR (P := fun O => Rv O → (∀ o ∈ O, o.c ≤ (lastO O o.a).c ∧ o.s ≤ (lastO O o.a).s) ∧ ∀ a, (lastO O a = op0 ∧ ∀ o ∈ O, o.a ≠ a) ∨ (lastO O a ∈ O ∧ (lastO O a).a = a)) (fun _ => ⟨fun o h => (by cases h), fun a => .inl ⟨rfl, fun o h => (by cases h)⟩⟩) (fun O x ih h => ?_) O
  obtain ⟨h1, h2⟩ := rv_front h
  obtain ⟨h3, h4⟩ := ih h1
  obtain ⟨_, hs, _, hc⟩ := (putA_iff _ _).1 h2
  refine ⟨fun o ho => ?_, fun a => ?_⟩
  · rw [lastO_snoc]
    rcases List.mem_append.1 ho with ho | ho
    · have := h3 o ho
      split
      · next e => rw [e] at hs hc; omega
      · exact this
    · rw [List.mem_singleton.1 ho, if_pos rfl]; omega
  · rw [lastO_snoc]
    by_cases e : x.a = a
    · rw [if_pos e]; exact .inr ⟨by simp, e⟩
    · rw [if_neg e]
      rcases h4 a with ⟨q1, q2⟩ | ⟨q1, q2⟩
      · refine .inl ⟨q1, fun o ho => ?_⟩
        rcases List.mem_append.1 ho with ho | ho
        · exact q2 o ho
        · rw [List.mem_singleton.1 ho]; exact e
      · exact .inr ⟨by simp [q1], q2⟩
theorem rv_ref {O : List Opn} : Rv O → ∀ o ∈ O, o.ref ≠ (0, 0) → hasE O o.ref = true := by
  refine snocR (P := fun O => Rv O → ∀ o ∈ O, o.ref ≠ (0, 0) → hasE O o.ref = true) (fun _ o h => (by cases h)) (fun O x ih h o ho hz => ?_) O
  obtain ⟨h1, h2⟩ := rv_front h
  have hm : hasE O o.ref = true → hasE (O ++ [x]) o.ref = true := by
    intro hh
    obtain ⟨p, hp, q⟩ := (hasE_iff _ _).1 hh
    exact (hasE_iff _ _).2 ⟨p, by simp [hp], q⟩
  rcases List.mem_append.1 ho with ho | ho
  · exact hm (ih h1 o ho hz)
  · rw [List.mem_singleton.1 ho] at hz ⊢
    rw [List.mem_singleton.1 ho] at hm
    rcases ((putA_iff _ _).1 h2).2.2.1 with h | h
    · exact absurd h hz
    · exact hm h
/-- A new operation's ID is nobody's. -/
theorem new_id {O : List Opn} {x : Opn} (h : Rv O) (hx : (putA O x).1 = true) : ∀ o ∈ O, o.id ≠ x.id := by
  intro o ho e
  have h1 := (rv_last h).1 o ho
  have ha : o.a = x.a := congrArg Prod.snd e
  have hc : o.c = x.c := congrArg Prod.fst e
  have h2 := ((putA_iff _ _).1 hx).2.2.2
  rw [ha] at h1
  omega
theorem uniq_id {O : List Opn} : Rv O → ∀ o ∈ O, ∀ p ∈ O, o.id = p.id → o = p := by
  refine snocR (P := fun O => Rv O → ∀ o ∈ O, ∀ p ∈ O, o.id = p.id → o = p) (fun _ o h => (by cases h)) (fun O x ih h o ho p hp e => ?_) O
  obtain ⟨h1, h2⟩ := rv_front h
  rcases List.mem_append.1 ho with ho | ho
  · rcases List.mem_append.1 hp with hp | hp
    · exact ih h1 o ho p hp e
    · rw [List.mem_singleton.1 hp] at e
      exact absurd e (new_id h1 h2 o ho)
  · rw [List.mem_singleton.1 ho] at e ⊢
    rcases List.mem_append.1 hp with hp | hp
    · exact absurd e.symm (new_id h1 h2 p hp)
    · exact (List.mem_singleton.1 hp).symm
/-- Nothing stands behind a new operation. -/
theorem new_ref {O : List Opn} {x : Opn} (h : Rv O) (hx : (putA O x).1 = true) : ∀ o ∈ O, o.ref ≠ x.id := by
  intro o ho e
  have hz : o.ref ≠ (0, 0) := by rw [e]; exact id_ne0 ((putA_iff _ _).1 hx).1
  obtain ⟨p, hp, _, hi⟩ := (hasE_iff _ _).1 (rv_ref h o ho hz)
  exact new_id h hx p hp (by rw [hi, e])

/-- Into a row, ahead of the first lesser one. -/
def sk (x : Opn) : List Opn → List Opn
  | [] => [x]
  | y :: r => if ltI y.id x.id then x :: y :: r else y :: sk x r
/-- Into a row, behind Ref, ahead of the first lesser one. -/
def inB (x : Opn) : List Opn → List Opn
  | [] => [x]
  | y :: r => if y.id = x.ref then y :: sk x r else y :: inB x r
def insE (x : Opn) (l : List Opn) : List Opn := if x.ref = (0, 0) then sk x l else inB x l
theorem sk_mem (x : Opn) : (l : List Opn) → ∀ y, y ∈ sk x l ↔ y = x ∨ y ∈ l
  | [], y => by simp [sk]
  | z :: r, y => by
    rw [sk]
    split
    · simp
    · rw [List.mem_cons, sk_mem x r y, List.mem_cons]
      constructor
      · rintro (h | h | h)
        · exact .inr (.inl h)
        · exact .inl h
        · exact .inr (.inr h)
      · rintro (h | h | h)
        · exact .inr (.inl h)
        · exact .inl h
        · exact .inr (.inr h)
theorem inB_mem (x : Opn) : (l : List Opn) → ∀ y, y ∈ inB x l ↔ y = x ∨ y ∈ l
  | [], y => by simp [inB]
  | z :: r, y => by
    rw [inB]
    split
    · rw [List.mem_cons, sk_mem x r y, List.mem_cons]
      constructor
      · rintro (h | h | h)
        · exact .inr (.inl h)
        · exact .inl h
        · exact .inr (.inr h)
      · rintro (h | h | h)
        · exact .inr (.inl h)
        · exact .inl h
        · exact .inr (.inr h)
    · rw [List.mem_cons, inB_mem x r y, List.mem_cons]
      constructor
      · rintro (h | h | h)
        · exact .inr (.inl h)
        · exact .inl h
        · exact .inr (.inr h)
      · rintro (h | h | h)
        · exact .inr (.inl h)
        · exact .inl h
        · exact .inr (.inr h)
theorem insE_mem (x : Opn) (l : List Opn) (y : Opn) : y ∈ insE x l ↔ y = x ∨ y ∈ l := by
  unfold insE
  split
  · exact sk_mem x l y
  · exact inB_mem x l y
/-- One more, somewhere. -/
theorem sk_split (x : Opn) : (l : List Opn) → ∃ A B, l = A ++ B ∧ sk x l = A ++ x :: B ∧ (∀ e ∈ A, ¬ ltI e.id x.id) ∧ (∀ e, B.head? = some e → ltI e.id x.id)
  | [] => ⟨[], [], rfl, rfl, fun e h => (by cases h), fun e h => (by cases h)⟩
  | y :: r => by
    by_cases h : ltI y.id x.id
    · exact ⟨[], y :: r, rfl, by rw [sk, if_pos h]; rfl, fun e h => (by cases h), fun e he => (by cases he; exact h)⟩
    · obtain ⟨A, B, h1, h2, h3, h4⟩ := sk_split x r
      refine ⟨y :: A, B, by rw [h1]; rfl, by rw [sk, if_neg h, h2]; rfl, fun e he => ?_, h4⟩
      rcases List.mem_cons.1 he with rfl | he
      · exact h
      · exact h3 e he
theorem inB_split (x : Opn) : (l : List Opn) → (∃ e ∈ l, e.id = x.ref) → ∃ A z B, l = A ++ z :: B ∧ inB x l = A ++ z :: sk x B ∧ z.id = x.ref ∧ ∀ e ∈ A, e.id ≠ x.ref
  | [], h => by obtain ⟨e, he, _⟩ := h; cases he
  | y :: r, h => by
    by_cases hy : y.id = x.ref
    · exact ⟨[], y, r, rfl, by rw [inB, if_pos hy]; rfl, hy, fun e h => (by cases h)⟩
    · obtain ⟨A, z, B, h1, h2, h3, h4⟩ := inB_split x r (by
        obtain ⟨e, he, q⟩ := h
        rcases List.mem_cons.1 he with rfl | he
        · exact absurd q hy
        · exact ⟨e, he, q⟩)
      refine ⟨y :: A, z, B, by rw [h1]; rfl, by rw [inB, if_neg hy, h2]; rfl, h3, fun e he => ?_⟩
      rcases List.mem_cons.1 he with rfl | he
      · exact hy
      · exact h4 e he
/-- The row of elements. -/
def seqE (O : List Opn) : List Opn := O.foldl (fun l o => if o.ins = true then insE o l else l) []
theorem seqE_snoc (O : List Opn) (x : Opn) : seqE (O ++ [x]) = if x.ins = true then insE x (seqE O) else seqE O := by simp [seqE]
theorem seqE_mem (O : List Opn) : ∀ y, y ∈ seqE O ↔ y ∈ O ∧ y.ins = true := by
  refine snocR (P := fun O => ∀ y, y ∈ seqE O ↔ y ∈ O ∧ y.ins = true) (fun y => by simp [seqE]) (fun O x ih y => ?_) O
  rw [seqE_snoc]
  by_cases h : x.ins = true
  · rw [if_pos h, insE_mem, ih y]
    constructor
    · rintro (rfl | ⟨h1, h2⟩)
      · exact ⟨by simp, h⟩
      · exact ⟨by simp [h1], h2⟩
    · rintro ⟨h1, h2⟩
      rcases List.mem_append.1 h1 with h1 | h1
      · exact .inr ⟨h1, h2⟩
      · exact .inl (List.mem_singleton.1 h1)
  · rw [if_neg h, ih y]
    constructor
    · rintro ⟨h1, h2⟩; exact ⟨by simp [h1], h2⟩
    · rintro ⟨h1, h2⟩
      rcases List.mem_append.1 h1 with h1 | h1
      · exact ⟨h1, h2⟩
      · rw [List.mem_singleton.1 h1] at h2; exact absurd h2 h
theorem hasE_seq (O : List Opn) (i : Int × Int) : hasE O i = true ↔ ∃ e ∈ seqE O, e.id = i := by
  rw [hasE_iff]
  constructor
  · rintro ⟨o, h1, h2, h3⟩; exact ⟨o, (seqE_mem O o).2 ⟨h1, h2⟩, h3⟩
  · rintro ⟨o, h1, h2⟩; exact ⟨o, ((seqE_mem O o).1 h1).1, ((seqE_mem O o).1 h1).2, h2⟩
/-- Where a new element goes: the row parted there. -/
theorem insE_split (x : Opn) (l : List Opn) : ∃ A B, l = A ++ B ∧ insE x l = A ++ x :: B := by
  unfold insE
  by_cases hz : x.ref = (0, 0)
  · rw [if_pos hz]
    obtain ⟨A, B, h1, h2, _⟩ := sk_split x l
    exact ⟨A, B, h1, h2⟩
  · rw [if_neg hz]
    by_cases h : ∃ e ∈ l, e.id = x.ref
    · obtain ⟨A, z, B, h1, h2, _⟩ := inB_split x l h
      obtain ⟨C, D, h3, h4, _⟩ := sk_split x B
      exact ⟨A ++ z :: C, D, by rw [h1, h3]; simp, by rw [h2, h4]; simp⟩
    · have : ∀ m : List Opn, (∀ e ∈ m, e.id ≠ x.ref) → inB x m = m ++ [x] := by
        intro m
        induction m with
        | nil => intro _; rfl
        | cons y r ih =>
          intro hm
          rw [inB, if_neg (hm y (by simp)), ih (fun e he => hm e (by simp [he]))]
          rfl
      exact ⟨l, [], by simp, this l fun e he q => h ⟨e, he, q⟩⟩
theorem seqE_nodup {O : List Opn} : Rv O → ((seqE O).map Opn.id).Nodup := by
  refine snocR (P := fun O => Rv O → ((seqE O).map Opn.id).Nodup) (fun _ => by simp [seqE]) (fun O x ih h => ?_) O
  obtain ⟨h1, h2⟩ := rv_front h
  rw [seqE_snoc]
  split
  · obtain ⟨A, B, e1, e2⟩ := insE_split x (seqE O)
    have hn := ih h1
    rw [e2]
    have hx : x.id ∉ (seqE O).map Opn.id := by
      intro hm
      obtain ⟨o, ho, e⟩ := List.mem_map.1 hm
      exact new_id h1 h2 o ((seqE_mem O o).1 ho).1 e
    rw [e1] at hn hx
    rw [List.map_append] at hn hx ⊢
    rw [List.map_cons]
    exact (List.perm_middle.nodup_iff).2 (List.nodup_cons.2 ⟨hx, hn⟩)
  · exact ih h1

/-- Into a row of falling IDs. -/
def insD (x : Opn) : List Opn → List Opn
  | [] => [x]
  | y :: r => if ltI x.id y.id then y :: insD x r else x :: y :: r
/-- The elements whose Ref it is, by falling IDs. -/
def kids (O : List Opn) (r : Int × Int) : List Opn := O.foldl (fun l o => if o.ins = true ∧ o.ref = r then insD o l else l) []
theorem kids_snoc (O : List Opn) (x : Opn) (r : Int × Int) : kids (O ++ [x]) r = if x.ins = true ∧ x.ref = r then insD x (kids O r) else kids O r := by simp [kids]
theorem insD_mem (x : Opn) : (l : List Opn) → ∀ y, y ∈ insD x l ↔ y = x ∨ y ∈ l
  | [], y => by simp [insD]
  | z :: r, y => by
    rw [insD]
    split
    · rw [List.mem_cons, insD_mem x r y, List.mem_cons]
      constructor
      · rintro (h | h | h)
        · exact .inr (.inl h)
        · exact .inl h
        · exact .inr (.inr h)
      · rintro (h | h | h)
        · exact .inr (.inl h)
        · exact .inl h
        · exact .inr (.inr h)
    · simp
theorem kids_mem (O : List Opn) (r : Int × Int) : ∀ y, y ∈ kids O r ↔ y ∈ O ∧ y.ins = true ∧ y.ref = r := by
  refine snocR (P := fun O => ∀ y, y ∈ kids O r ↔ y ∈ O ∧ y.ins = true ∧ y.ref = r) (fun y => by simp [kids]) (fun O x ih y => ?_) O
  rw [kids_snoc]
  by_cases h : x.ins = true ∧ x.ref = r
  · rw [if_pos h, insD_mem, ih y]
    constructor
    · rintro (rfl | ⟨h1, h2⟩)
      · exact ⟨by simp, h⟩
      · exact ⟨by simp [h1], h2⟩
    · rintro ⟨h1, h2⟩
      rcases List.mem_append.1 h1 with h1 | h1
      · exact .inr ⟨h1, h2⟩
      · exact .inl (List.mem_singleton.1 h1)
  · rw [if_neg h, ih y]
    constructor
    · rintro ⟨h1, h2⟩; exact ⟨by simp [h1], h2⟩
    · rintro ⟨h1, h2⟩
      rcases List.mem_append.1 h1 with h1 | h1
      · exact ⟨h1, h2⟩
      · rw [List.mem_singleton.1 h1] at h2; exact absurd h2 h
/-- By falling IDs. -/
def Fall : List Opn → Prop
  | [] => True
  | x :: r => (∀ y ∈ r, ltI y.id x.id) ∧ Fall r
theorem insD_fall (x : Opn) : (l : List Opn) → Fall l → (∀ y ∈ l, y.id ≠ x.id) → Fall (insD x l)
  | [], _, _ => ⟨fun y h => (by cases h), trivial⟩
  | y :: r, h, hn => by
    rw [insD]
    split
    · next hl =>
      refine ⟨fun z hz => ?_, insD_fall x r h.2 (fun z hz => hn z (by simp [hz]))⟩
      rcases (insD_mem x r z).1 hz with rfl | hz
      · exact hl
      · exact h.1 z hz
    · next hl =>
      have hyx : ltI y.id x.id := by
        rcases ltI_tri x.id y.id with h1 | h1 | h1
        · exact absurd h1 hl
        · exact absurd h1.symm (hn y (by simp))
        · exact h1
      refine ⟨fun z hz => ?_, h⟩
      rcases List.mem_cons.1 hz with rfl | hz
      · exact hyx
      · exact ltI_trans (h.1 z hz) hyx
theorem kids_fall {O : List Opn} (r : Int × Int) : Rv O → Fall (kids O r) := by
  refine snocR (P := fun O => Rv O → Fall (kids O r)) (fun _ => trivial) (fun O x ih h => ?_) O
  obtain ⟨h1, h2⟩ := rv_front h
  rw [kids_snoc]
  split
  · exact insD_fall x _ (ih h1) fun y hy => new_id h1 h2 y ((kids_mem O r y).1 hy).1
  · exact ih h1
theorem fall_ext : (a b : List Opn) → Fall a → Fall b → (∀ y, y ∈ a ↔ y ∈ b) → a = b
  | [], [], _, _, _ => rfl
  | [], y :: r, _, _, h => by have := (h y).2 (by simp); cases this
  | x :: r, [], _, _, h => by have := (h x).1 (by simp); cases this
  | x :: r, y :: s, hA, hB, h => by
    have hxy : x = y := by
      rcases List.mem_cons.1 ((h x).1 (by simp)) with e | e
      · exact e
      · rcases List.mem_cons.1 ((h y).2 (by simp)) with e2 | e2
        · exact e2.symm
        · exact (ltI_asym (hB.1 x e) (hA.1 y e2)).elim
    subst hxy
    rw [fall_ext r s hA.2 hB.2 (fun z => ?_)]
    constructor
    · intro hz
      rcases List.mem_cons.1 ((h z).1 (by simp [hz])) with e | e
      · subst e; exact absurd (hA.1 z hz) (ltI_irr _)
      · exact e
    · intro hz
      rcases List.mem_cons.1 ((h z).2 (by simp [hz])) with e | e
      · subst e; exact absurd (hB.1 z hz) (ltI_irr _)
      · exact e
/-- The walk of the tree. -/
def walkF (O : List Opn) : Nat → Int × Int → List Opn
  | 0, _ => []
  | n + 1, r => (kids O r).flatMap fun c => c :: walkF O n c.id
/-- The walk tells of the operations as a set. -/
theorem walk_ext {O O' : List Opn} (h : Rv O) (h' : Rv O') (he : ∀ o, o ∈ O ↔ o ∈ O') : (n : Nat) → ∀ r, walkF O n r = walkF O' n r
  | 0, r => rfl
  | n + 1, r => by
    have hk : kids O r = kids O' r := fall_ext _ _ (kids_fall r h) (kids_fall r h') fun y => by rw [kids_mem, kids_mem, he]
    rw [walkF, walkF, hk]
    congr 1
    funext c
    rw [walk_ext h h' he n c.id]
theorem walk_mem {O : List Opn} (h : ∀ o ∈ O, opB o = true) : (n : Nat) → ∀ r, ∀ e ∈ walkF O n r, e ∈ O ∧ e.ins = true ∧ ltI r e.id
  | 0, r, e, he => by cases he
  | n + 1, r, e, he => by
    rw [walkF] at he
    obtain ⟨c, hc, he⟩ := List.mem_flatMap.1 he
    obtain ⟨c1, c2, c3⟩ := (kids_mem O r c).1 hc
    have hl : ltI r c.id := by rw [← c3]; exact ref_lt (h c c1)
    rcases List.mem_cons.1 he with rfl | he
    · exact ⟨c1, c2, hl⟩
    · obtain ⟨h1, h2, h3⟩ := walk_mem h n c.id e he
      exact ⟨h1, h2, ltI_trans hl h3⟩
theorem walk_same {O : List Opn} {x : Opn} : (n : Nat) → ∀ r, x.ref ≠ r → (∀ e ∈ walkF O n r, e.id ≠ x.ref) → walkF (O ++ [x]) n r = walkF O n r
  | 0, r, _, _ => rfl
  | n + 1, r, hr, he => by
    have hk : kids (O ++ [x]) r = kids O r := by rw [kids_snoc, if_neg (fun q => hr q.2)]
    rw [walkF, hk, walkF]
    have : ∀ l : List Opn, (∀ e ∈ l.flatMap (fun c => c :: walkF O n c.id), e.id ≠ x.ref) → l.flatMap (fun c => c :: walkF (O ++ [x]) n c.id) = l.flatMap (fun c => c :: walkF O n c.id) := by
      intro l
      induction l with
      | nil => intro _; rfl
      | cons c r ih =>
        intro hl
        rw [List.flatMap_cons, List.flatMap_cons, ih (fun e he => hl e (by rw [List.flatMap_cons]; simp only [List.mem_append]; exact .inr he))]
        rw [walk_same n c.id (fun q => hl c (by simp) q.symm) (fun e he => hl e (by rw [List.flatMap_cons]; simp [he]))]
    exact this _ he
/-- How many have greater IDs. -/
def dep (O : List Opn) (r : Int × Int) : Nat := O.countP fun o => decide (ltI r o.id)
theorem dep_le (O : List Opn) (r : Int × Int) : dep O r ≤ O.length := List.countP_le_length
theorem dep_lt {O : List Opn} {r : Int × Int} {c : Opn} (hc : c ∈ O) (h : ltI r c.id) : dep O c.id < dep O r := by
  unfold dep
  induction O with
  | nil => cases hc
  | cons y s ih =>
    have hm : s.countP (fun o => decide (ltI c.id o.id)) ≤ s.countP (fun o => decide (ltI r o.id)) := List.countP_mono_left fun z _ hz => decide_eq_true (ltI_trans h (of_decide_eq_true hz))
    rcases List.mem_cons.1 hc with rfl | hc
    · rw [List.countP_cons, List.countP_cons]
      have e1 : decide (ltI c.id c.id) = false := decide_eq_false (ltI_irr _)
      have e2 : decide (ltI r c.id) = true := decide_eq_true h
      rw [e1, e2, if_neg (by simp), if_pos rfl]
      omega
    · have h1 := ih hc
      rw [List.countP_cons, List.countP_cons]
      by_cases hy : ltI c.id y.id
      · have e1 : decide (ltI c.id y.id) = true := decide_eq_true hy
        have e2 : decide (ltI r y.id) = true := decide_eq_true (ltI_trans h hy)
        rw [e1, e2, if_pos rfl]
        omega
      · have e1 : decide (ltI c.id y.id) = false := decide_eq_false hy
        rw [e1, if_neg (by simp)]
        omega
def HdLt (x : Opn) (R : List Opn) : Prop := ∀ e, R.head? = some e → ltI e.id x.id
theorem sk_head {x : Opn} {R : List Opn} (h : HdLt x R) : sk x R = x :: R := by
  cases R with
  | nil => rfl
  | cons y r => rw [sk, if_pos (h y rfl)]
theorem sk_past {x : Opn} (B : List Opn) : (A : List Opn) → (∀ e ∈ A, ¬ ltI e.id x.id) → sk x (A ++ B) = A ++ sk x B
  | [], _ => rfl
  | y :: r, h => by rw [List.cons_append, sk, if_neg (h y (by simp)), sk_past B r (fun e he => h e (by simp [he]))]; rfl
theorem inB_past {x : Opn} (B : List Opn) : (A : List Opn) → (∀ e ∈ A, e.id ≠ x.ref) → inB x (A ++ B) = A ++ inB x B
  | [], _ => rfl
  | y :: r, h => by rw [List.cons_append, inB, if_neg (h y (by simp)), inB_past B r (fun e he => h e (by simp [he]))]; rfl
theorem walk_front {O : List Opn} {x : Opn} (h : Rv O) (hx : (putA O x).1 = true) (hi : x.ins = true) (n : Nat) (R : List Opn) (hR : HdLt x R) : walkF (O ++ [x]) (n + 1) x.ref ++ R = sk x (walkF O (n + 1) x.ref ++ R) := by
  have hop := rv_op h
  have hxo := ((putA_iff _ _).1 hx).1
  rw [walkF, walkF, kids_snoc, if_pos ⟨hi, rfl⟩]
  have hnil : walkF (O ++ [x]) n x.id = [] := by
    cases n with
    | zero => rfl
    | succ n =>
      rw [walkF]
      have : kids (O ++ [x]) x.id = [] := by
        refine List.eq_nil_iff_forall_not_mem.2 fun y hy => ?_
        obtain ⟨h1, h2, h3⟩ := (kids_mem _ _ y).1 hy
        rcases List.mem_append.1 h1 with h1 | h1
        · exact new_ref h hx y h1 h3
        · rw [List.mem_singleton.1 h1] at h3
          have := ref_lt hxo
          rw [h3] at this
          exact ltI_irr _ this
      rw [this]; rfl
  have hk : ∀ c ∈ kids O x.ref, walkF (O ++ [x]) n c.id = walkF O n c.id ∧ ltI x.ref c.id ∧ c.id ≠ x.id ∧ ∀ e ∈ walkF O n c.id, ltI c.id e.id := by
    intro c hc
    obtain ⟨c1, c2, c3⟩ := (kids_mem O x.ref c).1 hc
    have hl : ltI x.ref c.id := by rw [← c3]; exact ref_lt (hop c c1)
    refine ⟨walk_same n c.id (fun q => by rw [q] at hl; exact ltI_irr _ hl) (fun e he q => ?_), hl, new_id h hx c c1, fun e he => (walk_mem hop n c.id e he).2.2⟩
    have := (walk_mem hop n c.id e he).2.2
    rw [q] at this
    exact ltI_asym hl this
  revert hk
  have hf := kids_fall x.ref h
  revert hf
  generalize kids O x.ref = ks
  intro hf hk
  induction ks with
  | nil =>
    show (x :: walkF (O ++ [x]) n x.id) ++ [] ++ R = sk x ([] ++ R)
    rw [hnil, List.nil_append, sk_head hR]; rfl
  | cons c r ih =>
    obtain ⟨q1, q2, q3, q4⟩ := hk c (by simp)
    rw [insD]
    by_cases hl : ltI x.id c.id
    · rw [if_pos hl, List.flatMap_cons, List.flatMap_cons, q1, List.append_assoc, ih hf.2 (fun d hd => hk d (by simp [hd])), List.append_assoc, ← sk_past]
      intro e he
      rcases List.mem_cons.1 he with rfl | he
      · exact fun q => ltI_asym hl q
      · exact fun q => ltI_asym (ltI_trans hl (q4 e he)) q
    · have hcx : ltI c.id x.id := by
        rcases ltI_tri x.id c.id with h1 | h1 | h1
        · exact absurd h1 hl
        · exact absurd h1.symm q3
        · exact h1
      rw [if_neg hl]
      have hall : (x :: c :: r).flatMap (fun c => c :: walkF (O ++ [x]) n c.id) = x :: (c :: r).flatMap (fun c => c :: walkF O n c.id) := by
        rw [List.flatMap_cons, hnil]
        have : ∀ l : List Opn, (∀ d ∈ l, walkF (O ++ [x]) n d.id = walkF O n d.id) → l.flatMap (fun c => c :: walkF (O ++ [x]) n c.id) = l.flatMap (fun c => c :: walkF O n c.id) := by
          intro l hl
          induction l with
          | nil => rfl
          | cons d s ih2 => rw [List.flatMap_cons, List.flatMap_cons, hl d (by simp), ih2 fun z hz => hl z (by simp [hz])]
        rw [this (c :: r) fun d hd => (hk d hd).1]
        rfl
      rw [hall]
      refine (sk_head ?_).symm
      intro e he
      rw [List.flatMap_cons] at he
      cases he
      exact hcx
theorem walk_in {O : List Opn} {x : Opn} (h : Rv O) (hx : (putA O x).1 = true) (hi : x.ins = true) : (n : Nat) → ∀ r R, dep O r < n → HdLt x R → ((walkF O n r).map Opn.id).Nodup → (∃ e ∈ walkF O n r, e.id = x.ref) → walkF (O ++ [x]) n r ++ R = inB x (walkF O n r ++ R)
  | 0, r, R, hd, _, _, _ => by omega
  | n + 1, r, R, hd, hR, hn, hex => by
    have hop := rv_op h
    have hxo := ((putA_iff _ _).1 hx).1
    have hrx : x.ref ≠ r := by
      intro q
      obtain ⟨e, he, q2⟩ := hex
      have := (walk_mem hop (n + 1) r e he).2.2
      rw [q2, q] at this
      exact ltI_irr _ this
    rw [walkF] at hn hex
    rw [walkF, walkF, kids_snoc, if_neg (fun q => hrx q.2)]
    have hk : ∀ c ∈ kids O r, c ∈ O ∧ dep O c.id < n ∧ ∀ e ∈ walkF O n c.id, ltI c.id e.id := by
      intro c hc
      obtain ⟨c1, c2, c3⟩ := (kids_mem O r c).1 hc
      have hl : ltI r c.id := by rw [← c3]; exact ref_lt (hop c c1)
      have := dep_lt c1 hl
      exact ⟨c1, by omega, fun e he => (walk_mem hop n c.id e he).2.2⟩
    have hf := kids_fall r h
    revert hk hf hn hex
    generalize kids O r = ks
    intro hn hex hk hf
    have hsame : ∀ l : List Opn, (∀ e ∈ l.flatMap (fun c => c :: walkF O n c.id), e.id ≠ x.ref) → l.flatMap (fun c => c :: walkF (O ++ [x]) n c.id) = l.flatMap (fun c => c :: walkF O n c.id) := by
      intro l
      induction l with
      | nil => intro _; rfl
      | cons c s ih =>
        intro hl
        rw [List.flatMap_cons, List.flatMap_cons, ih (fun e he => hl e (by rw [List.flatMap_cons]; simp only [List.mem_append]; exact .inr he))]
        rw [walk_same n c.id (fun q => hl c (by simp) q.symm) (fun e he => hl e (by rw [List.flatMap_cons]; simp [he]))]
    induction ks with
    | nil => obtain ⟨e, he, _⟩ := hex; cases he
    | cons c s ih =>
      obtain ⟨k1, k2, k3⟩ := hk c (by simp)
      rw [List.flatMap_cons] at hn hex ⊢
      rw [List.flatMap_cons]
      rw [List.map_append, List.nodup_append] at hn
      obtain ⟨n1, n2, n3⟩ := hn
      have hcw : ((walkF O n c.id).map Opn.id).Nodup := by
        rw [List.map_cons] at n1
        exact (List.nodup_cons.1 n1).2
      -- what follows the first one begins with a lesser one
      have hrest : ltI c.id x.id → HdLt x (s.flatMap (fun c => c :: walkF O n c.id) ++ R) := by
        intro hlt e he
        cases s with
        | nil => exact hR e he
        | cons d t =>
          have hde : e = d := by
            rw [List.flatMap_cons] at he
            simpa using he.symm
          rw [hde]
          exact ltI_trans (hf.1 d (by simp)) hlt
      have hout : (∃ e ∈ c :: walkF O n c.id, e.id = x.ref) → s.flatMap (fun c => c :: walkF (O ++ [x]) n c.id) = s.flatMap (fun c => c :: walkF O n c.id) := by
        rintro ⟨e, he, q⟩
        refine hsame s fun f hf2 q2 => ?_
        exact n3 e.id (List.mem_map.2 ⟨e, he, rfl⟩) f.id (List.mem_map.2 ⟨f, hf2, rfl⟩) (by rw [q, q2])
      by_cases hc : c.id = x.ref
      · rw [hout ⟨c, by simp, hc⟩, List.append_assoc, List.append_assoc, List.cons_append, List.cons_append, inB, if_pos hc]
        have hlt : ltI c.id x.id := by rw [hc]; exact ref_lt hxo
        obtain ⟨m, rfl⟩ : ∃ m, n = m + 1 := ⟨n - 1, by omega⟩
        have := walk_front h hx hi m _ (hrest hlt)
        rw [← hc] at this
        rw [this]
      · by_cases hin : ∃ e ∈ walkF O n c.id, e.id = x.ref
        · obtain ⟨e, he, q⟩ := hin
          have hlt : ltI c.id x.id := by
            have h1 := k3 e he
            rw [q] at h1
            exact ltI_trans h1 (ref_lt hxo)
          rw [hout ⟨e, by simp [he], q⟩, List.append_assoc, List.append_assoc, List.cons_append, List.cons_append, inB, if_neg hc, walk_in h hx hi n c.id _ k2 (hrest hlt) hcw ⟨e, he, q⟩]
        · have hno : ∀ e ∈ walkF O n c.id, e.id ≠ x.ref := fun e he q => hin ⟨e, he, q⟩
          have hex2 : ∃ e ∈ s.flatMap (fun c => c :: walkF O n c.id), e.id = x.ref := by
            obtain ⟨e, he, q⟩ := hex
            rcases List.mem_append.1 he with he | he
            · rcases List.mem_cons.1 he with rfl | he
              · exact absurd q hc
              · exact absurd q (hno e he)
            · exact ⟨e, he, q⟩
          rw [walk_same n c.id (fun q => hc q.symm) hno, List.append_assoc, List.append_assoc, ih n2 hex2 (fun d hd => hk d (by simp [hd])) hf.2]
          refine (inB_past _ _ ?_).symm
          intro e he
          rcases List.mem_cons.1 he with rfl | he
          · exact hc
          · exact hno e he
/-- THE ROW OF ELEMENTS IS THE WALK OF THE TREE. -/
theorem walk_seq {O : List Opn} : Rv O → ∀ n, O.length < n → walkF O n (0, 0) = seqE O := by
  refine snocR (P := fun O => Rv O → ∀ n, O.length < n → walkF O n (0, 0) = seqE O) (fun _ n hn => ?_) (fun O x ih h n hn => ?_) O
  · cases n with
    | zero => rfl
    | succ n => rfl
  · obtain ⟨h1, h2⟩ := rv_front h
    rw [List.length_append] at hn
    simp only [List.length_cons, List.length_nil] at hn
    have e := ih h1 n (by omega)
    have hd := dep_le O (0, 0)
    rw [seqE_snoc]
    by_cases hi : x.ins = true
    · rw [if_pos hi]
      unfold insE
      by_cases hz : x.ref = (0, 0)
      · rw [if_pos hz, ← e]
        obtain ⟨m, rfl⟩ : ∃ m, n = m + 1 := ⟨n - 1, by omega⟩
        have := walk_front h1 h2 hi m [] (fun e he => by cases he)
        rw [List.append_nil, List.append_nil, hz] at this
        exact this
      · rw [if_neg hz, ← e]
        have hh : hasE O x.ref = true := by
          rcases ((putA_iff _ _).1 h2).2.2.1 with q | q
          · exact absurd q hz
          · exact q
        have := walk_in h1 h2 hi n (0, 0) [] (by omega) (fun e he => by cases he) (by rw [e]; exact seqE_nodup h1) (by rw [e]; exact (hasE_seq O _).1 hh)
        rw [List.append_nil, List.append_nil] at this
        exact this
    · rw [if_neg hi, ← e]
      have : ∀ m r, walkF (O ++ [x]) m r = walkF O m r := by
        intro m
        induction m with
        | zero => intro r; rfl
        | succ m ih2 =>
          intro r
          rw [walkF, walkF, kids_snoc, if_neg (fun q => hi q.1)]
          congr 1
          funext c
          rw [ih2]
      exact this n _
/-- Whoever knows the same operations has the same row. -/
theorem seq_ext {O O' : List Opn} (h : Rv O) (h' : Rv O') (he : ∀ o, o ∈ O ↔ o ∈ O') : seqE O = seqE O' := by
  rw [← walk_seq h (O.length + O'.length + 1) (by omega), ← walk_seq h' (O.length + O'.length + 1) (by omega)]
  exact walk_ext h h' he _ _
end Go.Proofs.YtlelbepfkkaojaaDoor
