/- Plain mathematics of reading: which rows an expression means, and that what it tells along a text is where these end; nothing of the program is named here. -/
import Derived.Test.YtjbhfonokgkalaaNfaM
namespace Go.Proofs.Ytjbhfonokgkalaa
set_option linter.unusedVariables false
set_option linter.unusedSimpArgs false

/-- A set of rows. -/
abbrev Lg := List Int → Prop
def starG (L : Lg) : Lg := fun w => ∃ n, powL L n w
def nodeG (op : Int) (cl : List Int) (ks : List Lg) (w : List Int) : Prop :=
  if op = 0 then w = [] else if op = 1 then ∃ c, c ∈ cl ∧ w = [c] else if op = 2 then seqL ks w else if op = 3 then altL ks w else if op = 4 then ∃ k, ks = [k] ∧ starG k w else if op = 5 then ∃ k, ks = [k] ∧ (w = [] ∨ k w) else False
def lgF : Fo → List Lg
  | .nil => []
  | .node _ _ a k r => nodeG a.1 a.2 (lgF k) :: lgF r
/-- What an expression means. -/
def Nd.lg (n : Nd) : Lg := nodeG n.op n.cl (lgF n.kids)
theorem lgF_map : (f : Fo) → lgF f = (toL f).map Nd.lg
  | .nil => rfl
  | .node _ _ a k r => by simp only [lgF, toL, List.map_cons, lgF_map r]; rfl
theorem lg_eq (n : Nd) : n.lg = nodeG n.op n.cl ((toL n.kids).map Nd.lg) := by
  show nodeG _ _ (lgF n.kids) = _
  rw [lgF_map]

/-! Where rows end that began at a mark. -/
def chs (h : Hist) : List Int := (h.map (fun x => x.1)).reverse
theorem chs_app (u v : Hist) : chs (u ++ v) = chs v ++ chs u := by simp [chs]
theorem chs_cons (c : Int) (b : Bool) (h : Hist) : chs ((c, b) :: h) = chs h ++ [c] := by simp [chs]
def EndsH (L : Lg) (h : Hist) : Prop := ∃ u c q, h = u ++ (c, true) :: q ∧ L (c :: chs u)
/-- Rows split at a place: what began lower down, and marks that are asked for. -/
def SemD (k : Dn) (L : Lg) : Prop := (k.1 = true ↔ L []) ∧ ∀ h, k.2 h = true ↔ EndsH L h
def SemL : List Dn → List Lg → Prop
  | [], [] => True
  | k :: r, L :: Ls => SemD k L ∧ SemL r Ls
  | _, _ => False
theorem semL_len : (ks : List Dn) → (Ls : List Lg) → SemL ks Ls → ks.length = Ls.length
  | [], [], _ => rfl
  | k :: r, L :: Ls, h => by simp [semL_len r Ls h.2]
  | [], _ :: _, h => h.elim
  | _ :: _, [], h => h.elim
theorem endsH_nil (L : Lg) : ¬ EndsH L [] := by
  rintro ⟨u, c, q, h, _⟩
  simp at h
/-- What nextH marks. -/
theorem endsH_next (R : Lg) (e : Bool) (F : Hist → Bool) (h : Hist) : EndsH R (nextH e F h) ↔ ∃ u d x v, h = u ++ (d, x) :: v ∧ (F v || (x && e)) = true ∧ R (d :: chs u) := by
  have key : ∀ (h : Hist) (R : Lg), EndsH R (nextH e F h) ↔ ∃ u d x v, h = u ++ (d, x) :: v ∧ (F v || (x && e)) = true ∧ R (d :: chs u) := by
    intro h
    induction h with
    | nil =>
      intro R
      constructor
      · intro h; exact absurd h (endsH_nil R)
      · rintro ⟨u, d, x, v, h, _⟩; simp at h
    | cons a h ih =>
      intro R
      obtain ⟨c, b⟩ := a
      have ih2 := ih (fun w => R (w ++ [c]))
      constructor
      · rintro ⟨u, d, q, h1, h2⟩
        cases u with
        | nil =>
          simp only [nextH, List.nil_append, List.cons.injEq, Prod.mk.injEq] at h1
          obtain ⟨⟨h3, h4⟩, h5⟩ := h1
          exact ⟨[], c, b, h, rfl, h4, by rw [h3]; exact h2⟩
        | cons y u =>
          simp only [nextH, List.cons_append, List.cons.injEq] at h1
          obtain ⟨h3, h5⟩ := h1
          have : EndsH (fun w => R (w ++ [c])) (nextH e F h) := by
            refine ⟨u, d, q, h5, ?_⟩
            rw [← h3] at h2
            rw [chs_cons] at h2
            exact h2
          obtain ⟨u', d', x, v, e1, e2, e3⟩ := ih2.1 this
          exact ⟨(c, b) :: u', d', x, v, by rw [e1]; rfl, e2, by rw [chs_cons]; exact e3⟩
      · rintro ⟨u, d, x, v, h1, h2, h3⟩
        cases u with
        | nil =>
          simp only [List.nil_append, List.cons.injEq, Prod.mk.injEq] at h1
          obtain ⟨⟨rfl, rfl⟩, rfl⟩ := h1
          exact ⟨[], c, nextH e F h, by simp only [nextH, h2]; rfl, h3⟩
        | cons y u =>
          simp only [List.cons_append, List.cons.injEq] at h1
          obtain ⟨rfl, rfl⟩ := h1
          rw [chs_cons] at h3
          obtain ⟨u', d', q, e1, e2⟩ := ih2.2 ⟨u, d, x, v, rfl, h2, h3⟩
          refine ⟨(c, F (u ++ (d, x) :: v) || (b && e)) :: u', d', q, by rw [nextH, e1]; rfl, ?_⟩
          rw [chs_cons]; exact e2
  exact key h R
/-- A history whose characters, newest first, are those of two rows. -/
theorem chs_split {h : Hist} {a b : List Int} (e : chs h = a ++ b) : ∃ u v, h = u ++ v ∧ chs u = b ∧ chs v = a := by
  have h1 : h.map (fun x => x.1) = b.reverse ++ a.reverse := by
    have : (h.map (fun x => x.1)).reverse.reverse = (a ++ b).reverse := by rw [← e]; rfl
    rw [List.reverse_reverse, List.reverse_append] at this
    exact this
  obtain ⟨u, v, h2, h3, h4⟩ := List.map_eq_append_iff.1 h1
  refine ⟨u, v, h2, ?_, ?_⟩
  · unfold chs; rw [h3]; simp
  · unfold chs; rw [h4]; simp
/-- One behind the other. -/
def seqG (K R : Lg) : Lg := fun w => ∃ u v, w = u ++ v ∧ K u ∧ R v
theorem endsH_seq {k : Dn} {K R : Lg} (hk : SemD k K) (h : Hist) : EndsH (seqG K R) h ↔ (k.2 h = true ∧ R []) ∨ EndsH R (nextH k.1 k.2 h) := by
  rw [endsH_next]
  constructor
  · rintro ⟨u, c, q, rfl, a, b, e, ha, hb⟩
    cases a with
    | nil =>
      right
      rw [List.nil_append] at e
      exact ⟨u, c, true, q, rfl, by rw [hk.1.2 ha]; simp, by rw [e]; exact hb⟩
    | cons c' a =>
      simp only [List.cons_append, List.cons.injEq] at e
      obtain ⟨rfl, e⟩ := e
      obtain ⟨u1, u2, rfl, e1, e2⟩ := chs_split e
      have hF : k.2 (u2 ++ (c, true) :: q) = true := (hk.2 _).2 ⟨u2, c, q, rfl, by rw [e2]; exact ha⟩
      rcases List.eq_nil_or_concat u1 with rfl | ⟨u1', y, rfl⟩
      · left
        have : b = [] := by rw [← e1]; rfl
        rw [this] at hb
        exact ⟨by simpa using hF, hb⟩
      · right
        obtain ⟨d, x⟩ := y
        refine ⟨u1', d, x, u2 ++ (c, true) :: q, by simp, by rw [hF]; rfl, ?_⟩
        rw [← e1] at hb
        simpa [chs] using hb
  · rintro (⟨h1, h2⟩ | ⟨u, d, x, v, rfl, h1, h2⟩)
    · obtain ⟨u, c, q, rfl, h3⟩ := (hk.2 h).1 h1
      exact ⟨u, c, q, rfl, c :: chs u, [], by simp, h3, h2⟩
    · rw [Bool.or_eq_true, Bool.and_eq_true] at h1
      rcases h1 with h1 | ⟨h1, h3⟩
      · obtain ⟨u', c, q, rfl, h4⟩ := (hk.2 v).1 h1
        refine ⟨u ++ (d, x) :: u', c, q, by simp, c :: chs u', d :: chs u, ?_, h4, h2⟩
        rw [chs_app, chs_cons]
        simp
      · subst h1
        exact ⟨u, d, v, rfl, [], d :: chs u, rfl, hk.1.1 h3, h2⟩
theorem row_sem : (ks : List Dn) → (Ls : List Lg) → SemL ks Ls → (acc : Bool) → (h : Hist) → (rowE acc ks h = true ↔ (acc = true ∧ seqL Ls []) ∨ EndsH (seqL Ls) h)
  | [], [], _, acc, h => by
    simp only [rowE, seqL, and_true]
    constructor
    · intro h; exact .inl h
    · rintro (h | ⟨u, c, q, _, h2⟩)
      · exact h
      · cases h2
  | k :: r, L :: Ls, hf, acc, h => by
    obtain ⟨hk, hr⟩ := hf
    rw [rowE, row_sem r Ls hr]
    have e : EndsH (seqL (L :: Ls)) h ↔ EndsH (seqG L (seqL Ls)) h := Iff.rfl
    rw [e, endsH_seq hk h, Bool.or_eq_true, Bool.and_eq_true, hk.1]
    have e2 : seqL (L :: Ls) [] ↔ L [] ∧ seqL Ls [] := by
      simp only [seqL]
      constructor
      · rintro ⟨u, v, h1, h2, h3⟩
        have h4 := List.append_eq_nil_iff.1 h1.symm
        rw [h4.1] at h2
        rw [h4.2] at h3
        exact ⟨h2, h3⟩
      · rintro ⟨h1, h2⟩
        exact ⟨[], [], rfl, h1, h2⟩
    rw [e2]
    constructor
    · rintro (⟨h1 | ⟨h1, h2⟩, h3⟩ | h1)
      · exact .inr (.inl ⟨h1, h3⟩)
      · exact .inl ⟨h1, h2, h3⟩
      · exact .inr (.inr h1)
    · rintro (⟨h1, h2, h3⟩ | ⟨h1, h3⟩ | h1)
      · exact .inl ⟨.inr ⟨h1, h2⟩, h3⟩
      · exact .inl ⟨.inl h1, h3⟩
      · exact .inr h1
  | [], _ :: _, h, _, _ => h.elim
  | _ :: _, [], h, _, _ => h.elim
theorem any_sem : (ks : List Dn) → (Ls : List Lg) → SemL ks Ls → ((ks.any (fun k => k.1) = true ↔ altL Ls []) ∧ ∀ h, (anyE ks h = true ↔ EndsH (altL Ls) h))
  | [], [], _ => by
    refine ⟨by simp [altL], fun h => ?_⟩
    simp only [anyE, List.any_nil, Bool.false_eq_true, false_iff]
    rintro ⟨_, _, _, _, h2⟩
    simp [altL] at h2
  | k :: r, L :: Ls, hf => by
    obtain ⟨hk, hr⟩ := hf
    obtain ⟨i1, i2⟩ := any_sem r Ls hr
    have hc : ∀ w, altL (L :: Ls) w ↔ L w ∨ altL Ls w := by intro w; simp [altL]
    refine ⟨?_, fun h => ?_⟩
    · rw [List.any_cons, Bool.or_eq_true, hk.1, i1, hc]
    · have e : anyE (k :: r) h = (k.2 h || anyE r h) := by simp [anyE]
      rw [e, Bool.or_eq_true, hk.2, i2]
      unfold EndsH
      simp only [hc]
      constructor
      · rintro (⟨u, c, q, h1, h2⟩ | ⟨u, c, q, h1, h2⟩)
        · exact ⟨u, c, q, h1, .inl h2⟩
        · exact ⟨u, c, q, h1, .inr h2⟩
      · rintro ⟨u, c, q, h1, h2 | h2⟩
        · exact .inl ⟨u, c, q, h1, h2⟩
        · exact .inr ⟨u, c, q, h1, h2⟩
  | [], _ :: _, h => h.elim
  | _ :: _, [], h => h.elim
theorem all_sem : (ks : List Dn) → (Ls : List Lg) → SemL ks Ls → (ks.all (fun k => k.1) = true ↔ seqL Ls [])
  | [], [], _ => by simp [seqL]
  | k :: r, L :: Ls, hf => by
    obtain ⟨hk, hr⟩ := hf
    rw [List.all_cons, Bool.and_eq_true, hk.1, all_sem r Ls hr]
    simp only [seqL]
    constructor
    · rintro ⟨h1, h2⟩
      exact ⟨[], [], rfl, h1, h2⟩
    · rintro ⟨u, v, h1, h2, h3⟩
      have h4 := List.append_eq_nil_iff.1 h1.symm
      rw [h4.1] at h2
      rw [h4.2] at h3
      exact ⟨h2, h3⟩
  | [], _ :: _, h => h.elim
  | _ :: _, [], h => h.elim
/-! Any number. -/
theorem pow_end (k : Lg) : (n : Nat) → (w : List Int) → (powL k (n + 1) w ↔ ∃ u v, w = u ++ v ∧ powL k n u ∧ k v)
  | 0, w => by
    simp only [powL]
    constructor
    · rintro ⟨u, v, rfl, h, rfl⟩; exact ⟨[], u, by simp, rfl, h⟩
    · rintro ⟨u, v, rfl, rfl, h⟩; exact ⟨v, [], by simp, h, rfl⟩
  | n + 1, w => by
    constructor
    · rintro ⟨u, v, rfl, h1, h2⟩
      obtain ⟨a, b, rfl, h3, h4⟩ := (pow_end k n v).1 h2
      exact ⟨u ++ a, b, by simp, ⟨u, a, rfl, h1, h3⟩, h4⟩
    · rintro ⟨u, v, rfl, ⟨a, b, rfl, h1, h2⟩, h3⟩
      exact ⟨a, b ++ v, by simp, h1, (pow_end k n _).2 ⟨b, v, rfl, h2, h3⟩⟩
theorem star_last (K : Lg) : (n : Nat) → (w : List Int) → powL K n w → w ≠ [] → ∃ u v, w = u ++ v ∧ starG K u ∧ K v ∧ v ≠ []
  | 0, w, h, hne => absurd h hne
  | n + 1, w, h, hne => by
    obtain ⟨u, v, rfl, h1, h2⟩ := (pow_end K n w).1 h
    by_cases hv : v = []
    · subst hv
      rw [List.append_nil] at hne ⊢
      exact star_last K n u h1 hne
    · exact ⟨u, v, rfl, ⟨n, h1⟩, h2, hv⟩
theorem endsH_star (K : Lg) (F : Hist → Bool) (h : Hist) : EndsH K (starH F h) ↔ ∃ u d x v, h = u ++ (d, x) :: v ∧ (x || F (starH F v)) = true ∧ K (d :: chs u) := by
  have key : ∀ (h : Hist) (R : Lg), EndsH R (starH F h) ↔ ∃ u d x v, h = u ++ (d, x) :: v ∧ (x || F (starH F v)) = true ∧ R (d :: chs u) := by
    intro h
    induction h with
    | nil =>
      intro R
      constructor
      · intro h; exact absurd h (endsH_nil R)
      · rintro ⟨u, d, x, v, h, _⟩; simp at h
    | cons a h ih =>
      intro R
      obtain ⟨c, b⟩ := a
      have ih2 := ih (fun w => R (w ++ [c]))
      constructor
      · rintro ⟨u, d, q, h1, h2⟩
        cases u with
        | nil =>
          simp only [starH, List.nil_append, List.cons.injEq, Prod.mk.injEq] at h1
          obtain ⟨⟨h3, h4⟩, h5⟩ := h1
          exact ⟨[], c, b, h, rfl, h4, by rw [h3]; exact h2⟩
        | cons y u =>
          simp only [starH, List.cons_append, List.cons.injEq] at h1
          obtain ⟨h3, h5⟩ := h1
          have : EndsH (fun w => R (w ++ [c])) (starH F h) := by
            refine ⟨u, d, q, h5, ?_⟩
            rw [← h3, chs_cons] at h2
            exact h2
          obtain ⟨u', d', x, v, e1, e2, e3⟩ := ih2.1 this
          exact ⟨(c, b) :: u', d', x, v, by rw [e1]; rfl, e2, by rw [chs_cons]; exact e3⟩
      · rintro ⟨u, d, x, v, h1, h2, h3⟩
        cases u with
        | nil =>
          simp only [List.nil_append, List.cons.injEq, Prod.mk.injEq] at h1
          obtain ⟨⟨rfl, rfl⟩, rfl⟩ := h1
          exact ⟨[], c, starH F h, by simp only [starH, h2]; rfl, h3⟩
        | cons y u =>
          simp only [List.cons_append, List.cons.injEq] at h1
          obtain ⟨rfl, rfl⟩ := h1
          rw [chs_cons] at h3
          obtain ⟨u', d', q, e1, e2⟩ := ih2.2 ⟨u, d, x, v, rfl, h2, h3⟩
          refine ⟨(c, b || F (starH F (u ++ (d, x) :: v))) :: u', d', q, by rw [starH, e1]; rfl, ?_⟩
          rw [chs_cons]; exact e2
  exact key h K
theorem star_sem {F : Hist → Bool} {K : Lg} (hF : ∀ h, F h = true ↔ EndsH K h) : (n : Nat) → (h : Hist) → h.length ≤ n → (F (starH F h) = true ↔ EndsH (starG K) h)
  | 0, h, hn => by
    have : h = [] := List.eq_nil_of_length_eq_zero (by omega)
    subst this
    rw [hF]
    constructor
    · intro h; exact absurd h (endsH_nil K)
    · intro h; exact absurd h (endsH_nil _)
  | n + 1, h, hn => by
    rw [hF, endsH_star]
    constructor
    · rintro ⟨u, d, x, v, rfl, h1, h2⟩
      rw [Bool.or_eq_true] at h1
      rcases h1 with rfl | h1
      · exact ⟨u, d, v, rfl, 1, d :: chs u, [], by simp, h2, rfl⟩
      · obtain ⟨u', c, q, rfl, m, h4⟩ := (star_sem hF n v (by simp at hn; omega)).1 h1
        refine ⟨u ++ (d, x) :: u', c, q, by simp, m + 1, (pow_end K m _).2 ⟨c :: chs u', d :: chs u, ?_, h4, h2⟩⟩
        rw [chs_app, chs_cons]
        simp
    · rintro ⟨u, c, q, rfl, m, h2⟩
      obtain ⟨a, b, e, h3, h4, h5⟩ := star_last K m _ h2 (by simp)
      cases a with
      | nil =>
        rw [List.nil_append] at e
        exact ⟨u, c, true, q, rfl, rfl, by rw [e]; exact h4⟩
      | cons c' a =>
        simp only [List.cons_append, List.cons.injEq] at e
        obtain ⟨rfl, e⟩ := e
        obtain ⟨u1, u2, rfl, e1, e2⟩ := chs_split e
        rcases List.eq_nil_or_concat u1 with rfl | ⟨u1', y, rfl⟩
        · exact absurd (by rw [← e1]; rfl) h5
        · obtain ⟨d, x⟩ := y
          refine ⟨u1', d, x, u2 ++ (c, true) :: q, by simp, ?_, ?_⟩
          · rw [(star_sem hF n (u2 ++ (c, true) :: q) (by simp at hn ⊢; omega)).2 ⟨u2, c, q, rfl, by rw [e2]; exact h3⟩]
            simp
          · rw [← e1] at h4
            simpa [chs] using h4
/-! A node by its parts. -/
theorem one_sem {ks : List Dn} {Ls : List Lg} (hf : SemL ks Ls) (hl : Ls.length ≤ 1) : (ks = [] ∧ Ls = []) ∨ ∃ k K, ks = [k] ∧ Ls = [K] ∧ SemD k K := by
  match ks, Ls, hf, hl with
  | [], [], _, _ => exact .inl ⟨rfl, rfl⟩
  | k :: r, K :: Ls, hf, hl =>
    have h1 : Ls = [] := List.eq_nil_of_length_eq_zero (by simp only [List.length_cons] at hl; omega)
    subst h1
    have h2 : r = [] := List.eq_nil_of_length_eq_zero (by have := semL_len _ _ hf.2; simpa using this)
    subst h2
    exact .inr ⟨k, K, rfl, rfl, hf.1⟩
theorem node_sem (op : Int) (cl : List Int) (ks : List Dn) (Ls : List Lg) (hf : SemL ks Ls) (hn : op = 4 ∨ op = 5 → Ls.length ≤ 1) : SemD (nodeM op ks, nodeE op cl ks) (nodeG op cl Ls) := by
  by_cases h0 : op = 0
  · subst h0
    refine ⟨by simp [nodeM, nodeG], fun h => ?_⟩
    simp only [nodeE]
    constructor
    · intro h; simp at h
    · rintro ⟨_, _, _, _, h2⟩; simp [nodeG] at h2
  by_cases h1 : op = 1
  · subst h1
    refine ⟨by simp [nodeM, nodeG], fun h => ?_⟩
    show setE cl h = true ↔ _
    cases h with
    | nil =>
      constructor
      · intro h; simp [setE] at h
      · intro h; exact absurd h (endsH_nil _)
    | cons a h =>
      obtain ⟨c, b⟩ := a
      simp only [setE, Bool.and_eq_true, decide_eq_true_eq]
      constructor
      · rintro ⟨rfl, h2⟩
        exact ⟨[], c, h, rfl, by simp [nodeG, chs, h2]⟩
      · rintro ⟨u, d, q, e, h2⟩
        have h3 : d ∈ cl ∧ chs u = [] := by
          have h4 : ∃ c, c ∈ cl ∧ d = c ∧ chs u = [] := by simpa [nodeG] using h2
          obtain ⟨c', k1, k2, k3⟩ := h4
          exact ⟨by rw [k2]; exact k1, k3⟩
        have hu : u = [] := by
          have := h3.2
          unfold chs at this
          simpa using this
        subst hu
        simp only [List.nil_append, List.cons.injEq, Prod.mk.injEq] at e
        exact ⟨e.1.2, by rw [e.1.1]; exact h3.1⟩
  by_cases h2 : op = 2
  · subst h2
    refine ⟨?_, fun h => ?_⟩
    · show (if (2 : Int) = 0 then true else _) = true ↔ _
      simpa [nodeM, nodeG] using all_sem ks Ls hf
    · have := row_sem ks Ls hf false h
      simp only [Bool.false_eq_true, false_and, false_or] at this
      simpa [nodeE, nodeG, EndsH] using this
  by_cases h3 : op = 3
  · subst h3
    obtain ⟨a1, a2⟩ := any_sem ks Ls hf
    refine ⟨by simpa [nodeM, nodeG] using a1, fun h => ?_⟩
    simpa [nodeE, nodeG, EndsH] using a2 h
  by_cases h4 : op = 4
  · subst h4
    have hl := hn (.inl rfl)
    rcases one_sem hf hl with ⟨rfl, rfl⟩ | ⟨k, K, rfl, rfl, hk⟩
    · refine ⟨by simp [nodeM, nodeG], fun h => ?_⟩
      constructor
      · intro h; simp [nodeE, anyE] at h
      · rintro ⟨_, _, _, _, h2⟩; simp [nodeG] at h2
    · refine ⟨?_, fun h => ?_⟩
      · simp only [nodeM, nodeG]
        simp
        exact ⟨0, rfl⟩
      · have e : (fun h => anyE [k] h) = k.2 := by funext h; simp [anyE]
        have h5 := star_sem hk.2 h.length h (Nat.le_refl _)
        have h6 : nodeE 4 cl [k] h = k.2 (starH k.2 h) := by
          show anyE [k] (starH (anyE [k]) h) = _
          rw [show anyE [k] = k.2 from e]
        show nodeE 4 cl [k] h = true ↔ _
        rw [h6, h5]
        unfold EndsH
        simp [nodeG]
  by_cases h5 : op = 5
  · subst h5
    have hl := hn (.inr rfl)
    rcases one_sem hf hl with ⟨rfl, rfl⟩ | ⟨k, K, rfl, rfl, hk⟩
    · refine ⟨by simp [nodeM, nodeG], fun h => ?_⟩
      constructor
      · intro h; simp [nodeE, anyE] at h
      · rintro ⟨_, _, _, _, h2⟩; simp [nodeG] at h2
    · refine ⟨by simp [nodeM, nodeG], fun h => ?_⟩
      have h6 : nodeE 5 cl [k] h = k.2 h := by
        show anyE [k] h = _
        simp [anyE]
      show nodeE 5 cl [k] h = true ↔ _
      rw [h6, hk.2]
      unfold EndsH
      simp [nodeG]
  · refine ⟨by simp [nodeM, nodeG, h0, h1, h2, h3, h4, h5], fun h => ?_⟩
    constructor
    · intro h; simp [nodeE, h0, h1, h2, h3, h4, h5] at h
    · rintro ⟨_, _, _, _, hh⟩; simp [nodeG, h0, h1, h2, h3, h4, h5] at hh
end Go.Proofs.Ytjbhfonokgkalaa
