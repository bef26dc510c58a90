/- Plain mathematics for ReadingLeft, ReadingSame and ReadingStart: what is behind a place does not matter to a Left; classes that nobody names are alike; a rule with Start fits where it fits without, and behind a class that nobody names nowhere. -/
import Derived.Test.YtjbhfonokgkalaaReaZ
namespace Go.Proofs.Ytjbhfonokgkalaa
set_option linter.unusedVariables false
set_option linter.unusedSimpArgs false

/-! ### Left -/
theorem fitR_nil (r : Rl) (h : r.right = nilNd) (xs : List Int) (p : Nat) : r.fitR xs p = true := by
  have h2 : (nilNd.nrm true).emp = true := rfl
  unfold Rl.fitR endsAt
  rw [h, h2]
  simp
theorem fit_left (r : Rl) (h : r.right = nilNd) (xs ys : List Int) (p : Nat) (hp : p ≤ xs.length) : r.fit (xs ++ ys) p = r.fit xs p := by
  unfold Rl.fit
  rw [fitR_nil r h, fitR_nil r h]
  unfold Rl.fitL
  rw [List.take_append_of_le_length hp]
theorem saysB_congr (q q' : Rl → Bool) : (l : List Rl) → (∀ r ∈ l, q r = q' r) → saysB q l = saysB q' l
  | [], _ => rfl
  | r :: l, h => by
    simp only [saysB, h r (by simp), saysB_congr q q' l (fun x hx => h x (by simp [hx]))]
theorem bound_left (l : List Rl) (hl : ∀ r ∈ l, r.right = nilNd) (xs ys : List Int) (p : Nat) (hp : p < xs.length) : boundAt l (xs ++ ys) p = boundAt l xs p := by
  unfold boundAt
  by_cases h0 : p = 0
  · rw [if_pos (.inl h0), if_pos (.inl h0)]
    rw [Bool.eq_iff_iff]
    simp only [decide_eq_true_eq, List.length_append]
    omega
  · rw [if_neg (by rw [List.length_append]; omega), if_neg (by omega)]
    exact saysB_congr _ _ l (fun r hr => fit_left r (hl r hr) xs ys p (by omega))

/-! ### A relation of what was read, kept by all that is told of it -/
/-- Two readings, step by step alike. -/
def HR (E : Int × Bool → Int × Bool → Prop) : Hist → Hist → Prop
  | [], [] => True
  | x :: h, y :: h' => E x y ∧ HR E h h'
  | _, _ => False

/-! ### Same -/
/-- Is there a class above 3? -/
def bigF : Fo → Bool
  | .nil => false
  | .node _ _ a k r => a.2.any (fun c => decide (3 < c)) || bigF k || bigF r
def Nd.big (n : Nd) : Bool := n.cl.any (fun c => decide (3 < c)) || bigF n.kids
def eqE (x y : Int × Bool) : Prop := x.2 = y.2 ∧ (x.1 = y.1 ∨ (3 < x.1 ∧ 3 < y.1))
/-- It tells the same of readings that are alike. -/
def Same3 (F : Hist → Bool) : Prop := ∀ h h', HR eqE h h' → F h = F h'
theorem same_next {e : Bool} {F : Hist → Bool} (hF : Same3 F) : (h h' : Hist) → HR eqE h h' → HR eqE (nextH e F h) (nextH e F h')
  | [], [], _ => trivial
  | x :: h, y :: h', ⟨h1, h2⟩ => by
    obtain ⟨c, b⟩ := x; obtain ⟨c', b'⟩ := y
    refine ⟨⟨?_, h1.2⟩, same_next hF h h' h2⟩
    show (F h || (b && e)) = (F h' || (b' && e))
    rw [hF h h' h2, show b = b' from h1.1]
  | [], _ :: _, h => h.elim
  | _ :: _, [], h => h.elim
theorem same_star {F : Hist → Bool} (hF : Same3 F) : (h h' : Hist) → HR eqE h h' → HR eqE (starH F h) (starH F h')
  | [], [], _ => trivial
  | x :: h, y :: h', ⟨h1, h2⟩ => by
    obtain ⟨c, b⟩ := x; obtain ⟨c', b'⟩ := y
    have ih := same_star hF h h' h2
    refine ⟨⟨?_, h1.2⟩, ih⟩
    show (b || F (starH F h)) = (b' || F (starH F h'))
    rw [hF _ _ ih, show b = b' from h1.1]
  | [], _ :: _, h => h.elim
  | _ :: _, [], h => h.elim
theorem same_row : (ks : List Dn) → (∀ k ∈ ks, Same3 k.2) → (acc : Bool) → Same3 (rowE acc ks)
  | [], _, acc => fun _ _ _ => rfl
  | k :: r, hk, acc => fun h h' hh => by
    simp only [rowE]
    rw [hk k (by simp) h h' hh]
    exact same_row r (fun x hx => hk x (by simp [hx])) _ _ _ (same_next (hk k (by simp)) h h' hh)
theorem same_any (ks : List Dn) (hk : ∀ k ∈ ks, Same3 k.2) : Same3 (anyE ks) := fun h h' hh => by
  unfold anyE
  induction ks with
  | nil => rfl
  | cons k r ih => simp only [List.any_cons]; rw [hk k (by simp) h h' hh, ih (fun x hx => hk x (by simp [hx]))]
theorem same_set (cl : List Int) (hc : cl.any (fun c => decide (3 < c)) = false) : Same3 (setE cl)
  | [], [], _ => rfl
  | x :: h, y :: h', ⟨h1, h2⟩ => by
    obtain ⟨c, b⟩ := x; obtain ⟨c', b'⟩ := y
    show (b && decide (c ∈ cl)) = (b' && decide (c' ∈ cl))
    rw [show b = b' from h1.1]
    rcases h1.2 with h3 | ⟨h3, h4⟩
    · rw [show c = c' from h3]
    · have hn : ∀ z : Int, 3 < z → ¬ z ∈ cl := fun z hz hm => by
        have := List.any_eq_false.1 hc z hm
        simp at this
        omega
      simp [hn c h3, hn c' h4]
  | [], _ :: _, h => h.elim
  | _ :: _, [], h => h.elim
theorem same_den : (f : Fo) → bigF f = false → ∀ k ∈ den f, Same3 k.2
  | .nil, _, k, h => by simp [den] at h
  | .node _ _ a f r, hb, k, h => by
    simp only [bigF, Bool.or_eq_false_iff] at hb
    simp only [den, List.mem_cons] at h
    rcases h with rfl | h
    · have ih := same_den f hb.1.2
      have ha := same_any _ ih
      intro h h' hh
      show nodeE a.1 a.2 (den f) h = nodeE a.1 a.2 (den f) h'
      unfold nodeE
      split
      · exact same_set _ hb.1.1 h h' hh
      · split
        · exact same_row _ ih false h h' hh
        · split
          · exact ha h h' hh
          · split
            · exact ha _ _ (same_star ha h h' hh)
            · rfl
    · exact same_den r hb.2 k h
theorem same_end (n : Nd) (hb : n.big = false) : Same3 n.end :=
  same_den (.node 0 0 (n.op, n.cl) n.kids .nil) (by simp only [bigF, Bool.or_false]; exact hb) (n.emp, n.end) (by simp only [den, List.mem_cons]; exact .inl rfl)
/-- Two texts alike. -/
def TR : List Int → List Int → Prop
  | [], [] => True
  | x :: h, y :: h' => (x = y ∨ (3 < x ∧ 3 < y)) ∧ TR h h'
  | _, _ => False
theorem TR.len : (a b : List Int) → TR a b → a.length = b.length
  | [], [], _ => rfl
  | x :: h, y :: h', ⟨_, h2⟩ => by simp [TR.len h h' h2]
  | [], _ :: _, h => h.elim
  | _ :: _, [], h => h.elim
theorem TR.snoc : (a b : List Int) → TR a b → (x y : Int) → (x = y ∨ (3 < x ∧ 3 < y)) → TR (a ++ [x]) (b ++ [y])
  | [], [], _, x, y, h => ⟨h, trivial⟩
  | x :: h, y :: h', ⟨h1, h2⟩, u, v, h3 => ⟨h1, TR.snoc h h' h2 u v h3⟩
  | [], _ :: _, h, _, _, _ => h.elim
  | _ :: _, [], h, _, _, _ => h.elim
theorem TR.rev : (a b : List Int) → TR a b → TR a.reverse b.reverse
  | [], [], _ => trivial
  | x :: h, y :: h', ⟨h1, h2⟩ => by
    rw [List.reverse_cons, List.reverse_cons]
    exact TR.snoc _ _ (TR.rev h h' h2) x y h1
  | [], _ :: _, h => h.elim
  | _ :: _, [], h => h.elim
theorem TR.take : (a b : List Int) → TR a b → (p : Nat) → TR (a.take p) (b.take p)
  | [], [], _, p => by simp [TR]
  | x :: h, y :: h', ⟨h1, h2⟩, 0 => trivial
  | x :: h, y :: h', ⟨h1, h2⟩, p + 1 => ⟨h1, TR.take h h' h2 p⟩
  | [], _ :: _, h, _ => h.elim
  | _ :: _, [], h, _ => h.elim
theorem TR.drop : (a b : List Int) → TR a b → (p : Nat) → TR (a.drop p) (b.drop p)
  | [], [], _, p => by simp [TR]
  | x :: h, y :: h', h1, 0 => h1
  | x :: h, y :: h', ⟨h1, h2⟩, p + 1 => TR.drop h h' h2 p
  | [], _ :: _, h, _ => h.elim
  | _ :: _, [], h, _ => h.elim
theorem TR.hist (any : Bool) : (a b : List Int) → TR a b → HR eqE (hsr any a) (hsr any b)
  | [], [], _ => trivial
  | x :: h, y :: h', ⟨h1, h2⟩ => by
    refine ⟨⟨?_, h1⟩, TR.hist any h h' h2⟩
    show (any || h.isEmpty) = (any || h'.isEmpty)
    have hl := TR.len h h' h2
    cases h <;> cases h' <;> first | rfl | (simp at hl)
  | [], _ :: _, h => h.elim
  | _ :: _, [], h => h.elim
theorem ends_same (n : Nd) (hb : n.big = false) (any : Bool) (a b : List Int) (h : TR a b) : endsAt n any a = endsAt n any b := by
  unfold endsAt
  rw [same_end n hb _ _ (TR.hist any a b h)]
  have hl := TR.len a b h
  cases a <;> cases b <;> first | rfl | (simp at hl)
theorem bigF_toL : (f : Fo) → bigF f = (toL f).any Nd.big
  | .nil => rfl
  | .node _ _ a k r => by
    simp only [bigF, toL, List.any_cons, bigF_toL r]
    rfl
theorem big_ofL (l : List Nd) (h : ∀ n ∈ l, n.big = false) : bigF (ofL l) = false := by
  rw [bigF_toL, toL_ofL, List.any_eq_false]
  intro n hn
  rw [h n hn]
  simp
theorem big_kids (t : Bool) (op : Int) (k : Nat) (l : List Nd) (h : ∀ n ∈ l, n.big = false) : bigF (ofL (if cnt op k then revL t l else [])) = false := by
  apply big_ofL
  split
  · unfold revL
    split
    · intro n hn; exact h n (List.mem_reverse.1 hn)
    · exact h
  · simp
theorem nrm_big (t : Bool) : (f : Fo) → bigF f = false → ∀ n ∈ nrm t f, n.big = false
  | .nil, _, n, hn => by simp [nrm] at hn
  | .node _ _ a k r, hb, n, hn => by
    simp only [bigF, Bool.or_eq_false_iff] at hb
    simp only [nrm, List.mem_cons] at hn
    rcases hn with rfl | hn
    · show (a.2.any (fun c => decide (3 < c)) || bigF (ofL _)) = false
      rw [hb.1.1, big_kids t _ _ _ (nrm_big t k hb.1.2)]
      rfl
    · exact nrm_big t r hb.2 n hn
theorem Nd.nrm_big (t : Bool) (n : Nd) (h : n.big = false) : (n.nrm t).big = false := by
  simp only [Nd.big, Bool.or_eq_false_iff] at h
  show (n.cl.any (fun c => decide (3 < c)) || bigF (ofL _)) = false
  rw [h.1, big_kids t _ _ _ (Go.Proofs.Ytjbhfonokgkalaa.nrm_big t n.kids h.2)]
  rfl
theorem fit_same (r : Rl) (hl : r.left.big = false) (hr : r.right.big = false) (xs ys : List Int) (h : TR xs ys) (p : Nat) : r.fit xs p = r.fit ys p := by
  unfold Rl.fit Rl.fitL Rl.fitR
  rw [ends_same _ (Nd.nrm_big false _ hl) _ _ _ (TR.rev _ _ (TR.take _ _ h p)), ends_same _ (Nd.nrm_big true _ hr) _ _ _ (TR.drop _ _ h p)]
theorem bound_same (l : List Rl) (hl : ∀ r ∈ l, r.left.big = false ∧ r.right.big = false) (xs ys : List Int) (h : TR xs ys) (p : Nat) : boundAt l xs p = boundAt l ys p := by
  unfold boundAt
  rw [TR.len _ _ h, saysB_congr _ _ l (fun r hr => fit_same r (hl r hr).1 (hl r hr).2 xs ys h p)]
theorem boundL_same (l : List Rl) (hl : ∀ r ∈ l, r.left.big = false ∧ r.right.big = false) (xs ys : List Int) (h : TR xs ys) : boundL l xs = boundL l ys := by
  unfold boundL
  rw [TR.len _ _ h]
  exact List.map_congr_left (fun p _ => bound_same l hl xs ys h p)

/-! ### Start -/
def leE (x y : Int × Bool) : Prop := x.1 = y.1 ∧ (x.2 = true → y.2 = true)
/-- Where more begins, no less ends. -/
def Up (F : Hist → Bool) : Prop := ∀ h h', HR leE h h' → F h = true → F h' = true
theorem up_next {e : Bool} {F : Hist → Bool} (hF : Up F) : (h h' : Hist) → HR leE h h' → HR leE (nextH e F h) (nextH e F h')
  | [], [], _ => trivial
  | x :: h, y :: h', ⟨h1, h2⟩ => by
    obtain ⟨c, b⟩ := x; obtain ⟨c', b'⟩ := y
    refine ⟨⟨h1.1, ?_⟩, up_next hF h h' h2⟩
    show (F h || (b && e)) = true → (F h' || (b' && e)) = true
    have h3 := hF h h' h2
    have h4 : b = true → b' = true := h1.2
    simp only [Bool.or_eq_true, Bool.and_eq_true]
    rintro (h5 | ⟨h5, h6⟩)
    · exact .inl (h3 h5)
    · exact .inr ⟨h4 h5, h6⟩
  | [], _ :: _, h => h.elim
  | _ :: _, [], h => h.elim
theorem up_star {F : Hist → Bool} (hF : Up F) : (h h' : Hist) → HR leE h h' → HR leE (starH F h) (starH F h')
  | [], [], _ => trivial
  | x :: h, y :: h', ⟨h1, h2⟩ => by
    obtain ⟨c, b⟩ := x; obtain ⟨c', b'⟩ := y
    have ih := up_star hF h h' h2
    refine ⟨⟨h1.1, ?_⟩, ih⟩
    show (b || F (starH F h)) = true → (b' || F (starH F h')) = true
    have h3 := hF _ _ ih
    have h4 : b = true → b' = true := h1.2
    simp only [Bool.or_eq_true]
    rintro (h5 | h5)
    · exact .inl (h4 h5)
    · exact .inr (h3 h5)
  | [], _ :: _, h => h.elim
  | _ :: _, [], h => h.elim
theorem up_row : (ks : List Dn) → (∀ k ∈ ks, Up k.2) → (acc acc' : Bool) → (acc = true → acc' = true) → (h h' : Hist) → HR leE h h' → rowE acc ks h = true → rowE acc' ks h' = true
  | [], _, acc, acc', ha, _, _, _ => ha
  | k :: r, hk, acc, acc', ha, h, h', hh => by
    simp only [rowE]
    refine up_row r (fun x hx => hk x (by simp [hx])) _ _ ?_ _ _ (up_next (hk k (by simp)) h h' hh)
    have h3 := hk k (by simp) h h' hh
    simp only [Bool.or_eq_true, Bool.and_eq_true]
    rintro (h5 | ⟨h5, h6⟩)
    · exact .inl (h3 h5)
    · exact .inr ⟨ha h5, h6⟩
theorem up_any (ks : List Dn) (hk : ∀ k ∈ ks, Up k.2) : Up (anyE ks) := fun h h' hh => by
  unfold anyE
  simp only [List.any_eq_true]
  rintro ⟨k, h1, h2⟩
  exact ⟨k, h1, hk k h1 h h' hh h2⟩
theorem up_set (cl : List Int) : Up (setE cl)
  | [], [], _ => fun h => h
  | x :: h, y :: h', ⟨h1, h2⟩ => by
    obtain ⟨c, b⟩ := x; obtain ⟨c', b'⟩ := y
    show (b && decide (c ∈ cl)) = true → (b' && decide (c' ∈ cl)) = true
    have h4 : b = true → b' = true := h1.2
    rw [show c = c' from h1.1]
    simp only [Bool.and_eq_true]
    rintro ⟨h5, h6⟩
    exact ⟨h4 h5, h6⟩
  | [], _ :: _, h => h.elim
  | _ :: _, [], h => h.elim
theorem up_den : (f : Fo) → ∀ k ∈ den f, Up k.2
  | .nil, k, h => by simp [den] at h
  | .node _ _ a f r, k, h => by
    simp only [den, List.mem_cons] at h
    rcases h with rfl | h
    · have ih := up_den f
      have ha := up_any _ ih
      intro h h' hh
      show nodeE a.1 a.2 (den f) h = true → nodeE a.1 a.2 (den f) h' = true
      unfold nodeE
      split
      · exact up_set _ h h' hh
      · split
        · exact up_row _ ih false false (fun h => h) h h' hh
        · split
          · exact ha h h' hh
          · split
            · exact ha _ _ (up_star ha h h' hh)
            · exact fun h => h
    · exact up_den r k h
theorem up_end (n : Nd) : Up n.end := up_den (.node 0 0 (n.op, n.cl) n.kids .nil) (n.emp, n.end) (by simp only [den, List.mem_cons]; exact .inl rfl)
theorem hsr_le : (a : List Int) → HR leE (hsr false a) (hsr true a)
  | [] => trivial
  | x :: h => ⟨⟨rfl, fun _ => by simp⟩, hsr_le h⟩
theorem ends_up (n : Nd) (a : List Int) (h : endsAt n false a = true) : endsAt n true a = true := by
  unfold endsAt at h ⊢
  split
  · rename_i h1; rw [if_pos h1] at h; exact h
  · rename_i h1
    rw [if_neg h1] at h
    simp only [Bool.false_and, Bool.or_false] at h
    rw [up_end n _ _ (hsr_le a) h]
    rfl
/-- Where it fits with Start it fits without. -/
theorem fit_start (x y : Nd) (b : Bool) (xs : List Int) (p : Nat) (h : (⟨x, y, b, true⟩ : Rl).fit xs p = true) : (⟨x, y, b, false⟩ : Rl).fit xs p = true := by
  unfold Rl.fit at h ⊢
  rw [Bool.and_eq_true] at h ⊢
  exact ⟨ends_up _ _ h.1, h.2⟩
/-- Does a class stand anywhere in it? -/
def hasF (s : Int) : Fo → Bool
  | .nil => false
  | .node _ _ a k r => decide (s ∈ a.2) || hasF s k || hasF s r
def Nd.has (s : Int) (n : Nd) : Bool := decide (s ∈ n.cl) || hasF s n.kids
/-- It begins ahead of that class alone. -/
def NoE (s : Int) (h : Hist) : Prop := ∀ x ∈ h, x.2 = true → x.1 = s
def Nil3 (s : Int) (F : Hist → Bool) : Prop := ∀ h, NoE s h → F h = false
theorem NoE.tail {s : Int} {x : Int × Bool} {h : Hist} (hh : NoE s (x :: h)) : NoE s h := fun y hy => hh y (by simp [hy])
theorem no_next {s : Int} {e : Bool} {F : Hist → Bool} (hF : Nil3 s F) : (h : Hist) → NoE s h → NoE s (nextH e F h)
  | [], _ => fun x hx => by simp [nextH] at hx
  | (c, b) :: h, hh => fun x hx => by
    simp only [nextH, List.mem_cons] at hx
    rcases hx with rfl | hx
    · intro h1
      have h2 : (F h || (b && e)) = true := h1
      rw [hF h hh.tail] at h2
      simp only [Bool.false_or, Bool.and_eq_true] at h2
      exact hh (c, b) (by simp) h2.1
    · exact no_next hF h hh.tail x hx
theorem no_star {s : Int} {F : Hist → Bool} (hF : Nil3 s F) : (h : Hist) → NoE s h → NoE s (starH F h)
  | [], _ => fun x hx => by simp [starH] at hx
  | (c, b) :: h, hh => fun x hx => by
    have ih := no_star hF h hh.tail
    simp only [starH, List.mem_cons] at hx
    rcases hx with rfl | hx
    · intro h1
      have h2 : (b || F (starH F h)) = true := h1
      rw [hF _ ih] at h2
      simp only [Bool.or_false] at h2
      exact hh (c, b) (by simp) h2
    · exact ih x hx
theorem no_row {s : Int} : (ks : List Dn) → (∀ k ∈ ks, Nil3 s k.2) → Nil3 s (rowE false ks)
  | [], _ => fun _ _ => rfl
  | k :: r, hk => fun h hh => by
    simp only [rowE, hk k (by simp) h hh, Bool.false_and, Bool.or_self]
    exact no_row r (fun x hx => hk x (by simp [hx])) _ (no_next (hk k (by simp)) h hh)
theorem no_any {s : Int} (ks : List Dn) (hk : ∀ k ∈ ks, Nil3 s k.2) : Nil3 s (anyE ks) := fun h hh => by
  unfold anyE
  rw [List.any_eq_false]
  intro k h1
  rw [hk k h1 h hh]
  simp
theorem no_set {s : Int} (cl : List Int) (hc : s ∉ cl) : Nil3 s (setE cl)
  | [], _ => rfl
  | (c, b) :: h, hh => by
    show (b && decide (c ∈ cl)) = false
    cases b with
    | false => rfl
    | true =>
      have : c = s := hh (c, true) (by simp) rfl
      rw [this]
      simp [hc]
theorem no_den {s : Int} : (f : Fo) → hasF s f = false → ∀ k ∈ den f, Nil3 s k.2
  | .nil, _, k, h => by simp [den] at h
  | .node _ _ a f r, hb, k, h => by
    simp only [hasF, Bool.or_eq_false_iff, decide_eq_false_iff_not] at hb
    simp only [den, List.mem_cons] at h
    rcases h with rfl | h
    · have ih := no_den f hb.1.2
      have ha := no_any _ ih
      intro h hh
      show nodeE a.1 a.2 (den f) h = false
      unfold nodeE
      split
      · exact no_set _ hb.1.1 h hh
      · split
        · exact no_row _ ih h hh
        · split
          · exact ha h hh
          · split
            · exact ha _ (no_star ha h hh)
            · rfl
    · exact no_den r hb.2 k h
theorem no_end (s : Int) (n : Nd) (hb : n.has s = false) : Nil3 s n.end :=
  no_den (.node 0 0 (n.op, n.cl) n.kids .nil) (by simp only [hasF, Bool.or_false]; exact hb) (n.emp, n.end) (by simp only [den, List.mem_cons]; exact .inl rfl)
theorem hasF_toL (s : Int) : (f : Fo) → hasF s f = (toL f).any (Nd.has s)
  | .nil => rfl
  | .node _ _ a k r => by
    simp only [hasF, toL, List.any_cons, hasF_toL s r]
    rfl
theorem has_ofL (s : Int) (l : List Nd) (h : ∀ n ∈ l, n.has s = false) : hasF s (ofL l) = false := by
  rw [hasF_toL, toL_ofL, List.any_eq_false]
  intro n hn
  rw [h n hn]
  simp
theorem has_kids (s : Int) (t : Bool) (op : Int) (k : Nat) (l : List Nd) (h : ∀ n ∈ l, n.has s = false) : hasF s (ofL (if cnt op k then revL t l else [])) = false := by
  apply has_ofL
  split
  · unfold revL
    split
    · intro n hn; exact h n (List.mem_reverse.1 hn)
    · exact h
  · simp
theorem nrm_has (s : Int) (t : Bool) : (f : Fo) → hasF s f = false → ∀ n ∈ nrm t f, n.has s = false
  | .nil, _, n, hn => by simp [nrm] at hn
  | .node _ _ a k r, hb, n, hn => by
    simp only [hasF, Bool.or_eq_false_iff] at hb
    simp only [nrm, List.mem_cons] at hn
    rcases hn with rfl | hn
    · show (decide (s ∈ a.2) || hasF s (ofL _)) = false
      rw [hb.1.1, has_kids s t _ _ _ (nrm_has s t k hb.1.2)]
      rfl
    · exact nrm_has s t r hb.2 n hn
theorem Nd.nrm_has (s : Int) (t : Bool) (n : Nd) (h : n.has s = false) : (n.nrm t).has s = false := by
  simp only [Nd.has, Bool.or_eq_false_iff] at h
  show (decide (s ∈ n.cl) || hasF s (ofL _)) = false
  rw [h.1, has_kids s t _ _ _ (Go.Proofs.Ytjbhfonokgkalaa.nrm_has s t n.kids h.2)]
  rfl
theorem hsr_no (s : Int) : (l : List Int) → NoE s (hsr false (l ++ [s]))
  | [] => fun x hx => by
    simp only [List.nil_append, hsr, List.mem_singleton] at hx
    rw [hx]
    exact fun _ => rfl
  | c :: l => fun x hx => by
    simp only [List.cons_append, hsr, List.mem_cons] at hx
    rcases hx with rfl | hx
    · intro h
      simp at h
    · exact hsr_no s l x hx
/-- Behind a class that its Left has nowhere a rule with Start fits nowhere. -/
theorem fit_strange (s : Int) (x y : Nd) (b : Bool) (hx : x.has s = false) (xs : List Int) (p : Nat) : (⟨x, y, b, true⟩ : Rl).fit (s :: xs) (p + 1) = false := by
  unfold Rl.fit Rl.fitL
  rw [List.take_succ_cons, List.reverse_cons]
  have h1 : ((x.nrm false).end (hsr false ((xs.take p).reverse ++ [s]))) = false := no_end s _ (Nd.nrm_has s false x hx) _ (hsr_no s _)
  unfold endsAt
  rw [if_neg (by simp)]
  show (((x.nrm false).end (hsr false ((xs.take p).reverse ++ [s])) || (false && _)) && _) = false
  rw [h1]
  simp
end Go.Proofs.Ytjbhfonokgkalaa
