/- Plain mathematics of the reference's moves: from which places one is taken to which, by rows of truths, ahead or back; nothing of the program is named here. -/
import Derived.Test.YtjbhfonokgkalaaReaLh
namespace Go.Proofs.Ytjbhfonokgkalaa
set_option linter.unusedVariables false
set_option linter.unusedSimpArgs false

/-- A way from one place to another, ahead or back, by a row of some kind. -/
def StG (back : Bool) (L : Lg) (xs : List Int) (q p : Nat) : Prop := if back then p ≤ q ∧ L (sg xs p q) else q ≤ p ∧ L (sg xs q p)
def MvR (back : Bool) (L : Lg) (xs : List Int) (F G : List Bool) : Prop := G.length = xs.length + 1 ∧ ∀ p, p ≤ xs.length → (G[p]? = some true ↔ ∃ q, q ≤ xs.length ∧ F[q]? = some true ∧ StG back L xs q p)
theorem StG.congr {back : Bool} {L L' : Lg} (e : ∀ w, L w ↔ L' w) (xs : List Int) (q p : Nat) : StG back L xs q p ↔ StG back L' xs q p := by
  unfold StG; simp only [e]
theorem MvR.congr {back : Bool} {L L' : Lg} {xs : List Int} {F G : List Bool} (h : MvR back L xs F G) (e : ∀ w, L w ↔ L' w) : MvR back L' xs F G := by
  refine ⟨h.1, fun p hp => (h.2 p hp).trans ?_⟩
  simp only [StG.congr e]
theorem stG_nil (back : Bool) (xs : List Int) (q p : Nat) (hq : q ≤ xs.length) (hp : p ≤ xs.length) : StG back (fun w => w = []) xs q p ↔ q = p := by
  unfold StG
  cases back with
  | false =>
    simp only [Bool.false_eq_true, if_false]
    constructor
    · rintro ⟨h1, h2⟩
      have := sg_len xs q p h1 hp
      rw [h2] at this
      simp at this
      omega
    · rintro rfl; exact ⟨Nat.le_refl _, sg_self xs q⟩
  | true =>
    simp only [if_true]
    constructor
    · rintro ⟨h1, h2⟩
      have := sg_len xs p q h1 hq
      rw [h2] at this
      simp at this
      omega
    · rintro rfl; exact ⟨Nat.le_refl _, sg_self xs q⟩
theorem mv_none (back : Bool) (xs : List Int) (F : List Bool) (hF : F.length = xs.length + 1) : MvR back (fun w => w = []) xs F F := by
  refine ⟨hF, fun p hp => ⟨fun h => ⟨p, hp, h, (stG_nil back xs p p hp hp).2 rfl⟩, ?_⟩⟩
  rintro ⟨q, hq, h1, h2⟩
  rw [← (stG_nil back xs q p hq hp).1 h2]; exact h1
/-- Two ways, one behind the other. -/
theorem stG_seq (xs : List Int) (K R : Lg) (q p : Nat) (hq : q ≤ xs.length) (hp : p ≤ xs.length) : StG false (seqG K R) xs q p ↔ ∃ m, m ≤ xs.length ∧ StG false K xs q m ∧ StG false R xs m p := by
  unfold StG seqG
  simp only [Bool.false_eq_true, if_false]
  constructor
  · rintro ⟨h1, u, v, e, hu, hv⟩
    obtain ⟨k1, k2, k3⟩ := sg_cut xs q p u v h1 hp e
    exact ⟨q + u.length, by omega, ⟨by omega, by rw [k2]; exact hu⟩, k1, by rw [k3]; exact hv⟩
  · rintro ⟨m, hm, ⟨h1, h2⟩, h3, h4⟩
    exact ⟨by omega, _, _, (sg_app xs q m p h1 h3).symm, h2, h4⟩
theorem stG_seqB (xs : List Int) (K R : Lg) (q p : Nat) (hq : q ≤ xs.length) (hp : p ≤ xs.length) : StG true (seqG K R) xs q p ↔ ∃ m, m ≤ xs.length ∧ StG true R xs q m ∧ StG true K xs m p := by
  unfold StG seqG
  simp only [if_true]
  constructor
  · rintro ⟨h1, u, v, e, hu, hv⟩
    obtain ⟨k1, k2, k3⟩ := sg_cut xs p q u v h1 hq e
    exact ⟨p + u.length, by omega, ⟨k1, by rw [k3]; exact hv⟩, by omega, by rw [k2]; exact hu⟩
  · rintro ⟨m, hm, ⟨h1, h2⟩, h3, h4⟩
    exact ⟨by omega, _, _, (sg_app xs p m q h3 h1).symm, h4, h2⟩
theorem mv_seq {K R : Lg} {xs : List Int} {F G H : List Bool} (h1 : MvR false K xs F G) (h2 : MvR false R xs G H) : MvR false (seqG K R) xs F H := by
  refine ⟨h2.1, fun p hp => (h2.2 p hp).trans ⟨?_, ?_⟩⟩
  · rintro ⟨m, hm, hG, hs⟩
    obtain ⟨q, hq, hF, hs2⟩ := (h1.2 m hm).1 hG
    exact ⟨q, hq, hF, (stG_seq xs K R q p hq hp).2 ⟨m, hm, hs2, hs⟩⟩
  · rintro ⟨q, hq, hF, hs⟩
    obtain ⟨m, hm, h3, h4⟩ := (stG_seq xs K R q p hq hp).1 hs
    exact ⟨m, hm, (h1.2 m hm).2 ⟨q, hq, hF, h3⟩, h4⟩
theorem mv_seqB {K R : Lg} {xs : List Int} {F G H : List Bool} (h1 : MvR true R xs F G) (h2 : MvR true K xs G H) : MvR true (seqG K R) xs F H := by
  refine ⟨h2.1, fun p hp => (h2.2 p hp).trans ⟨?_, ?_⟩⟩
  · rintro ⟨m, hm, hG, hs⟩
    obtain ⟨q, hq, hF, hs2⟩ := (h1.2 m hm).1 hG
    exact ⟨q, hq, hF, (stG_seqB xs K R q p hq hp).2 ⟨m, hm, hs2, hs⟩⟩
  · rintro ⟨q, hq, hF, hs⟩
    obtain ⟨m, hm, h3, h4⟩ := (stG_seqB xs K R q p hq hp).1 hs
    exact ⟨m, hm, (h1.2 m hm).2 ⟨q, hq, hF, h3⟩, h4⟩
theorem mv_or {back : Bool} {K R : Lg} {xs : List Int} {F G H : List Bool} (h1 : MvR back K xs F G) (h2 : MvR back R xs F H) : MvR back (fun w => K w ∨ R w) xs F (orB G H) := by
  have hl : G.length = H.length := by rw [h1.1, h2.1]
  refine ⟨by rw [orB_len _ _ hl, h1.1], fun p hp => ?_⟩
  rw [orB_get _ _ _ hl, h1.2 p hp, h2.2 p hp]
  have hs : ∀ q, StG back (fun w => K w ∨ R w) xs q p ↔ StG back K xs q p ∨ StG back R xs q p := by
    intro q
    unfold StG
    cases back <;> simp only [Bool.false_eq_true, if_false, if_true] <;> constructor
    · rintro ⟨a, b | b⟩
      · exact .inl ⟨a, b⟩
      · exact .inr ⟨a, b⟩
    · rintro (⟨a, b⟩ | ⟨a, b⟩)
      · exact ⟨a, .inl b⟩
      · exact ⟨a, .inr b⟩
    · rintro ⟨a, b | b⟩
      · exact .inl ⟨a, b⟩
      · exact .inr ⟨a, b⟩
    · rintro (⟨a, b⟩ | ⟨a, b⟩)
      · exact ⟨a, .inl b⟩
      · exact ⟨a, .inr b⟩
  simp only [hs]
  constructor
  · rintro (⟨q, a, b, c⟩ | ⟨q, a, b, c⟩)
    · exact ⟨q, a, b, .inl c⟩
    · exact ⟨q, a, b, .inr c⟩
  · rintro ⟨q, a, b, c | c⟩
    · exact .inl ⟨q, a, b, c⟩
    · exact .inr ⟨q, a, b, c⟩
theorem mv_false (back : Bool) (xs : List Int) (F : List Bool) : MvR back (fun _ => False) xs F (List.replicate (xs.length + 1) false) := by
  refine ⟨by simp, fun p hp => ⟨fun h => ?_, ?_⟩⟩
  · rw [List.getElem?_replicate] at h
    split at h <;> simp at h
  · rintro ⟨q, _, _, h⟩
    unfold StG at h
    split at h
    · exact h.2.elim
    · exact h.2.elim
/-- What a character of some classes takes one to, back. -/
def setBb (cl xs : List Int) (F : List Bool) : List Bool := (List.range xs.length).map (fun i => decide (xs.getD i 0 ∈ cl) && F.getD (i + 1) false) ++ [false]
def setBf (back : Bool) (cl xs : List Int) (F : List Bool) : List Bool := if back then setBb cl xs F else setB cl xs F
theorem setBf_len (back : Bool) (cl xs : List Int) (F : List Bool) : (setBf back cl xs F).length = xs.length + 1 := by
  unfold setBf; cases back <;> simp [setBb, setB]
theorem setBb_at (cl xs : List Int) (F : List Bool) (i : Nat) (hi : i < xs.length) : (setBb cl xs F)[i]? = some (decide (xs.getD i 0 ∈ cl) && F.getD (i + 1) false) := by
  unfold setBb
  rw [List.getElem?_append_left (by simp; exact hi), List.getElem?_map, List.getElem?_range hi]
  rfl
theorem setBb_last (cl xs : List Int) (F : List Bool) : (setBb cl xs F)[xs.length]? = some false := by
  unfold setBb
  rw [List.getElem?_append_right (by simp)]
  simp
theorem mv_set (back : Bool) (cl xs : List Int) (F : List Bool) (hF : F.length = xs.length + 1) : MvR back (fun w => ∃ c, c ∈ cl ∧ w = [c]) xs F (setBf back cl xs F) := by
  cases back with
  | false =>
    have h := ends_set cl xs F
    refine ⟨h.1, fun p hp => (h.2 p hp).trans ?_⟩
    unfold EndsAt StG
    simp only [Bool.false_eq_true, if_false]
    constructor
    · rintro ⟨i, h1, h2, h3⟩; exact ⟨i, by omega, h2, h1, h3⟩
    · rintro ⟨i, _, h2, h1, h3⟩; exact ⟨i, h1, h2, h3⟩
  | true =>
    refine ⟨setBf_len true cl xs F, fun p hp => ?_⟩
    show (setBb cl xs F)[p]? = some true ↔ _
    unfold StG
    simp only [if_true]
    rcases Nat.lt_or_ge p xs.length with hlt | hge
    · rw [setBb_at cl xs F p hlt]
      have hx : xs.getD p 0 = xs[p] := by simp [hlt]
      have hf : F[p + 1]? = some (F.getD (p + 1) false) := by
        rw [List.getD_eq_getElem?_getD, List.getElem?_eq_getElem (by omega)]; rfl
      rw [hx, Option.some.injEq, Bool.and_eq_true, decide_eq_true_eq]
      constructor
      · rintro ⟨h1, h2⟩
        exact ⟨p + 1, by omega, by rw [hf, h2], by omega, xs[p], h1, sg_one xs p hlt⟩
      · rintro ⟨q, hq, h1, h2, c, hc, h3⟩
        have h4 := sg_len xs p q h2 hq
        rw [h3] at h4
        have : q = p + 1 := by simp at h4; omega
        subst this
        rw [sg_one xs p hlt] at h3
        have h5 : xs[p] = c := by simpa using h3
        rw [hf] at h1
        exact ⟨by rw [h5]; exact hc, by simpa using h1⟩
    · have : p = xs.length := by omega
      subst this
      rw [setBb_last]
      constructor
      · intro h; cases h
      · rintro ⟨q, hq, h1, h2, c, hc, h3⟩
        have h4 := sg_len xs xs.length q h2 hq
        rw [h3] at h4
        simp at h4
        omega
/-! Any number, in no more rounds than there are characters. -/
theorem pow_short (L : Lg) : (n : Nat) → (w : List Int) → powL L n w → ∃ j, j ≤ w.length ∧ powL L j w
  | 0, w, h => ⟨0, by omega, h⟩
  | n + 1, w, ⟨u, v, e, h1, h2⟩ => by
    obtain ⟨j, hj, h3⟩ := pow_short L n v h2
    cases u with
    | nil => exact ⟨j, by rw [e]; simpa using hj, by rw [e]; exact h3⟩
    | cons c u => exact ⟨j + 1, by rw [e]; simp; omega, ⟨c :: u, v, e, h1, h3⟩⟩
/-- A step more, ahead or back. -/
theorem stG_pow (back : Bool) (L : Lg) (n : Nat) (xs : List Int) (q p : Nat) (hq : q ≤ xs.length) (hp : p ≤ xs.length) : StG back (powL L (n + 1)) xs q p ↔ ∃ m, m ≤ xs.length ∧ StG back (powL L n) xs q m ∧ StG back L xs m p := by
  cases back with
  | false =>
    rw [← stG_seq xs (powL L n) L q p hq hp]
    exact StG.congr (fun w => pow_end L n w) xs q p
  | true =>
    rw [← stG_seqB xs L (powL L n) q p hq hp]
    exact StG.congr (fun w => Iff.rfl) xs q p
theorem stG_star (back : Bool) (L : Lg) (xs : List Int) (q p : Nat) (hq : q ≤ xs.length) (hp : p ≤ xs.length) : StG back (starG L) xs q p ↔ ∃ i, i ≤ xs.length ∧ StG back (powL L i) xs q p := by
  unfold StG starG
  cases back with
  | false =>
    simp only [Bool.false_eq_true, if_false]
    constructor
    · rintro ⟨h1, n, h2⟩
      obtain ⟨j, hj, h3⟩ := pow_short L n _ h2
      rw [sg_len xs q p h1 hp] at hj
      exact ⟨j, by omega, h1, h3⟩
    · rintro ⟨i, _, h1, h2⟩; exact ⟨h1, i, h2⟩
  | true =>
    simp only [if_true]
    constructor
    · rintro ⟨h1, n, h2⟩
      obtain ⟨j, hj, h3⟩ := pow_short L n _ h2
      rw [sg_len xs p q h1 hq] at hj
      exact ⟨j, by omega, h1, h3⟩
    · rintro ⟨i, _, h1, h2⟩; exact ⟨h1, i, h2⟩
/-- What is reached behind some rounds. -/
def RoS (back : Bool) (L : Lg) (xs : List Int) (F O : List Bool) (k : Nat) : Prop :=
  O.length = xs.length + 1 ∧ (∀ p, p ≤ xs.length → O[p]? = some true → ∃ q i, q ≤ xs.length ∧ F[q]? = some true ∧ StG back (powL L i) xs q p) ∧ ∀ p q i, p ≤ xs.length → q ≤ xs.length → i ≤ k → F[q]? = some true → StG back (powL L i) xs q p → O[p]? = some true
theorem ro_begin (back : Bool) (L : Lg) (xs : List Int) (F : List Bool) (hF : F.length = xs.length + 1) : RoS back L xs F F 0 := by
  refine ⟨hF, fun p hp h => ⟨p, 0, hp, h, (stG_nil back xs p p hp hp).2 rfl⟩, fun p q i hp hq hi hf hs => ?_⟩
  obtain rfl : i = 0 := by omega
  rw [← (stG_nil back xs q p hq hp).1 hs]; exact hf
theorem ro_round {back : Bool} {L : Lg} {xs : List Int} {F O G : List Bool} {k : Nat} (h : RoS back L xs F O k) (hG : MvR back L xs O G) : RoS back L xs F (orB O G) (k + 1) := by
  have hl : O.length = G.length := by rw [h.1, hG.1]
  refine ⟨by rw [orB_len _ _ hl, h.1], fun p hp ho => ?_, fun p q i hp hq hi hf hs => ?_⟩
  · rcases (orB_get _ _ _ hl).1 ho with ho | ho
    · exact h.2.1 p hp ho
    · obtain ⟨m, hm, hO, hs⟩ := (hG.2 p hp).1 ho
      obtain ⟨q, i, hq, hF, hi⟩ := h.2.1 m hm hO
      exact ⟨q, i + 1, hq, hF, (stG_pow back L i xs q p hq hp).2 ⟨m, hm, hi, hs⟩⟩
  · rw [orB_get _ _ _ hl]
    cases i with
    | zero => exact .inl (h.2.2 p q 0 hp hq (by omega) hf hs)
    | succ i =>
      obtain ⟨m, hm, h1, h2⟩ := (stG_pow back L i xs q p hq hp).1 hs
      exact .inr ((hG.2 p hp).2 ⟨m, hm, h.2.2 m q i hm hq (by omega) hf h1, h2⟩)
theorem ro_all {back : Bool} {L : Lg} {xs : List Int} {F O : List Bool} (h : RoS back L xs F O xs.length) : MvR back (starG L) xs F O := by
  refine ⟨h.1, fun p hp => ⟨fun ho => ?_, ?_⟩⟩
  · obtain ⟨q, i, hq, hF, hs⟩ := h.2.1 p hp ho
    refine ⟨q, hq, hF, ?_⟩
    unfold StG starG at *
    split
    · rename_i hb; rw [if_pos hb] at hs; exact ⟨hs.1, i, hs.2⟩
    · rename_i hb; rw [if_neg hb] at hs; exact ⟨hs.1, i, hs.2⟩
  · rintro ⟨q, hq, hF, hs⟩
    obtain ⟨i, hi, hs2⟩ := (stG_star back L xs q p hq hp).1 hs
    exact h.2.2 p q i hp hq hi hF hs2
theorem ro_closed {back : Bool} {L : Lg} {xs : List Int} {F O G : List Bool} {k : Nat} (h : RoS back L xs F O k) (hG : MvR back L xs O G) (hc : orB O G = O) : RoS back L xs F O xs.length := by
  have hl : O.length = G.length := by rw [h.1, hG.1]
  refine ⟨h.1, h.2.1, ?_⟩
  have key : ∀ i p q, p ≤ xs.length → q ≤ xs.length → F[q]? = some true → StG back (powL L i) xs q p → O[p]? = some true := by
    intro i
    induction i with
    | zero => intro p q hp hq hf hs; exact h.2.2 p q 0 hp hq (by omega) hf hs
    | succ i ih =>
      intro p q hp hq hf hs
      obtain ⟨m, hm, h1, h2⟩ := (stG_pow back L i xs q p hq hp).1 hs
      have h3 : G[p]? = some true := (hG.2 p hp).2 ⟨m, hm, ih m q hm hq hf h1, h2⟩
      rw [← hc, orB_get _ _ _ hl]
      exact .inr h3
  exact fun p q i hp hq _ hf hs => key i p q hp hq hf hs
/-! What an expression means, by its kind. -/
theorem lg_0 (n : Nd) (h : n.op = 0) (w : List Int) : n.lg w ↔ w = [] := by rw [lg_eq, h]; simp [nodeG]
theorem lg_1 (n : Nd) (h : n.op = 1) (w : List Int) : n.lg w ↔ ∃ c, c ∈ n.cl ∧ w = [c] := by rw [lg_eq, h]; simp [nodeG]
theorem lg_2 (n : Nd) (h : n.op = 2) (w : List Int) : n.lg w ↔ seqL ((toL n.kids).map Nd.lg) w := by rw [lg_eq, h]; simp [nodeG]
theorem lg_3 (n : Nd) (h : n.op = 3) (w : List Int) : n.lg w ↔ altL ((toL n.kids).map Nd.lg) w := by rw [lg_eq, h]; simp [nodeG]
theorem lg_4 (n : Nd) (h : n.op = 4) (x : Nd) (hk : toL n.kids = [x]) (w : List Int) : n.lg w ↔ starG x.lg w := by rw [lg_eq, h, hk]; simp [nodeG]
theorem lg_5 (n : Nd) (h : n.op = 5) (x : Nd) (hk : toL n.kids = [x]) (w : List Int) : n.lg w ↔ w = [] ∨ x.lg w := by rw [lg_eq, h, hk]; simp [nodeG]
theorem lg_no (n : Nd) (h0 : n.op ≠ 0) (h1 : n.op ≠ 1) (h2 : n.op ≠ 2) (h3 : n.op ≠ 3) (h : (n.op = 4 ∨ n.op = 5) → (toL n.kids).length ≠ 1) (w : List Int) : n.lg w ↔ False := by
  rw [lg_eq]
  unfold nodeG
  rw [if_neg h0, if_neg h1, if_neg h2, if_neg h3]
  have no : ∀ k : Lg, (n.op = 4 ∨ n.op = 5) → ¬ (toL n.kids).map Nd.lg = [k] := fun k hh e => h hh (by have := congrArg List.length e; simpa using this)
  split
  · rename_i h4
    constructor
    · rintro ⟨k, e, _⟩; exact no k (.inl h4) e
    · exact False.elim
  · split
    · rename_i h5
      constructor
      · rintro ⟨k, e, _⟩; exact no k (.inr h5) e
      · exact False.elim
    · exact Iff.rfl
/-! Where a rule fits. -/
def fromS (start : Bool) (n : Nat) : List Bool := true :: List.replicate n (!start)
theorem where_fit (r : Rl) (xs : List Int) (A B : List Bool) (hA : MvR false r.left.lg xs (fromS r.start xs.length) A) (hB : MvR true r.right.lg xs (List.replicate (xs.length + 1) true) B) (p : Nat) (hp : p ≤ xs.length) : (A.getD p false && B.getD p false) = r.fit xs p := by
  have ga : A.getD p false = true ↔ A[p]? = some true := by rw [List.getD_eq_getElem?_getD]; cases A[p]? <;> simp
  have gb : B.getD p false = true ↔ B[p]? = some true := by rw [List.getD_eq_getElem?_getD]; cases B[p]? <;> simp
  rw [Bool.eq_iff_iff, Bool.and_eq_true, ga, gb, fit_iff r xs p hp, hA.2 p hp, hB.2 p hp]
  unfold FitP StG
  simp only [Bool.false_eq_true, if_false, if_true]
  refine and_congr ⟨?_, ?_⟩ ⟨?_, ?_⟩
  · rintro ⟨q, hq, hF, h1, h2⟩
    refine ⟨q, h1, fun hs => ?_, h2⟩
    cases q with
    | zero => rfl
    | succ q =>
      unfold fromS at hF
      rw [hs, List.getElem?_cons_succ, List.getElem?_replicate] at hF
      split at hF <;> simp at hF
  · rintro ⟨i, hi, hs, h⟩
    refine ⟨i, by omega, ?_, hi, h⟩
    unfold fromS
    cases i with
    | zero => rfl
    | succ i =>
      rw [List.getElem?_cons_succ, List.getElem?_replicate, if_pos (by omega)]
      cases hst : r.start with
      | true => exact absurd (hs hst) (by omega)
      | false => rfl
  · rintro ⟨q, hq, _, h1, h2⟩; exact ⟨q, h1, hq, h2⟩
  · rintro ⟨j, h1, h2, h3⟩
    exact ⟨j, h2, by rw [List.getElem?_replicate, if_pos (by omega)], h1, h3⟩
end Go.Proofs.Ytjbhfonokgkalaa
