/- Plain mathematics of where rows end that an expression fits: sets of places as rows of truths; nothing of the program is named here. -/
import Derived.Test.YtjbhfonokgkalaaNfaP
namespace Go.Proofs.Ytjbhfonokgkalaa
set_option linter.unusedVariables false
set_option linter.unusedSimpArgs false

/-- A piece of a row, from one place to another. -/
def sg (xs : List Int) (i j : Nat) : List Int := (xs.drop i).take (j - i)
theorem sg_len (xs : List Int) (i j : Nat) (hij : i ≤ j) (hj : j ≤ xs.length) : (sg xs i j).length = j - i := by
  unfold sg; simp; omega
theorem sg_self (xs : List Int) (i : Nat) : sg xs i i = [] := by simp [sg]
theorem sg_app (xs : List Int) (i m j : Nat) (h1 : i ≤ m) (h2 : m ≤ j) : sg xs i m ++ sg xs m j = sg xs i j := by
  unfold sg
  have e : xs.drop m = (xs.drop i).drop (m - i) := by rw [List.drop_drop]; congr 1; omega
  rw [e]
  generalize xs.drop i = ys
  rw [show j - i = (m - i) + (j - m) by omega, List.take_add]
theorem sg_cut (xs : List Int) (i j : Nat) (u v : List Int) (hij : i ≤ j) (hj : j ≤ xs.length) (h : sg xs i j = u ++ v) : i + u.length ≤ j ∧ sg xs i (i + u.length) = u ∧ sg xs (i + u.length) j = v := by
  have hl := sg_len xs i j hij hj
  rw [h, List.length_append] at hl
  have h1 : i + u.length ≤ j := by omega
  have h2 := sg_app xs i (i + u.length) j (by omega) h1
  rw [h] at h2
  have h3 := sg_len xs i (i + u.length) (by omega) (by omega)
  have := List.append_inj h2 (by omega)
  exact ⟨h1, this.1, this.2⟩
theorem sg_one (xs : List Int) (i : Nat) (hi : i < xs.length) : sg xs i (i + 1) = [xs[i]] := by
  unfold sg
  rw [show i + 1 - i = 1 by omega, List.drop_eq_getElem_cons hi]
  rfl
theorem sg_take (xs : List Int) (j : Nat) : sg xs 0 j = xs.take j := by simp [sg]
/-- Where rows end, that are of some kind, each of which begins at one of some places. -/
def EndsAt (L : List Int → Prop) (xs : List Int) (F : List Bool) (j : Nat) : Prop := ∃ i, i ≤ j ∧ F[i]? = some true ∧ L (sg xs i j)
def EndsR (L : List Int → Prop) (xs : List Int) (F G : List Bool) : Prop := G.length = xs.length + 1 ∧ ∀ j, j ≤ xs.length → (G[j]? = some true ↔ EndsAt L xs F j)
theorem EndsR.congr {L L' : List Int → Prop} {xs : List Int} {F G : List Bool} (h : EndsR L xs F G) (hl : ∀ w, L w ↔ L' w) : EndsR L' xs F G := by
  refine ⟨h.1, fun j hj => (h.2 j hj).trans ?_⟩
  unfold EndsAt
  simp only [hl]
theorem ends_none (xs : List Int) (F : List Bool) (hF : F.length = xs.length + 1) : EndsR (fun w => w = []) xs F F := by
  refine ⟨hF, fun j hj => ⟨fun h => ⟨j, Nat.le_refl _, h, sg_self xs j⟩, fun ⟨i, hi, h1, h2⟩ => ?_⟩⟩
  have := sg_len xs i j hi hj
  rw [h2] at this
  have : i = j := by simp at this; omega
  rw [← this]; exact h1
theorem ends_seq {L1 L2 : List Int → Prop} {xs : List Int} {F G H : List Bool} (h1 : EndsR L1 xs F G) (h2 : EndsR L2 xs G H) : EndsR (fun w => ∃ u v, w = u ++ v ∧ L1 u ∧ L2 v) xs F H := by
  refine ⟨h2.1, fun j hj => (h2.2 j hj).trans ⟨?_, ?_⟩⟩
  · rintro ⟨m, hm, hG, hv⟩
    obtain ⟨i, hi, hF, hu⟩ := (h1.2 m (by omega)).1 hG
    exact ⟨i, by omega, hF, _, _, (sg_app xs i m j hi hm).symm, hu, hv⟩
  · rintro ⟨i, hi, hF, u, v, e, hu, hv⟩
    obtain ⟨k1, k2, k3⟩ := sg_cut xs i j u v hi hj e
    refine ⟨i + u.length, k1, (h1.2 _ (by omega)).2 ⟨i, by omega, hF, by rw [k2]; exact hu⟩, by rw [k3]; exact hv⟩
theorem seqL_snoc : (ks : List (List Int → Prop)) → (k : List Int → Prop) → (w : List Int) → (seqL (ks ++ [k]) w ↔ ∃ u v, w = u ++ v ∧ seqL ks u ∧ k v)
  | [], k, w => by
    show (∃ u v, w = u ++ v ∧ k u ∧ v = []) ↔ ∃ u v, w = u ++ v ∧ u = [] ∧ k v
    constructor
    · rintro ⟨u, v, rfl, h, rfl⟩; exact ⟨[], u, by simp, rfl, h⟩
    · rintro ⟨u, v, rfl, rfl, h⟩; exact ⟨v, [], by simp, h, rfl⟩
  | q :: r, k, w => by
    show (∃ u v, w = u ++ v ∧ q u ∧ seqL (r ++ [k]) v) ↔ ∃ u v, w = u ++ v ∧ (∃ a b, u = a ++ b ∧ q a ∧ seqL r b) ∧ k v
    constructor
    · rintro ⟨u, v, rfl, h, h2⟩
      obtain ⟨a, b, rfl, h3, h4⟩ := (seqL_snoc r k v).1 h2
      exact ⟨u ++ a, b, by simp, ⟨u, a, rfl, h, h3⟩, h4⟩
    · rintro ⟨u, v, rfl, ⟨a, b, rfl, h1, h2⟩, h3⟩
      exact ⟨a, b ++ v, by simp, h1, (seqL_snoc r k _).2 ⟨b, v, rfl, h2, h3⟩⟩
theorem altL_snoc (ks : List (List Int → Prop)) (k : List Int → Prop) (w : List Int) : altL (ks ++ [k]) w ↔ altL ks w ∨ k w := by
  unfold altL
  constructor
  · rintro ⟨q, hq, h⟩
    rcases List.mem_append.1 hq with hq | hq
    · exact .inl ⟨q, hq, h⟩
    · simp at hq; subst hq; exact .inr h
  · rintro (⟨q, hq, h⟩ | h)
    · exact ⟨q, by simp [hq], h⟩
    · exact ⟨k, by simp, h⟩
/-- Of two rows of truths, what one of both says. -/
def orB : List Bool → List Bool → List Bool
  | x :: a, y :: b => (x || y) :: orB a b
  | _, _ => []
theorem orB_len : (a b : List Bool) → a.length = b.length → (orB a b).length = a.length
  | [], [], _ => rfl
  | x :: a, y :: b, h => by simp only [orB, List.length_cons]; rw [orB_len a b (by simpa using h)]
  | [], _ :: _, h => by simp at h
  | _ :: _, [], h => by simp at h
theorem orB_get : (a b : List Bool) → (j : Nat) → a.length = b.length → ((orB a b)[j]? = some true ↔ a[j]? = some true ∨ b[j]? = some true)
  | [], [], j, _ => by simp [orB]
  | x :: a, y :: b, 0, h => by simp [orB]
  | x :: a, y :: b, j + 1, h => by simpa [orB] using orB_get a b j (by simpa using h)
  | [], _ :: _, _, h => by simp at h
  | _ :: _, [], _, h => by simp at h
theorem orB_at : (a b : List Bool) → (j : Nat) → (ha : j < a.length) → (hb : j < b.length) → (orB a b)[j]? = some (a[j] || b[j])
  | x :: a, y :: b, 0, _, _ => rfl
  | x :: a, y :: b, j + 1, ha, hb => by simpa [orB] using orB_at a b j (by simpa using ha) (by simpa using hb)
  | [], _, _, h, _ => by simp at h
  | _ :: _, [], _, _, h => by simp at h
theorem ends_or {L1 L2 : List Int → Prop} {xs : List Int} {F G H : List Bool} (h1 : EndsR L1 xs F G) (h2 : EndsR L2 xs F H) : EndsR (fun w => L1 w ∨ L2 w) xs F (orB G H) := by
  have hl : G.length = H.length := by rw [h1.1, h2.1]
  refine ⟨by rw [orB_len _ _ hl, h1.1], fun j hj => ?_⟩
  rw [orB_get _ _ _ hl, h1.2 j hj, h2.2 j hj]
  constructor
  · rintro (⟨i, a, b, c⟩ | ⟨i, a, b, c⟩)
    · exact ⟨i, a, b, .inl c⟩
    · exact ⟨i, a, b, .inr c⟩
  · rintro ⟨i, a, b, c | c⟩
    · exact .inl ⟨i, a, b, c⟩
    · exact .inr ⟨i, a, b, c⟩
theorem ends_false (xs : List Int) (F : List Bool) : EndsR (fun _ => False) xs F (List.replicate (xs.length + 1) false) := by
  refine ⟨by simp, fun j hj => ⟨fun h => ?_, fun ⟨_, _, _, h⟩ => h.elim⟩⟩
  rw [List.getElem?_replicate] at h
  split at h <;> simp at h
/-- How many are so. -/
def manyB : List Bool → Nat
  | [] => 0
  | x :: r => (if x then 1 else 0) + manyB r
theorem manyB_le : (l : List Bool) → manyB l ≤ l.length
  | [] => Nat.le_refl _
  | x :: r => by have := manyB_le r; simp only [manyB, List.length_cons]; split <;> omega
theorem manyB_snoc (l : List Bool) (x : Bool) : manyB (l ++ [x]) = manyB l + (if x then 1 else 0) := by
  induction l with
  | nil => simp [manyB]
  | cons y r ih => simp only [List.cons_append, manyB, ih]; omega
theorem manyB_or : (a b : List Bool) → a.length = b.length → manyB a ≤ manyB (orB a b) ∧ (manyB (orB a b) ≤ manyB a → orB a b = a)
  | [], [], _ => ⟨Nat.le_refl _, fun _ => rfl⟩
  | x :: a, y :: b, h => by
    obtain ⟨h1, h2⟩ := manyB_or a b (by simpa using h)
    cases x with
    | true =>
      simp only [orB, manyB, Bool.true_or, if_true]
      exact ⟨by omega, fun h3 => by rw [h2 (by omega)]⟩
    | false =>
      cases y with
      | true =>
        simp only [orB, manyB, Bool.false_or, if_true, Bool.false_eq_true, if_false]
        exact ⟨by omega, fun h3 => by omega⟩
      | false =>
        simp only [orB, manyB, Bool.false_or, Bool.false_eq_true, if_false]
        exact ⟨by omega, fun h3 => by rw [h2 (by omega)]⟩
  | [], _ :: _, h => by simp at h
  | _ :: _, [], h => by simp at h
def starL (L : List Int → Prop) (w : List Int) : Prop := ∃ n, powL L n w
theorem powL_snoc (L : List Int → Prop) : (n : Nat) → (u v : List Int) → powL L n u → L v → powL L (n + 1) (u ++ v)
  | 0, u, v, h, hv => by
    have hu : u = [] := h
    subst hu
    exact ⟨v, [], by simp, hv, rfl⟩
  | n + 1, u, v, ⟨a, b, e, h1, h2⟩, hv => ⟨a, b ++ v, by rw [e]; simp, h1, powL_snoc L n b v h2 hv⟩
/-- On the way to all places that any number takes one to. -/
def StarP (L : List Int → Prop) (xs : List Int) (F O : List Bool) : Prop := O.length = xs.length + 1 ∧ (∀ j, j ≤ xs.length → F[j]? = some true → O[j]? = some true) ∧ ∀ j, j ≤ xs.length → O[j]? = some true → EndsAt (starL L) xs F j
theorem star_begin (L : List Int → Prop) (xs : List Int) (F : List Bool) (hF : F.length = xs.length + 1) : StarP L xs F F :=
  ⟨hF, fun _ _ h => h, fun j _ h => ⟨j, Nat.le_refl _, h, 0, by rw [sg_self]; rfl⟩⟩
theorem star_round {L : List Int → Prop} {xs : List Int} {F O G : List Bool} (h : StarP L xs F O) (hG : EndsR L xs O G) : StarP L xs F (orB O G) := by
  have hl : O.length = G.length := by rw [h.1, hG.1]
  refine ⟨by rw [orB_len _ _ hl, h.1], fun j hj hf => (orB_get _ _ _ hl).2 (.inl (h.2.1 j hj hf)), fun j hj ho => ?_⟩
  rcases (orB_get _ _ _ hl).1 ho with ho | ho
  · exact h.2.2 j hj ho
  · obtain ⟨m, hm, hO, hv⟩ := (hG.2 j hj).1 ho
    obtain ⟨i, hi, hF, n, hn⟩ := h.2.2 m (by omega) hO
    exact ⟨i, by omega, hF, n + 1, by rw [← sg_app xs i m j hi hm]; exact powL_snoc L n _ _ hn hv⟩
theorem star_closed {L : List Int → Prop} {xs : List Int} {O G : List Bool} (hl : O.length = xs.length + 1) (hG : EndsR L xs O G) (hc : orB O G = O) : (n : Nat) → (i j : Nat) → i ≤ j → j ≤ xs.length → O[i]? = some true → powL L n (sg xs i j) → O[j]? = some true
  | 0, i, j, hij, hj, hO, h => by
    have := sg_len xs i j hij hj
    have h0 : sg xs i j = [] := h
    rw [h0] at this
    have : i = j := by simp at this; omega
    rw [← this]; exact hO
  | n + 1, i, j, hij, hj, hO, ⟨u, v, e, hu, hv⟩ => by
    obtain ⟨k1, k2, k3⟩ := sg_cut xs i j u v hij hj e
    refine star_closed hl hG hc n (i + u.length) j k1 hj ?_ (by rw [k3]; exact hv)
    have : G[i + u.length]? = some true := (hG.2 _ (by omega)).2 ⟨i, by omega, hO, by rw [k2]; exact hu⟩
    rw [← hc, orB_get _ _ _ (by rw [hl, hG.1])]
    exact .inr this
theorem star_end {L : List Int → Prop} {xs : List Int} {F O G : List Bool} (h : StarP L xs F O) (hG : EndsR L xs O G) (hc : manyB (orB O G) ≤ manyB O) : EndsR (starL L) xs F (orB O G) := by
  have hl : O.length = G.length := by rw [h.1, hG.1]
  have e := (manyB_or O G hl).2 hc
  rw [e]
  refine ⟨h.1, fun j hj => ⟨h.2.2 j hj, ?_⟩⟩
  rintro ⟨i, hi, hF, n, hn⟩
  exact star_closed h.1 hG e n i j hi hj (h.2.1 i (by omega) hF) hn
/-- What a character of some classes takes one to. -/
def setB (cl xs : List Int) (F : List Bool) : List Bool := false :: (List.range xs.length).map fun i => F.getD i false && decide (xs.getD i 0 ∈ cl)
theorem ends_set (cl xs : List Int) (F : List Bool) : EndsR (fun w => ∃ c, c ∈ cl ∧ w = [c]) xs F (setB cl xs F) := by
  refine ⟨by simp [setB], fun j hj => ?_⟩
  cases j with
  | zero =>
    refine ⟨fun h => by simp [setB] at h, fun ⟨i, hi, _, c, _, h⟩ => ?_⟩
    have : i = 0 := by omega
    subst this
    rw [sg_self] at h
    cases h
  | succ j =>
    have e : (setB cl xs F)[j + 1]? = some (F.getD j false && decide (xs.getD j 0 ∈ cl)) := by
      unfold setB
      rw [List.getElem?_cons_succ, List.getElem?_map, List.getElem?_range (by omega)]
      rfl
    have hx : xs.getD j 0 = xs[j] := by simp [show j < xs.length by omega]
    rw [e, hx]
    constructor
    · intro h
      simp only [Option.some.injEq, Bool.and_eq_true, decide_eq_true_eq] at h
      refine ⟨j, by omega, ?_, xs[j], h.2, sg_one xs j (by omega)⟩
      have h1 := h.1
      rw [List.getD_eq_getElem?_getD] at h1
      cases h2 : F[j]? with
      | none => rw [h2] at h1; simp at h1
      | some b => rw [h2] at h1; simp at h1; rw [h1]
    · rintro ⟨i, hi, hF, c, hc, h⟩
      have h1 := sg_len xs i (j + 1) hi hj
      rw [h] at h1
      have : i = j := by simp at h1; omega
      subst this
      rw [sg_one xs i (by omega)] at h
      have h2 : xs[i] = c := by simpa using h
      rw [List.getD_eq_getElem?_getD, hF, h2]
      simp [hc]
/-! What an expression fits, by what it is. -/
theorem fits_eq (n : Nd) : n.fits = nodeL n.op n.cl ((toL n.kids).map Nd.fits) := by
  show nodeL _ _ (fitF n.kids) = _
  rw [fitF_map]
theorem fits_op0 (n : Nd) (h : n.op = 0) (hk : (toL n.kids).length = 0) (w : List Int) : n.fits w ↔ w = [] := by
  unfold Nd.fits
  rw [h, fitF_map, List.eq_nil_of_length_eq_zero hk]
  simp [nodeL, seqL]
theorem fits_op1 (n : Nd) (h : n.op = 1) (w : List Int) : n.fits w ↔ ∃ c, c ∈ n.cl ∧ w = [c] := by
  unfold Nd.fits; rw [h]; simp [nodeL]
theorem fits_op2 (n : Nd) (h : n.op = 2) (w : List Int) : n.fits w ↔ seqL ((toL n.kids).map Nd.fits) w := by
  rw [fits_eq, h]; simp [nodeL]
theorem fits_op3 (n : Nd) (h : n.op = 3) (w : List Int) : n.fits w ↔ altL ((toL n.kids).map Nd.fits) w := by
  rw [fits_eq, h]; simp [nodeL]
theorem fits_op4 (n : Nd) (h : n.op = 4) (x : Nd) (hk : toL n.kids = [x]) (w : List Int) : n.fits w ↔ starL x.fits w := by
  rw [fits_eq, h, hk]; simp [nodeL, starL]
theorem fits_op5 (n : Nd) (h : n.op = 5) (x : Nd) (hk : toL n.kids = [x]) (w : List Int) : n.fits w ↔ w = [] ∨ x.fits w := by
  rw [fits_eq, h, hk]; simp [nodeL]
/-- The places that all of a row leads to are told by its beginnings. -/
def fromB (n : Nat) : List Bool := true :: List.replicate n false
theorem ends_whole {L : List Int → Prop} {xs : List Int} {G : List Bool} (h : EndsR L xs (fromB xs.length) G) (j : Nat) (hj : j ≤ xs.length) : G[j]? = some true ↔ L (xs.take j) := by
  rw [h.2 j hj]
  constructor
  · rintro ⟨i, hi, hF, hl⟩
    cases i with
    | zero => rw [← sg_take]; exact hl
    | succ i =>
      unfold fromB at hF
      rw [List.getElem?_cons_succ, List.getElem?_replicate] at hF
      split at hF <;> simp at hF
  · intro hl
    exact ⟨0, by omega, rfl, by rw [sg_take]; exact hl⟩
theorem ends_suffix {L : List Int → Prop} {xs : List Int} {G : List Bool} (h : EndsR L xs (List.replicate (xs.length + 1) true) G) (j : Nat) (hj : j ≤ xs.length) : G[j]? = some true ↔ ∃ i, i ≤ j ∧ L (sg xs i j) := by
  rw [h.2 j hj]
  constructor
  · rintro ⟨i, hi, _, hl⟩; exact ⟨i, hi, hl⟩
  · rintro ⟨i, hi, hl⟩
    exact ⟨i, hi, by rw [List.getElem?_replicate, if_pos (by omega)], hl⟩
/-- A row that is filled from the front. -/
def fillB (S : List Bool) (m k : Nat) : List Bool := S.take k ++ List.replicate (m - k) false
theorem fill_set (S : List Bool) (m k : Nat) (hm : S.length = m) (hk : k < m) : (fillB S m k).set k (S.getD k false) = fillB S m (k + 1) := by
  have hks : k < S.length := by omega
  unfold fillB
  rw [List.set_append_right _ _ (by simp; omega)]
  have e : k - (S.take k).length = 0 := by simp; omega
  rw [e, show m - k = (m - (k + 1)) + 1 by omega, List.replicate_succ, List.set_cons_zero, List.take_succ_eq_append_getElem hks, List.append_assoc]
  simp [hks]
theorem fill_all (S : List Bool) (m : Nat) (hm : S.length = m) : fillB S m m = S := by
  unfold fillB; rw [Nat.sub_self, List.take_of_length_le (by omega)]; simp
theorem fill_len (S : List Bool) (m k : Nat) (hm : S.length = m) (hk : k ≤ m) : (fillB S m k).length = m := by
  unfold fillB; simp; omega
theorem setB_len (cl xs : List Int) (F : List Bool) : (setB cl xs F).length = xs.length + 1 := by simp [setB]
theorem setB_first (cl xs : List Int) (F : List Bool) (m : Nat) (hm : m = xs.length + 1) : fillB (setB cl xs F) m 1 = List.replicate m false := by
  subst hm
  simp [fillB, setB, List.replicate_succ]
theorem setB_at (cl xs : List Int) (F : List Bool) (k : Nat) (hk : k < xs.length) : (setB cl xs F).getD (k + 1) false = (F.getD k false && decide (xs.getD k 0 ∈ cl)) := by
  rw [List.getD_eq_getElem?_getD]
  unfold setB
  rw [List.getElem?_cons_succ, List.getElem?_map, List.getElem?_range hk]
  rfl
end Go.Proofs.Ytjbhfonokgkalaa
