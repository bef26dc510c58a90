/- Plain mathematics of reading: what a rule asks of a text, by the rows that its sides mean; rules turned round; nothing of the program is named here. -/
import Derived.Test.YtjbhfonokgkalaaReaLg
import Derived.Test.YtjbhfonokgkalaaNfaEa
namespace Go.Proofs.Ytjbhfonokgkalaa
set_option linter.unusedVariables false
set_option linter.unusedSimpArgs false

/-- A set of rows, turned round if it is asked. -/
def tL (t : Bool) (L : Lg) : Lg := fun w => L (if t then w.reverse else w)
theorem SemD.congr {k : Dn} {L L' : Lg} (h : SemD k L) (e : ∀ w, L w ↔ L' w) : SemD k L' := by
  refine ⟨h.1.trans (e _), fun x => (h.2 x).trans ?_⟩
  unfold EndsH
  simp only [e]
theorem semL_map : (l : List Nd) → (Ls : Nd → Lg) → (∀ x ∈ l, SemD (x.emp, x.end) (Ls x)) → SemL (l.map fun n => (n.emp, n.end)) (l.map Ls)
  | [], _, _ => trivial
  | x :: r, Ls, h => ⟨h x (by simp), semL_map r Ls (fun y hy => h y (by simp [hy]))⟩
/-! One behind the other, turned. -/
theorem seq_app : (as bs : List Lg) → (w : List Int) → (seqL (as ++ bs) w ↔ ∃ u v, w = u ++ v ∧ seqL as u ∧ seqL bs v)
  | [], bs, w => by
    constructor
    · intro h; exact ⟨[], w, rfl, rfl, h⟩
    · rintro ⟨u, v, rfl, rfl, h⟩; exact h
  | a :: r, bs, w => by
    show (∃ u v, w = u ++ v ∧ a u ∧ seqL (r ++ bs) v) ↔ ∃ u v, w = u ++ v ∧ (∃ x y, u = x ++ y ∧ a x ∧ seqL r y) ∧ seqL bs v
    constructor
    · rintro ⟨u, v, rfl, h1, h2⟩
      obtain ⟨x, y, rfl, h3, h4⟩ := (seq_app r bs v).1 h2
      exact ⟨u ++ x, y, by simp, ⟨u, x, rfl, h1, h3⟩, h4⟩
    · rintro ⟨u, v, rfl, ⟨x, y, rfl, h1, h2⟩, h3⟩
      exact ⟨x, y ++ v, by simp, h1, (seq_app r bs _).2 ⟨y, v, rfl, h2, h3⟩⟩
theorem seq_one (a : Lg) (w : List Int) : seqL [a] w ↔ a w := by
  show (∃ u v, w = u ++ v ∧ a u ∧ v = []) ↔ a w
  constructor
  · rintro ⟨u, v, rfl, h, rfl⟩; simpa using h
  · intro h; exact ⟨w, [], by simp, h, rfl⟩
theorem seq_turn : (Ls : List Lg) → (w : List Int) → (seqL (Ls.map (tL true)).reverse w ↔ seqL Ls w.reverse)
  | [], w => by
    show w = [] ↔ w.reverse = []
    simp
  | a :: r, w => by
    rw [List.map_cons, List.reverse_cons, seq_app]
    show _ ↔ ∃ u v, w.reverse = u ++ v ∧ a u ∧ seqL r v
    constructor
    · rintro ⟨u, v, rfl, h1, h2⟩
      exact ⟨v.reverse, u.reverse, by simp, (seq_one (tL true a) v).1 h2, (seq_turn r u).1 h1⟩
    · rintro ⟨u, v, h, h1, h2⟩
      have e : w = v.reverse ++ u.reverse := by rw [← List.reverse_append, ← h, List.reverse_reverse]
      refine ⟨v.reverse, u.reverse, e, (seq_turn r _).2 (by rw [List.reverse_reverse]; exact h2), (seq_one _ _).2 ?_⟩
      show a (if true = true then u.reverse.reverse else u.reverse)
      simpa using h1
theorem pow_turn (K : Lg) : (n : Nat) → (w : List Int) → (powL (tL true K) n w ↔ powL K n w.reverse)
  | 0, w => by
    show w = [] ↔ w.reverse = []
    simp
  | n + 1, w => by
    rw [pow_end K n]
    show (∃ u v, w = u ++ v ∧ tL true K u ∧ powL (tL true K) n v) ↔ _
    constructor
    · rintro ⟨u, v, rfl, h1, h2⟩
      exact ⟨v.reverse, u.reverse, by simp, (pow_turn K n v).1 h2, h1⟩
    · rintro ⟨u, v, h, h1, h2⟩
      have e : w = v.reverse ++ u.reverse := by rw [← List.reverse_append, ← h, List.reverse_reverse]
      exact ⟨v.reverse, u.reverse, e, by show K (if true = true then v.reverse.reverse else v.reverse); simpa using h2, (pow_turn K n _).2 (by rw [List.reverse_reverse]; exact h1)⟩
/-- A node of parts that were turned round and set in the other order. -/
theorem nodeG_turn (op : Int) (cl : List Int) (Ls : List Lg) (w : List Int) : nodeG op cl (Ls.map (tL true)).reverse w ↔ nodeG op cl Ls w.reverse := by
  unfold nodeG
  split
  · simp
  · split
    · constructor
      · rintro ⟨c, h1, rfl⟩; exact ⟨c, h1, rfl⟩
      · rintro ⟨c, h1, h2⟩
        exact ⟨c, h1, by rw [← List.reverse_reverse w, h2]; rfl⟩
    · split
      · exact seq_turn Ls w
      · split
        · unfold altL
          constructor
          · rintro ⟨k, hk, h⟩
            rw [List.mem_reverse, List.mem_map] at hk
            obtain ⟨q, hq, rfl⟩ := hk
            exact ⟨q, hq, h⟩
          · rintro ⟨k, hk, h⟩
            exact ⟨tL true k, by rw [List.mem_reverse, List.mem_map]; exact ⟨k, hk, rfl⟩, h⟩
        · have one : ∀ k', (Ls.map (tL true)).reverse = [k'] ↔ ∃ k, Ls = [k] ∧ k' = tL true k := by
            intro k'
            constructor
            · intro h
              have hl : Ls.length = 1 := by have := congrArg List.length h; simpa using this
              match Ls, hl with
              | [k], _ => exact ⟨k, rfl, by simpa using h.symm⟩
            · rintro ⟨k, rfl, rfl⟩; rfl
          split
          · constructor
            · rintro ⟨k', h1, n, h2⟩
              obtain ⟨k, rfl, rfl⟩ := (one k').1 h1
              exact ⟨k, rfl, n, (pow_turn k n w).1 h2⟩
            · rintro ⟨k, rfl, n, h2⟩
              exact ⟨tL true k, rfl, n, (pow_turn k n w).2 h2⟩
          · split
            · constructor
              · rintro ⟨k', h1, h2⟩
                obtain ⟨k, rfl, rfl⟩ := (one k').1 h1
                exact ⟨k, rfl, h2.imp (fun h => by rw [h]; rfl) (fun h => h)⟩
              · rintro ⟨k, rfl, h2⟩
                exact ⟨tL true k, rfl, h2.imp (fun h => by simpa using h) (fun h => h)⟩
            · exact Iff.rfl
/-- Parts that do not count. -/
theorem nodeG_none (op : Int) (cl : List Int) (Ls : List Lg) (h : cnt op Ls.length = false) (w : List Int) : nodeG op cl [] w ↔ nodeG op cl Ls w := by
  unfold cnt at h
  simp only [Bool.or_eq_false_iff, decide_eq_false_iff_not, Bool.and_eq_false_iff, not_or] at h
  unfold nodeG
  split
  · exact Iff.rfl
  · split
    · exact Iff.rfl
    · rw [if_neg h.1.1, if_neg h.1.2, if_neg h.1.1, if_neg h.1.2]
      have no : ∀ k, op = 4 ∨ op = 5 → ¬ Ls = [k] := fun k h1 h2 => by
        rcases h.2 with h3 | h3
        · rcases h1 with h1 | h1
          · exact h3.1 h1
          · exact h3.2 h1
        · exact h3 (by rw [h2]; rfl)
      split
      · rename_i h4
        constructor
        · rintro ⟨k, h5, _⟩; cases h5
        · rintro ⟨k, h5, _⟩; exact absurd h5 (no k (.inl h4))
      · split
        · rename_i h4
          constructor
          · rintro ⟨k, h5, _⟩; cases h5
          · rintro ⟨k, h5, _⟩; exact absurd h5 (no k (.inr h4))
        · exact Iff.rfl
theorem nrm_sem_node (t : Bool) (n : Nd) (ih : ∀ x ∈ toL n.kids, SemD ((x.nrm t).emp, (x.nrm t).end) (tL t x.lg)) : SemD ((n.nrm t).emp, (n.nrm t).end) (tL t n.lg) := by
  obtain ⟨KL, hKL⟩ : ∃ KL, KL = if cnt n.op (toL n.kids).length then revL t ((toL n.kids).map (Nd.nrm t)) else [] := ⟨_, rfl⟩
  have hk : n.nrm t = ⟨n.op, n.cl, ofL KL⟩ := by unfold Nd.nrm; rw [nrm_map, ← hKL]
  have hd : den (ofL KL) = KL.map fun n => (n.emp, n.end) := by rw [den_map, toL_ofL]
  have he : ((n.nrm t).emp, (n.nrm t).end) = (nodeM n.op (KL.map fun n => (n.emp, n.end)), nodeE n.op n.cl (KL.map fun n => (n.emp, n.end))) := by
    rw [hk]
    show (nodeM n.op (den (ofL KL)), nodeE n.op n.cl (den (ofL KL))) = _
    rw [hd]
  rw [he]
  obtain ⟨Ls, hLs⟩ : ∃ Ls, Ls = (toL n.kids).map Nd.lg := ⟨_, rfl⟩
  have hll : Ls.length = (toL n.kids).length := by rw [hLs]; simp
  by_cases hc : cnt n.op (toL n.kids).length = true
  · rw [if_pos hc] at hKL
    have hn : n.op = 4 ∨ n.op = 5 → (toL n.kids).length ≤ 1 := by
      intro h
      unfold cnt at hc
      simp only [Bool.or_eq_true, decide_eq_true_eq, Bool.and_eq_true] at hc
      omega
    cases t with
    | false =>
      have hs : SemL (KL.map fun n => (n.emp, n.end)) Ls := by
        rw [hKL, hLs]
        show SemL (((toL n.kids).map (Nd.nrm false)).map _) _
        rw [List.map_map]
        have : ∀ l : List Nd, (∀ x ∈ l, SemD ((x.nrm false).emp, (x.nrm false).end) (tL false x.lg)) → SemL (l.map ((fun n => (n.emp, n.end)) ∘ Nd.nrm false)) (l.map Nd.lg) := by
          intro l
          induction l with
          | nil => intro _; trivial
          | cons x r ihl => intro h; exact ⟨h x (by simp), ihl (fun y hy => h y (by simp [hy]))⟩
        exact this _ ih
      refine (node_sem n.op n.cl _ Ls hs (fun h => by rw [hll]; exact hn h)).congr (fun w => ?_)
      rw [lg_eq, ← hLs]
      exact Iff.rfl
    | true =>
      have hs : SemL (KL.map fun n => (n.emp, n.end)) (Ls.map (tL true)).reverse := by
        rw [hKL, hLs]
        show SemL (((toL n.kids).map (Nd.nrm true)).reverse.map _) _
        rw [List.map_reverse, List.map_map, List.map_map]
        have : ∀ l : List Nd, (∀ x ∈ l, SemD ((x.nrm true).emp, (x.nrm true).end) (tL true x.lg)) → SemL (l.map ((fun n => (n.emp, n.end)) ∘ Nd.nrm true)) (l.map (tL true ∘ Nd.lg)) := by
          intro l
          induction l with
          | nil => intro _; trivial
          | cons x r ihl => intro h; exact ⟨h x (by simp), ihl (fun y hy => h y (by simp [hy]))⟩
        have snoc : ∀ (ks : List Dn) (Ms : List Lg) (k : Dn) (M : Lg), SemL ks Ms → SemD k M → SemL (ks ++ [k]) (Ms ++ [M]) := by
          intro ks
          induction ks with
          | nil =>
            intro Ms k M h1 h2
            cases Ms with
            | nil => exact ⟨h2, trivial⟩
            | cons _ _ => exact h1.elim
          | cons a r ihk =>
            intro Ms k M h1 h2
            cases Ms with
            | nil => exact h1.elim
            | cons b Ms => exact ⟨h1.1, ihk Ms k M h1.2 h2⟩
        have revS : ∀ (ks : List Dn) (Ms : List Lg), SemL ks Ms → SemL ks.reverse Ms.reverse := by
          intro ks
          induction ks with
          | nil =>
            intro Ms h
            cases Ms with
            | nil => trivial
            | cons _ _ => exact h.elim
          | cons a r ihk =>
            intro Ms h
            cases Ms with
            | nil => exact h.elim
            | cons b Ms =>
              rw [List.reverse_cons, List.reverse_cons]
              exact snoc _ _ _ _ (ihk Ms h.2) h.1
        exact revS _ _ (this _ ih)
      refine (node_sem n.op n.cl _ _ hs (fun h => by rw [List.length_reverse, List.length_map, hll]; exact hn h)).congr (fun w => ?_)
      rw [nodeG_turn, lg_eq, ← hLs]
      exact Iff.rfl
  · rw [if_neg hc] at hKL
    rw [Bool.not_eq_true] at hc
    subst hKL
    refine (node_sem n.op n.cl [] [] trivial (fun h => by simp)).congr (fun w => ?_)
    have h1 := nodeG_none n.op n.cl Ls (by rw [hll]; exact hc)
    unfold tL
    rw [lg_eq, ← hLs]
    cases t with
    | false => exact h1 w
    | true =>
      show nodeG n.op n.cl [] w ↔ nodeG n.op n.cl Ls w.reverse
      rw [← h1 w.reverse]
      exact (nodeG_turn n.op n.cl [] w)
theorem nrm_semF (t : Bool) : (f : Fo) → ∀ x ∈ toL f, SemD ((x.nrm t).emp, (x.nrm t).end) (tL t x.lg)
  | .nil, x, h => by simp [toL] at h
  | .node _ _ a k r, x, h => by
    simp only [toL, List.mem_cons] at h
    rcases h with rfl | h
    · exact nrm_sem_node t ⟨a.1, a.2, k⟩ (nrm_semF t k)
    · exact nrm_semF t r x h
theorem nrm_sem (t : Bool) (n : Nd) : SemD ((n.nrm t).emp, (n.nrm t).end) (tL t n.lg) := nrm_sem_node t n (nrm_semF t n.kids)
/-! What is told at a place. -/
theorem endsH_hsr (any : Bool) (rev : List Int) (L : Lg) : EndsH L (hsr any rev) ↔ ∃ u c q, rev = u ++ c :: q ∧ (any = true ∨ q = []) ∧ L (c :: u.reverse) := by
  have key : ∀ (rev : List Int) (L : Lg), EndsH L (hsr any rev) ↔ ∃ u c q, rev = u ++ c :: q ∧ (any = true ∨ q = []) ∧ L (c :: u.reverse) := by
    intro rev
    induction rev with
    | nil =>
      intro L
      constructor
      · intro h; exact absurd h (endsH_nil L)
      · rintro ⟨u, c, q, h, _⟩; simp at h
    | cons c r ih =>
      intro L
      have ih2 := ih (fun w => L (w ++ [c]))
      constructor
      · rintro ⟨u, d, q, h1, h2⟩
        cases u with
        | nil =>
          simp only [hsr, List.nil_append, List.cons.injEq, Prod.mk.injEq] at h1
          obtain ⟨⟨h3, h4⟩, h5⟩ := h1
          refine ⟨[], c, r, rfl, ?_, by rw [h3]; exact h2⟩
          rw [Bool.or_eq_true, List.isEmpty_iff] at h4
          exact h4
        | cons y u =>
          simp only [hsr, List.cons_append, List.cons.injEq] at h1
          obtain ⟨h3, h5⟩ := h1
          have : EndsH (fun w => L (w ++ [c])) (hsr any r) := by
            refine ⟨u, d, q, h5, ?_⟩
            rw [← h3, chs_cons] at h2
            exact h2
          obtain ⟨u', d', v, e1, e2, e3⟩ := ih2.1 this
          exact ⟨c :: u', d', v, by rw [e1]; rfl, e2, by rw [List.reverse_cons]; exact e3⟩
      · rintro ⟨u, d, q, h1, h2, h3⟩
        cases u with
        | nil =>
          simp only [List.nil_append, List.cons.injEq] at h1
          obtain ⟨rfl, rfl⟩ := h1
          refine ⟨[], c, hsr any r, ?_, h3⟩
          simp only [hsr, List.nil_append, List.cons.injEq, Prod.mk.injEq, and_true, true_and]
          rw [Bool.or_eq_true, List.isEmpty_iff]
          exact h2
        | cons y u =>
          simp only [List.cons_append, List.cons.injEq] at h1
          obtain ⟨rfl, rfl⟩ := h1
          rw [List.reverse_cons] at h3
          obtain ⟨u', d', v, e1, e2⟩ := ih2.2 ⟨u, d, q, rfl, h2, h3⟩
          refine ⟨(c, any || (u ++ d :: q).isEmpty) :: u', d', v, by rw [hsr, e1]; rfl, ?_⟩
          rw [chs_cons]; exact e2
  exact key rev L
theorem endsAt_iff {n : Nd} {L : Lg} (hs : SemD (n.emp, n.end) L) (any : Bool) (rev : List Int) : endsAt n any rev = true ↔ ∃ u q, rev = u ++ q ∧ (any = true ∨ q = []) ∧ L u.reverse := by
  unfold endsAt
  cases rev with
  | nil =>
    simp only [List.isEmpty_nil, if_true]
    rw [show n.emp = true ↔ L [] from hs.1]
    constructor
    · intro h; exact ⟨[], [], rfl, .inr rfl, h⟩
    · rintro ⟨u, q, h, _, h2⟩
      have := List.append_eq_nil_iff.1 h.symm
      rw [this.1] at h2
      exact h2
  | cons c r =>
    simp only [List.isEmpty_cons, Bool.false_eq_true, if_false]
    rw [Bool.or_eq_true, Bool.and_eq_true, show n.end (hsr any (c :: r)) = true ↔ _ from hs.2 _, endsH_hsr, show n.emp = true ↔ L [] from hs.1]
    constructor
    · rintro (⟨u, d, q, h1, h2, h3⟩ | ⟨h1, h2⟩)
      · exact ⟨u ++ [d], q, by rw [h1]; simp, h2, by simpa using h3⟩
      · exact ⟨[], c :: r, rfl, .inl h1, h2⟩
    · rintro ⟨u, q, h1, h2, h3⟩
      rcases List.eq_nil_or_concat u with rfl | ⟨u', d, rfl⟩
      · right
        rcases h2 with h2 | h2
        · exact ⟨h2, h3⟩
        · rw [h2] at h1; simp at h1
      · left
        exact ⟨u', d, q, by rw [h1]; simp, h2, by simpa using h3⟩
/-- What a rule asks. -/
def FitP (r : Rl) (xs : List Int) (p : Nat) : Prop := (∃ i, i ≤ p ∧ (r.start = true → i = 0) ∧ r.left.lg (sg xs i p)) ∧ ∃ j, p ≤ j ∧ j ≤ xs.length ∧ r.right.lg (sg xs p j)
theorem sg_drop_take (xs : List Int) (p j : Nat) (h : p ≤ j) : (xs.drop p).take (j - p) = sg xs p j := rfl
theorem take_drop_sg (xs : List Int) (i p : Nat) : (xs.take p).drop i = sg xs i p := by
  unfold sg
  rw [List.drop_take]
theorem fitL_iff (r : Rl) (xs : List Int) (p : Nat) (hp : p ≤ xs.length) : r.fitL xs p = true ↔ ∃ i, i ≤ p ∧ (r.start = true → i = 0) ∧ r.left.lg (sg xs i p) := by
  unfold Rl.fitL
  rw [endsAt_iff (nrm_sem false r.left)]
  constructor
  · rintro ⟨u, q, h1, h2, h3⟩
    have e : xs.take p = q.reverse ++ u.reverse := by rw [← List.reverse_append, ← h1, List.reverse_reverse]
    have hl : q.length ≤ p := by
      have := congrArg List.length e
      simp at this
      omega
    refine ⟨q.length, hl, fun hs => ?_, ?_⟩
    · rcases h2 with h2 | h2
      · rw [hs] at h2; cases h2
      · rw [h2]; rfl
    · rw [← take_drop_sg, e, List.drop_left' (by simp)]
      exact h3
  · rintro ⟨i, hi, hs, h⟩
    refine ⟨((xs.take p).drop i).reverse, ((xs.take p).take i).reverse, ?_, ?_, ?_⟩
    · rw [← List.reverse_append, List.take_append_drop]
    · cases hst : r.start with
      | true => right; rw [hs hst]; simp
      | false => left; rfl
    · show r.left.lg _
      rw [take_drop_sg, if_neg (by simp), List.reverse_reverse]
      exact h
theorem fitR_iff (r : Rl) (xs : List Int) (p : Nat) (hp : p ≤ xs.length) : r.fitR xs p = true ↔ ∃ j, p ≤ j ∧ j ≤ xs.length ∧ r.right.lg (sg xs p j) := by
  unfold Rl.fitR
  rw [endsAt_iff (nrm_sem true r.right)]
  constructor
  · rintro ⟨u, q, h1, _, h3⟩
    have hl : u.length ≤ xs.length - p := by
      have := congrArg List.length h1
      simp at this
      omega
    refine ⟨p + u.length, by omega, by omega, ?_⟩
    have e : sg xs p (p + u.length) = u := by
      unfold sg
      rw [h1, show p + u.length - p = u.length by omega, List.take_left' rfl]
    rw [e]
    have h4 : r.right.lg (if true = true then u.reverse.reverse else u.reverse) := h3
    simpa using h4
  · rintro ⟨j, hj, hj2, h⟩
    refine ⟨sg xs p j, (xs.drop p).drop (j - p), by rw [← sg_drop_take xs p j hj, List.take_append_drop], .inl rfl, ?_⟩
    show r.right.lg (if true = true then (sg xs p j).reverse.reverse else (sg xs p j).reverse)
    simpa using h
theorem fit_iff (r : Rl) (xs : List Int) (p : Nat) (hp : p ≤ xs.length) : r.fit xs p = true ↔ FitP r xs p := by
  unfold Rl.fit FitP
  rw [Bool.and_eq_true, fitL_iff r xs p hp, fitR_iff r xs p hp]
end Go.Proofs.Ytjbhfonokgkalaa
