/- Plain mathematics of machines: what every machine keeps to, how large one is; what is reached without reading; sets of states that wait, read step by step; nothing of the program is named here. -/
import Derived.Test.YtjbhfonokgkalaaNfaN
namespace Go.Proofs.Ytjbhfonokgkalaa
set_option linter.unusedVariables false
set_option linter.unusedSimpArgs false

/-- All ways lead to states; who does not read has no classes; classes are those that there are. -/
def WfL (l : List St) : Prop := ∀ (i : Nat) (s : St), l[i]? = some s → (∀ t, t ∈ s.next → t < l.length) ∧ (s.reads = false → s.cl = []) ∧ (∀ c, c ∈ s.cl → 0 ≤ c ∧ c ≤ 23) ∧ s.cl.length ≤ 1000
theorem wf_leads {l : List St} {es : List (Nat × Nat)} (h : ∀ (i : Nat) (s : St), l[i]? = some s → (∀ t, t ∈ s.next → t < l.length) ∧ (s.reads = false → s.cl = []) ∧ (∀ c, c ∈ s.cl → 0 ≤ c ∧ c ≤ 23) ∧ s.cl.length ≤ 1000) (he : ∀ e, e ∈ es → e.2 < l.length) : WfL (leads l es) := by
  intro i s hs
  rw [leads_get] at hs
  obtain ⟨s0, h0, rfl⟩ := Option.map_eq_some_iff.1 hs
  obtain ⟨a1, a2, a3⟩ := h i s0 h0
  refine ⟨fun t ht => ?_, a2, a3⟩
  rw [leads_len]
  simp only [St.ad, List.mem_append] at ht
  rcases ht with ht | ht
  · exact a1 t ht
  · unfold outs at ht
    obtain ⟨e, h1, rfl⟩ := List.mem_map.1 ht
    exact he e (List.mem_filter.1 h1).1
theorem newS_mem (op : Int) (cl : List Int) : ∀ s, s ∈ newS op cl → s.next = [] ∧ ((s.reads = true ∧ s.cl = cl) ∨ (s.reads = false ∧ s.cl = [])) := by
  intro s hs
  unfold newS at hs
  repeat' split at hs
  all_goals
    simp only [List.mem_cons, List.mem_nil_iff, or_false] at hs
    rcases hs with rfl | rfl | rfl <;> simp [st0]
theorem wf_node (op : Int) (cl : List Int) (ps : List (Nat × Nat)) (l : List St) (hr : op = 4 ∨ op = 5 → ps.length = 1) (hp : ∀ p, p ∈ ps → p.1 < l.length) (hc : (∀ c, c ∈ cl → 0 ≤ c ∧ c ≤ 23) ∧ cl.length ≤ 1000) (h : WfL l) : WfL (nodeP op cl ps l).1 := by
  rw [nodeP_eq]
  refine wf_leads (fun i s hs => ?_) (fun e he => ?_)
  · rcases Nat.lt_or_ge i l.length with hi | hi
    · rw [app_get _ _ _ hi] at hs
      obtain ⟨a1, a2, a3⟩ := h i s hs
      exact ⟨fun t ht => by have := a1 t ht; simp; omega, a2, a3⟩
    · rw [List.getElem?_append_right hi] at hs
      obtain ⟨a1, a2⟩ := newS_mem op cl s (List.mem_of_getElem? hs)
      refine ⟨fun t ht => by rw [a1] at ht; simp at ht, fun hf => ?_, fun c hcm => ?_, ?_⟩
      · rcases a2 with ⟨b, _⟩ | ⟨_, b⟩
        · rw [b] at hf; cases hf
        · exact b
      · rcases a2 with ⟨_, b⟩ | ⟨_, b⟩
        · rw [b] at hcm; exact hc.1 c hcm
        · rw [b] at hcm; simp at hcm
      · rcases a2 with ⟨_, b⟩ | ⟨_, b⟩
        · rw [b]; exact hc.2
        · rw [b]; simp
  · have := newE_to op cl ps l.length hr hp e he
    simpa using this
theorem wf_pieces : (f : Fo) → RightF f → (l : List St) → WfL l → WfL (piecesF f l).1
  | .nil, _, l, h => h
  | .node _ _ a k r, hf, l, h => by
    obtain ⟨hr, hc, hk, hrr⟩ := hf
    obtain ⟨a1, a2, a3, a4⟩ := pieces_struct k hk l
    exact wf_pieces r hrr _ (wf_node a.1 a.2 _ _ (fun h => by rw [a4]; exact hr h) (fun p hp => (a3.1 p hp).2.1) hc (wf_pieces k hk l h))
/-- How much there is of states and ways. -/
def szS (l : List St) : Nat := (l.map (fun s => s.next.length + 1)).sum
theorem szS_append (a b : List St) : szS (a ++ b) = szS a + szS b := by simp [szS]
theorem szS_lead : (l : List St) → (i j : Nat) → szS (leadS l i j) ≤ szS l + 1
  | [], i, j => by simp [leadS, szS]
  | s :: r, 0, j => by simp [leadS, szS, St.ad]; omega
  | s :: r, i + 1, j => by
    have ih := szS_lead r i j
    simp [leadS, szS] at ih ⊢
    omega
theorem szS_leads : (es : List (Nat × Nat)) → (l : List St) → szS (leads l es) ≤ szS l + es.length
  | [], l => Nat.le_refl _
  | e :: r, l => by
    have h1 := szS_leads r (leadS l e.1 e.2)
    have h2 := szS_lead l e.1 e.2
    show szS (leads (leadS l e.1 e.2) r) ≤ _
    simp only [List.length_cons]
    omega
theorem szS_len : (l : List St) → l.length ≤ szS l
  | [] => by simp [szS]
  | s :: r => by have := szS_len r; simp [szS] at this ⊢; omega
theorem szS_next : (l : List St) → ∀ (i : Nat) (s : St), l[i]? = some s → s.next.length + 1 ≤ szS l
  | [], i, s, h => by simp at h
  | x :: r, 0, s, h => by
    simp at h
    subst h
    simp [szS]
  | x :: r, i + 1, s, h => by
    have := szS_next r i s (by simpa using h)
    simp [szS] at this ⊢
    omega
theorem rowEs_len : (ps : List (Nat × Nat)) → (a : Nat) → (rowEs a ps).length = ps.length
  | [], _ => rfl
  | p :: r, a => by simp [rowEs, rowEs_len r]
theorem forkEs_len (f e : Nat) : (ps : List (Nat × Nat)) → (forkEs f e ps).length = 2 * ps.length
  | [] => rfl
  | p :: r => by
    show ((f, p.1) :: (p.2, e) :: forkEs f e r).length = _
    simp [forkEs_len f e r]; omega
theorem sz_node (op : Int) (cl : List Int) (ps : List (Nat × Nat)) (l : List St) : szS (nodeP op cl ps l).1 ≤ szS l + 7 + 2 * ps.length := by
  rw [nodeP_eq]
  have h1 := szS_leads (newE op ps l.length) (l ++ newS op cl)
  rw [szS_append] at h1
  have h2 : szS (newS op cl) + (newE op ps l.length).length ≤ 7 + 2 * ps.length := by
    unfold newS newE
    by_cases e1 : op = 1
    · simp [e1, szS, st0]; try omega
    by_cases e3 : op = 3
    · simp [e3, szS, st0, forkEs_len]; try omega
    by_cases e4 : op = 4
    · simp [e4, szS, st0]; omega
    by_cases e5 : op = 5
    · simp [e5, szS, st0, forkEs_len]
    · simp [e1, e3, e4, e5, szS, st0, rowEs_len]; omega
  show szS (leads (l ++ newS op cl) (newE op ps l.length)) ≤ _
  omega
def cntF : Fo → Nat
  | .nil => 0
  | .node _ _ _ k r => 1 + cntF k + cntF r
def Nd.cnt (n : Nd) : Nat := 1 + cntF n.kids
theorem sz_pieces : (f : Fo) → RightF f → (l : List St) → szS (piecesF f l).1 + 2 * (toL f).length ≤ szS l + 9 * cntF f
  | .nil, _, l => by simp [piecesF, toL, cntF]
  | .node _ _ a k r, hf, l => by
    obtain ⟨_, _, hk, hrr⟩ := hf
    have h1 := sz_pieces k hk l
    have h2 := sz_node a.1 a.2 (piecesF k l).2 (piecesF k l).1
    have h3 := sz_pieces r hrr (nodeP a.1 a.2 (piecesF k l).2 (piecesF k l).1).1
    rw [(pieces_struct k hk l).2.2.2] at h2
    simp only [piecesF, toL, cntF, List.length_cons]
    omega

/-! What is reached without reading. -/
def ReachN (M : List St) : Nat → Nat → Nat → Prop
  | 0, a, q => a = q
  | k + 1, a, q => a = q ∨ ∃ s : St, M[a]? = some s ∧ s.reads = false ∧ ∃ t, t ∈ s.next ∧ ReachN M k t q
def Reach (M : List St) (a q : Nat) : Prop := ∃ k, ReachN M k a q
theorem Reach.refl (M : List St) (a : Nat) : Reach M a a := ⟨0, rfl⟩
theorem Reach.step {M : List St} {a t q : Nat} {s : St} (h : M[a]? = some s) (hr : s.reads = false) (ht : t ∈ s.next) (hq : Reach M t q) : Reach M a q := by
  obtain ⟨k, hk⟩ := hq
  exact ⟨k + 1, .inr ⟨s, h, hr, t, ht, hk⟩⟩
theorem reachN_trans {M : List St} : (k : Nat) → {a b q : Nat} → ReachN M k a b → Reach M b q → Reach M a q
  | 0, _, _, _, h, hq => by
    have h' : _ = _ := h
    rw [h']; exact hq
  | k + 1, _, _, _, h, hq => by
    rcases h with rfl | ⟨s, h1, h2, t, h3, h4⟩
    · exact hq
    · exact Reach.step h1 h2 h3 (reachN_trans k h4 hq)
theorem Reach.trans {M : List St} {a b q : Nat} (h : Reach M a b) (hq : Reach M b q) : Reach M a q := by
  obtain ⟨k, hk⟩ := h
  exact reachN_trans k hk hq
theorem reachN_lt {M : List St} (hw : WfL M) : (k : Nat) → {a q : Nat} → a < M.length → ReachN M k a q → q < M.length
  | 0, _, _, ha, h => by
    have h' : _ = _ := h
    rw [← h']; exact ha
  | k + 1, _, _, ha, h => by
    rcases h with rfl | ⟨s, h1, _, t, h3, h4⟩
    · exact ha
    · exact reachN_lt hw k ((hw _ _ h1).1 t h3) h4
def AccS (M : List St) (fin : Nat) (at_ : List Nat) (w : List Int) : Prop := ∃ a, a ∈ at_ ∧ ∃ k, Acc M fin k a w
theorem acc_end {M : List St} {fin : Nat} : (k : Nat) → {a : Nat} → Acc M fin k a [] → Reach M a fin
  | 0, _, h => h.elim
  | k + 1, _, h => by
    rcases h with ⟨rfl, _⟩ | ⟨s, h1, ⟨h2, t, h3, h4⟩ | ⟨_, c, v, h, _⟩⟩
    · exact Reach.refl _ _
    · exact Reach.step h1 h2 h3 (acc_end k h4)
    · simp at h
theorem acc_reads {M : List St} {fin : Nat} {c : Int} {v : List Int} : (k : Nat) → {a : Nat} → Acc M fin k a (c :: v) → ∃ (q : Nat) (s : St), Reach M a q ∧ M[q]? = some s ∧ s.reads = true ∧ c ∈ s.cl ∧ ∃ t, t ∈ s.next ∧ ∃ j, Acc M fin j t v
  | 0, _, h => h.elim
  | k + 1, a, h => by
    rcases h with ⟨_, h⟩ | ⟨s, h1, ⟨h2, t, h3, h4⟩ | ⟨h2, c', v', h, h3, t, h4, h5⟩⟩
    · simp at h
    · obtain ⟨q, s', r1, r2⟩ := acc_reads k h4
      exact ⟨q, s', Reach.step h1 h2 h3 r1, r2⟩
    · simp at h
      obtain ⟨rfl, rfl⟩ := h
      exact ⟨a, s, Reach.refl _ _, h1, h2, h3, t, h4, k, h5⟩
theorem reachN_acc {M : List St} {fin : Nat} {w : List Int} : (k : Nat) → {a q : Nat} → ReachN M k a q → (∃ j, Acc M fin j q w) → ∃ j, Acc M fin j a w
  | 0, _, _, h, hq => by
    have h' : _ = _ := h
    rw [h']; exact hq
  | k + 1, _, _, h, hq => by
    rcases h with rfl | ⟨s, h1, h2, t, h3, h4⟩
    · exact hq
    · obtain ⟨j, hj⟩ := reachN_acc k h4 hq
      exact ⟨j + 1, .inr ⟨s, h1, .inl ⟨h2, t, h3, hj⟩⟩⟩
/-- The states that wait, of those that are reached from some. -/
def IsW (M : List St) (fin : Nat) (at_ : List Nat) (L : List Nat) : Prop :=
  L.Pairwise (· < ·) ∧ ∀ q, q ∈ L ↔ (q < M.length ∧ (∃ a, a ∈ at_ ∧ Reach M a q) ∧ ((∃ s : St, M[q]? = some s ∧ s.reads = true) ∨ q = fin))
def takesB (M : List St) (x c : Int) : Bool := decide (0 ≤ x) && decide (x < (M.length : Int)) && decide (c ∈ (M.getD x.toNat st0).cl)
/-- Where those states lead that take a class. -/
def stepAt (M : List St) (S : List Int) (c : Int) : List Nat := S.flatMap fun x => if takesB M x c then (M.getD x.toNat st0).next else []
theorem takesB_iff (M : List St) (x c : Int) : takesB M x c = true ↔ ∃ q : Nat, ∃ s : St, x = (q : Int) ∧ M[q]? = some s ∧ c ∈ s.cl := by
  unfold takesB
  simp only [Bool.and_eq_true, decide_eq_true_eq]
  constructor
  · rintro ⟨⟨h1, h2⟩, h3⟩
    have hl : x.toNat < M.length := by omega
    refine ⟨x.toNat, M[x.toNat], by omega, List.getElem?_eq_getElem hl, ?_⟩
    rw [List.getD_eq_getElem?_getD, List.getElem?_eq_getElem hl] at h3
    exact h3
  · rintro ⟨q, s, rfl, h2, h3⟩
    have := (List.getElem?_eq_some_iff.1 h2).1
    refine ⟨⟨by omega, by omega⟩, ?_⟩
    rw [List.getD_eq_getElem?_getD, Int.toNat_natCast, h2]
    exact h3
theorem mem_stepAt (M : List St) (S : List Int) (c : Int) (t : Nat) : t ∈ stepAt M S c ↔ ∃ q : Nat, ∃ s : St, (q : Int) ∈ S ∧ M[q]? = some s ∧ c ∈ s.cl ∧ t ∈ s.next := by
  unfold stepAt
  rw [List.mem_flatMap]
  constructor
  · rintro ⟨x, hx, ht⟩
    by_cases h : takesB M x c = true
    · rw [if_pos h] at ht
      obtain ⟨q, s, rfl, h2, h3⟩ := (takesB_iff M x c).1 h
      rw [List.getD_eq_getElem?_getD, Int.toNat_natCast, h2] at ht
      exact ⟨q, s, hx, h2, h3, ht⟩
    · rw [if_neg h] at ht; simp at ht
  · rintro ⟨q, s, h1, h2, h3, h4⟩
    refine ⟨q, h1, ?_⟩
    rw [if_pos ((takesB_iff M q c).2 ⟨q, s, rfl, h2, h3⟩), List.getD_eq_getElem?_getD, Int.toNat_natCast, h2]
    exact h4
theorem stepAt_lt {M : List St} (hw : WfL M) (S : List Int) (c : Int) : ∀ t, t ∈ stepAt M S c → t < M.length := by
  intro t ht
  obtain ⟨q, s, _, h2, _, h4⟩ := (mem_stepAt M S c t).1 ht
  exact (hw q s h2).1 t h4
theorem isW_nil {M : List St} {fin : Nat} {at_ L : List Nat} (h : IsW M fin at_ L) (hf : fin < M.length) : fin ∈ L ↔ AccS M fin at_ [] := by
  rw [h.2]
  constructor
  · rintro ⟨_, ⟨a, ha, k, hk⟩, _⟩
    exact ⟨a, ha, reachN_acc k hk ⟨1, .inl ⟨rfl, rfl⟩⟩⟩
  · rintro ⟨a, ha, k, hk⟩
    exact ⟨hf, ⟨a, ha, acc_end k hk⟩, .inr rfl⟩
theorem isW_cons {M : List St} {fin : Nat} {at_ L : List Nat} (hw : WfL M) (h : IsW M fin at_ L) (c : Int) (v : List Int) : AccS M fin at_ (c :: v) ↔ AccS M fin (stepAt M (L.map (fun (x : Nat) => (x : Int))) c) v := by
  constructor
  · rintro ⟨a, ha, k, hk⟩
    obtain ⟨q, s, r1, r2, r3, r4, t, r5, j, r6⟩ := acc_reads k hk
    refine ⟨t, (mem_stepAt _ _ _ _).2 ⟨q, s, ?_, r2, r4, r5⟩, j, r6⟩
    refine List.mem_map.2 ⟨q, (h.2 q).2 ⟨(List.getElem?_eq_some_iff.1 r2).1, ⟨a, ha, r1⟩, .inl ⟨s, r2, r3⟩⟩, rfl⟩
  · rintro ⟨t, ht, j, hj⟩
    obtain ⟨q, s, h1, h2, h3, h4⟩ := (mem_stepAt _ _ _ _).1 ht
    obtain ⟨q', hq', e⟩ := List.mem_map.1 h1
    obtain rfl : q' = q := by omega
    obtain ⟨_, ⟨a, ha, k, hk⟩, hr⟩ := (h.2 q').1 hq'
    have hrd : s.reads = true := by
      cases hs : s.reads with
      | true => rfl
      | false => rw [(hw q' s h2).2.1 hs] at h3; simp at h3
    exact ⟨a, ha, reachN_acc k hk ⟨j + 1, .inr ⟨s, h2, .inr ⟨hrd, c, v, rfl, h3, t, h4, hj⟩⟩⟩⟩
/-- Rising lists with the same members are the same. -/
theorem rising_ext : (a b : List Nat) → a.Pairwise (· < ·) → b.Pairwise (· < ·) → (∀ x, x ∈ a ↔ x ∈ b) → a = b
  | [], [], _, _, _ => rfl
  | [], y :: b, _, _, h => by have := (h y).2 (by simp); simp at this
  | x :: a, [], _, _, h => by have := (h x).1 (by simp); simp at this
  | x :: a, y :: b, ha, hb, h => by
    simp only [List.pairwise_cons] at ha hb
    have hxy : x = y := by
      have h1 := (h x).1 (by simp)
      have h2 := (h y).2 (by simp)
      rcases List.mem_cons.1 h1 with e | e
      · exact e
      · rcases List.mem_cons.1 h2 with e2 | e2
        · exact e2.symm
        · have := hb.1 x e
          have := ha.1 y e2
          omega
    subst hxy
    refine congrArg _ (rising_ext a b ha.2 hb.2 (fun z => ?_))
    constructor
    · intro hz
      rcases List.mem_cons.1 ((h z).1 (List.mem_cons.2 (.inr hz))) with e | e
      · subst e; have := ha.1 z hz; omega
      · exact e
    · intro hz
      rcases List.mem_cons.1 ((h z).2 (List.mem_cons.2 (.inr hz))) with e | e
      · subst e; have := hb.1 z hz; omega
      · exact e
theorem isW_same {M : List St} {fin : Nat} {at_ L L' : List Nat} (h : IsW M fin at_ L) (h' : IsW M fin at_ L') : L = L' := rising_ext L L' h.1 h'.1 (fun x => by rw [h.2, h'.2])
theorem isW_len {M : List St} {fin : Nat} {at_ L : List Nat} (h : IsW M fin at_ L) : L.length ≤ M.length := by
  have key : (l : List Nat) → (lo n : Nat) → l.Pairwise (· < ·) → (∀ q, q ∈ l → lo ≤ q ∧ q < n) → l.length + lo ≤ n ∨ l = [] := by
    intro l
    induction l with
    | nil => intro lo n _ _; exact .inr rfl
    | cons x r ih =>
      intro lo n hp hq
      simp only [List.pairwise_cons] at hp
      have hx := hq x (by simp)
      rcases ih (x + 1) n hp.2 (fun q h => ⟨hp.1 q h, (hq q (by simp [h])).2⟩) with h | h
      · left; simp; omega
      · left; simp [h]; omega
  rcases key L 0 M.length h.1 (fun q hq => ⟨by omega, ((h.2 q).1 hq).1⟩) with h | h
  · omega
  · simp [h]
/-! Marking all that is reached, one by one. -/
/-- What one visit leaves marked. -/
def Vis (M : List St) (a : Nat) (seen seen' : List Bool) : Prop :=
  seen'.length = seen.length ∧ (∀ i, seen.getD i false = true → seen'.getD i false = true) ∧ seen'.getD a false = true ∧
    (∀ u, seen'.getD u false = true → seen.getD u false = false → Reach M a u ∧ ∀ s : St, M[u]? = some s → s.reads = false → ∀ t, t ∈ s.next → seen'.getD t false = true)
/-- What a row of visits leaves marked. -/
def Viss (M : List St) (as_ : List Nat) (seen seen' : List Bool) : Prop :=
  seen'.length = seen.length ∧ (∀ i, seen.getD i false = true → seen'.getD i false = true) ∧ (∀ a, a ∈ as_ → seen'.getD a false = true) ∧
    (∀ u, seen'.getD u false = true → seen.getD u false = false → (∃ a, a ∈ as_ ∧ Reach M a u) ∧ ∀ s : St, M[u]? = some s → s.reads = false → ∀ t, t ∈ s.next → seen'.getD t false = true)
theorem Viss.nil (M : List St) (seen : List Bool) : Viss M [] seen seen := ⟨rfl, fun _ h => h, fun a h => by simp at h, fun u h1 h2 => by rw [h1] at h2; cases h2⟩
theorem Viss.snoc {M : List St} {as_ : List Nat} {a : Nat} {s0 s1 s2 : List Bool} (h : Viss M as_ s0 s1) (k : Vis M a s1 s2) : Viss M (as_ ++ [a]) s0 s2 := by
  obtain ⟨h1, h2, h3, h4⟩ := h
  obtain ⟨k1, k2, k3, k4⟩ := k
  refine ⟨k1.trans h1, fun i hi => k2 i (h2 i hi), fun b hb => ?_, fun u hu hn => ?_⟩
  · rcases List.mem_append.1 hb with hb | hb
    · exact k2 b (h3 b hb)
    · obtain rfl : b = a := by simpa using hb
      exact k3
  · cases hs : s1.getD u false with
    | true =>
      obtain ⟨⟨b, hb, hr⟩, hc⟩ := h4 u hs hn
      exact ⟨⟨b, by simp [hb], hr⟩, fun s q1 q2 t ht => k2 t (hc s q1 q2 t ht)⟩
    | false =>
      obtain ⟨hr, hc⟩ := k4 u hu hs
      exact ⟨⟨a, by simp, hr⟩, hc⟩
theorem getD_set (l : List Bool) (i j : Nat) (hi : i < l.length) : (l.set i true).getD j false = if i = j then true else l.getD j false := by
  rw [List.getD_eq_getElem?_getD, List.getD_eq_getElem?_getD, List.getElem?_set]
  by_cases h : i = j
  · subst h; simp [hi]
  · simp [h]
/-- A state that reads is marked, and no more. -/
theorem vis_reads {M : List St} {a : Nat} {seen : List Bool} {s : St} (ha : a < seen.length) (hs : M[a]? = some s) (hr : s.reads = true) : Vis M a seen (seen.set a true) := by
  refine ⟨by simp, fun i hi => ?_, ?_, fun u hu hn => ?_⟩
  · rw [getD_set _ _ _ ha]; split <;> simp_all
  · rw [getD_set _ _ _ ha]; simp
  · rw [getD_set _ _ _ ha] at hu
    by_cases h : a = u
    · subst h
      exact ⟨Reach.refl _ _, fun s' h1 h2 => by rw [hs] at h1; cases h1; rw [hr] at h2; cases h2⟩
    · rw [if_neg h, hn] at hu; cases hu
theorem vis_seen {M : List St} {a : Nat} {seen : List Bool} (h : seen.getD a false = true) : Vis M a seen seen := ⟨rfl, fun _ h => h, h, fun u h1 h2 => by rw [h1] at h2; cases h2⟩
theorem vis_goes {M : List St} {a : Nat} {seen seen' : List Bool} {s : St} (ha : a < seen.length) (hs : M[a]? = some s) (hr : s.reads = false) (h : Viss M s.next (seen.set a true) seen') : Vis M a seen seen' := by
  obtain ⟨h1, h2, h3, h4⟩ := h
  have hself : seen'.getD a false = true := h2 a (by rw [getD_set _ _ _ ha]; simp)
  refine ⟨by simpa using h1, fun i hi => h2 i (by rw [getD_set _ _ _ ha]; split <;> simp_all), hself, fun u hu hn => ?_⟩
  by_cases h : a = u
  · subst h
    refine ⟨Reach.refl _ _, fun s' q1 _ t ht => ?_⟩
    rw [hs] at q1; cases q1
    exact h3 t ht
  · obtain ⟨⟨b, hb, hrb⟩, hc⟩ := h4 u hu (by rw [getD_set _ _ _ ha, if_neg h]; exact hn)
    exact ⟨Reach.step hs hr hb hrb, hc⟩
def unseen (l : List Bool) : Nat := (l.filter (fun b => !b)).length
theorem unseen_set : (l : List Bool) → (i : Nat) → i < l.length → l.getD i false = false → unseen (l.set i true) + 1 = unseen l
  | [], i, h, _ => by simp at h
  | b :: r, 0, _, h => by
    simp at h
    subst h
    simp [unseen]
  | b :: r, i + 1, hi, h => by
    have ih := unseen_set r i (by simpa using hi) (by simpa using h)
    cases b <;> simp [unseen] at ih ⊢ <;> omega
theorem unseen_mono : (a b : List Bool) → b.length = a.length → (∀ i, a.getD i false = true → b.getD i false = true) → unseen b ≤ unseen a
  | [], [], _, _ => Nat.le_refl _
  | x :: a, y :: b, hl, h => by
    have ih := unseen_mono a b (by simpa using hl) (fun i hi => by have := h (i + 1) (by simpa using hi); simpa using this)
    have h0 := h 0
    cases x <;> cases y <;> simp [unseen] at ih h0 ⊢ <;> omega
  | [], _ :: _, hl, _ => by simp at hl
  | _ :: _, [], hl, _ => by simp at hl
/-- All that is marked, from nothing on, is just what is reached. -/
theorem viss_reach {M : List St} {as_ : List Nat} {seen seen' : List Bool} (h : Viss M as_ seen seen') (h0 : ∀ i, seen.getD i false = false) (u : Nat) : seen'.getD u false = true ↔ ∃ a, a ∈ as_ ∧ Reach M a u := by
  obtain ⟨_, _, h3, h4⟩ := h
  constructor
  · intro hu
    exact (h4 u hu (h0 u)).1
  · rintro ⟨a, ha, k, hk⟩
    have key : (k : Nat) → ∀ b, seen'.getD b false = true → ReachN M k b u → seen'.getD u false = true := by
      intro k
      induction k with
      | zero => intro b hb h; have h' : b = u := h; rw [← h']; exact hb
      | succ k ih =>
        intro b hb h
        rcases h with rfl | ⟨s, q1, q2, t, q3, q4⟩
        · exact hb
        · exact ih t ((h4 b hb (h0 b)).2 s q1 q2 t q3) q4
    exact key k a (h3 a ha) hk
end Go.Proofs.Ytjbhfonokgkalaa
