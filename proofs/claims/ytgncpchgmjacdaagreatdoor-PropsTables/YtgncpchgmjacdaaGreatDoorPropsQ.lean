/- Plain mathematics of a table's text: a line's range read by cutting at the first semicolon and the first two points is the range that the document says; nothing of the program is named here. -/
import Derived.Test.YtgncpchgmjacdaaGreatDoorPropsO
namespace Go.Proofs.YtgncpchgmjacdaaGreatDoor
set_option linter.unusedVariables false

/-- Cut at the first c: what is ahead, what is behind, whether there is one. -/
def cut1 (c : Int) : List Int → List Int × List Int × Bool
  | [] => ([], [], false)
  | x :: r => if x = c then ([], r, true) else (x :: (cut1 c r).1, (cut1 c r).2.1, (cut1 c r).2.2)
/-- Cut at the first two points. -/
def cut2 : List Int → List Int × List Int × Bool
  | [] => ([], [], false)
  | x :: r => if x = 46 ∧ r.head? = some 46 then ([], r.drop 1, true) else (x :: (cut2 r).1, (cut2 r).2.1, (cut2 r).2.2)
/-- A whole text that is a character's number. -/
def rnum (s : List Int) : Option Int := if 4 ≤ s.length ∧ s.length ≤ 6 ∧ s.all isHex = true then some (hval s) else none
/-- Both numbers. -/
def rends (s : List Int) : Option (Int × Int) :=
  match rnum (cut2 s).1, rnum (if (cut2 s).2.2 then (cut2 s).2.1 else (cut2 s).1) with
  | some a, some b => some (a, b)
  | _, _ => none
/-- The range of a line. -/
def rone (s : List Int) : Option Rg :=
  if (cut1 59 s).2.2 = true ∧ nmOk (ltr (cut1 59 s).2.1) = true then
    match rends (rtr (cut1 59 s).1) with
    | some p => some (p.1, p.2, ltr (cut1 59 s).2.1)
    | none => none
  else none

theorem cut1_at (c : Int) : (l r : List Int) → (∀ x ∈ l, x ≠ c) → cut1 c (l ++ c :: r) = (l, r, true)
  | [], r, _ => by simp [cut1]
  | x :: l, r, h => by
    have hx : x ≠ c := h x (by simp)
    simp only [List.cons_append, cut1, hx, if_false]
    rw [cut1_at c l r (fun y hy => h y (by simp [hy]))]
theorem cut1_no (c : Int) : (l : List Int) → (∀ x ∈ l, x ≠ c) → cut1 c l = (l, [], false)
  | [], _ => by simp [cut1]
  | x :: l, h => by
    have hx : x ≠ c := h x (by simp)
    simp only [cut1, hx, if_false]
    rw [cut1_no c l (fun y hy => h y (by simp [hy]))]
theorem cut1_cases (c : Int) : (s : List Int) → (cut1 c s = (s, [], false) ∧ ∀ x ∈ s, x ≠ c) ∨ ∃ l r, s = l ++ c :: r ∧ (∀ x ∈ l, x ≠ c) ∧ cut1 c s = (l, r, true)
  | [] => .inl ⟨by simp [cut1], by simp⟩
  | x :: s => by
    by_cases hx : x = c
    · right; exact ⟨[], s, by simp [hx], by simp, by simp [cut1, hx]⟩
    · rcases cut1_cases c s with ⟨h1, h2⟩ | ⟨l, r, h1, h2, h3⟩
      · left
        refine ⟨by simp only [cut1, hx, if_false]; rw [h1], ?_⟩
        intro y hy
        rcases List.mem_cons.1 hy with rfl | hy
        · exact hx
        · exact h2 y hy
      · right
        refine ⟨x :: l, r, by rw [h1]; rfl, ?_, by simp only [cut1, hx, if_false]; rw [h3]⟩
        intro y hy
        rcases List.mem_cons.1 hy with rfl | hy
        · exact hx
        · exact h2 y hy
theorem cut2_no : (l : List Int) → (∀ x ∈ l, x ≠ 46) → cut2 l = (l, [], false)
  | [], _ => by simp [cut2]
  | x :: l, h => by
    have hx : x ≠ 46 := h x (by simp)
    simp only [cut2, hx, false_and, if_false]
    rw [cut2_no l (fun y hy => h y (by simp [hy]))]
theorem cut2_at : (l r : List Int) → (∀ x ∈ l, x ≠ 46) → cut2 (l ++ 46 :: 46 :: r) = (l, r, true)
  | [], r, _ => by simp [cut2]
  | x :: l, r, h => by
    have hx : x ≠ 46 := h x (by simp)
    simp only [List.cons_append, cut2, hx, false_and, if_false]
    rw [cut2_at l r (fun y hy => h y (by simp [hy]))]
theorem cut2_cases : (s : List Int) → cut2 s = (s, [], false) ∨ ∃ l r, s = l ++ 46 :: 46 :: r ∧ cut2 s = (l, r, true)
  | [] => .inl (by simp [cut2])
  | x :: s => by
    by_cases hx : x = 46 ∧ s.head? = some 46
    · right
      obtain ⟨rfl, h2⟩ := hx
      cases s with
      | nil => simp at h2
      | cons y r =>
        simp at h2
        subst h2
        exact ⟨[], r, rfl, by simp [cut2]⟩
    · rcases cut2_cases s with h1 | ⟨l, r, h1, h3⟩
      · left
        simp only [cut2, if_neg hx]
        rw [h1]
      · right
        exact ⟨x :: l, r, by rw [h1]; rfl, by simp only [cut2, if_neg hx]; rw [h3]⟩
theorem all_hex (l : List Int) : l.all isHex = true ↔ ∀ c ∈ l, isHex c = true := List.all_eq_true
theorem hex_no (c : Int) (h : isHex c = true) : isBl c = false ∧ c ≠ 59 ∧ c ≠ 46 := by
  simp [isHex] at h
  unfold isBl
  refine ⟨?_, by omega, by omega⟩
  simp
  omega
def secOf : Option (List Int) → List Int
  | none => []
  | some o => 46 :: 46 :: o
/-- How a range is written: the first number, perhaps two points and a second one, blanks, a semicolon, the rest. -/
def Shape (s one : List Int) (second : Option (List Int)) (bl cls : List Int) : Prop :=
  s = one ++ (secOf second ++ (bl ++ 59 :: cls)) ∧ (∀ c ∈ one, isHex c = true) ∧ 4 ≤ one.length ∧ one.length ≤ 6 ∧
  (∀ o, second = some o → (∀ c ∈ o, isHex c = true) ∧ 4 ≤ o.length ∧ o.length ≤ 6) ∧ ∀ c ∈ bl, isBl c = true
def lastH (one : List Int) : Option (List Int) → Int
  | none => hval one
  | some o => hval o
theorem bl_no (c : Int) (h : isBl c = true) : isHex c = false ∧ c ≠ 59 ∧ c ≠ 46 := by
  simp [isBl] at h
  unfold isHex
  refine ⟨?_, by omega, by omega⟩
  simp
  omega
theorem head_bl (bl cls : List Int) (hb : ∀ c ∈ bl, isBl c = true) : ∀ c, (bl ++ 59 :: cls).head? = some c → isHex c = false ∧ c ≠ 46 := by
  intro c hc
  cases bl with
  | nil => simp at hc; subst hc; decide
  | cons b r =>
    simp at hc
    subst hc
    have := bl_no b (hb b (by simp))
    exact ⟨this.1, this.2.2⟩
/-- At a text whose end is no blank, blanks at the ends of its rest are those at the beginning. -/
theorem trm_rest (p r : List Int) (h : rtr (p ++ r) = p ++ r) : trm r = ltr r := by
  unfold trm
  apply rtr_stays
  intro c hc
  obtain ⟨n, h1, h2, _, _⟩ := ltr_drop r
  rw [h2] at hc
  rcases List.eq_nil_or_concat r with rfl | ⟨m, d, rfl⟩
  · simp at hc
  · rw [List.concat_eq_append] at *
    rw [← List.append_assoc, rtr_snoc] at h
    have hd : isBl d = false := by
      cases hb : isBl d with
      | false => rfl
      | true =>
        rw [if_pos hb] at h
        obtain ⟨k, hk, e⟩ := rtr_take (p ++ m)
        rw [e] at h
        have := congrArg List.length h
        simp at this
        omega
    have hn : n ≤ m.length := by
      rcases Nat.lt_or_ge m.length n with h3 | h3
      · rw [List.drop_of_length_le (by simp; omega)] at hc
        simp at hc
      · exact h3
    rw [List.drop_append_of_le_length hn] at hc
    simp at hc
    rw [← hc]
    exact hd
theorem ltr_bl (bl r : List Int) (hb : ∀ c ∈ bl, isBl c = true) : ltr (bl ++ r) = ltr r := by
  unfold ltr
  exact List.dropWhile_append_of_pos hb
theorem numAt_run (l r : List Int) (h : ∀ c ∈ l, isHex c = true) (h4 : 4 ≤ l.length) (h6 : l.length ≤ 6) (hr : ∀ c, r.head? = some c → isHex c = false) : numAt (l ++ r) = some (hval l, l.length) := by
  unfold numAt
  rw [hexs_run l r h hr, if_pos ⟨h4, h6⟩]
theorem drop_len (l r : List Int) : (l ++ r).drop l.length = r := by
  rw [List.drop_append_of_le_length (Nat.le_refl _), List.drop_of_length_le (Nat.le_refl _), List.nil_append]
theorem shape_one (s one : List Int) (second : Option (List Int)) (bl cls : List Int) (hs : Shape s one second bl cls) (ht : rtr s = s) :
    oneOf s = if nmOk (ltr cls) = true then some (hval one, lastH one second, ltr cls) else none := by
  obtain ⟨h1, h2, h3, h4, h5, h6⟩ := hs
  have hcls : trm (bl ++ 59 :: cls) = 59 :: cls ∧ trm cls = ltr cls := by
    constructor
    · rw [trm_rest (one ++ secOf second) (bl ++ 59 :: cls) (by rw [List.append_assoc, ← h1]; exact ht), ltr_bl bl _ h6, ltr_stays 59 cls (by decide)]
    · exact trm_rest (one ++ (secOf second ++ (bl ++ [59]))) cls (by
        have e : (one ++ (secOf second ++ (bl ++ [59]))) ++ cls = s := by rw [h1]; simp
        rw [e]; exact ht)
  have hc : clsOf (bl ++ 59 :: cls) = if nmOk (ltr cls) = true then some (ltr cls) else none := by
    unfold clsOf
    rw [hcls.1]
    simp only []
    rw [hcls.2]
    simp
  have hh := head_bl bl cls h6
  unfold oneOf
  cases second with
  | none =>
    simp only [secOf, List.nil_append] at h1
    rw [h1, numAt_run one _ h2 h3 h4 (fun c hc => (hh c hc).1)]
    simp only [drop_len]
    have e : tailOf (hval one) (bl ++ 59 :: cls) = some (hval one, bl ++ 59 :: cls) := by
      unfold tailOf
      rw [if_neg]
      intro hx
      cases hb : bl ++ 59 :: cls with
      | nil => rw [hb] at hx; simp at hx
      | cons c r =>
        rw [hb] at hx
        simp at hx
        exact (hh c (by rw [hb]; rfl)).2 hx.1
    rw [e]
    simp only []
    rw [hc]
    by_cases hn : nmOk (ltr cls) = true
    · rw [if_pos hn, if_pos hn]; rfl
    · rw [if_neg hn, if_neg hn]
  | some o =>
    obtain ⟨o1, o2, o3⟩ := h5 o rfl
    simp only [secOf] at h1
    rw [h1, numAt_run one _ h2 h3 h4 (fun c hc => by simp at hc; subst hc; decide)]
    simp only [drop_len]
    have e : tailOf (hval one) ((46 :: 46 :: o) ++ (bl ++ 59 :: cls)) = some (hval o, bl ++ 59 :: cls) := by
      unfold tailOf
      rw [if_pos (by simp)]
      have e2 : ((46 :: 46 :: o) ++ (bl ++ 59 :: cls)).drop 2 = o ++ (bl ++ 59 :: cls) := by simp
      rw [e2, numAt_run o _ o1 o2 o3 (fun c hc => (hh c hc).1)]
      simp only []
      rw [← List.drop_drop, e2, drop_len]
    rw [e]
    simp only []
    rw [hc]
    by_cases hn : nmOk (ltr cls) = true
    · rw [if_pos hn, if_pos hn]; rfl
    · rw [if_neg hn, if_neg hn]
theorem rnum_run (l : List Int) (h : ∀ c ∈ l, isHex c = true) (h4 : 4 ≤ l.length) (h6 : l.length ≤ 6) : rnum l = some (hval l) := by
  unfold rnum
  rw [if_pos ⟨h4, h6, (all_hex l).2 h⟩]
theorem rnum_some (l : List Int) (v : Int) (h : rnum l = some v) : (∀ c ∈ l, isHex c = true) ∧ 4 ≤ l.length ∧ l.length ≤ 6 ∧ v = hval l := by
  unfold rnum at h
  split at h
  · rename_i hc
    cases h
    exact ⟨(all_hex l).1 hc.2.2, hc.1, hc.2.1, rfl⟩
  · cases h
theorem hex_ends (p o : List Int) (h : ∀ c ∈ o, isHex c = true) (h4 : 4 ≤ o.length) : rtr (p ++ o) = p ++ o := by
  rcases List.eq_nil_or_concat o with rfl | ⟨m, c, rfl⟩
  · simp at h4
  · rw [List.concat_eq_append, ← List.append_assoc, rtr_snoc, (hex_no c (h c (by simp))).1]
    simp
theorem shape_rone (s one : List Int) (second : Option (List Int)) (bl cls : List Int) (hs : Shape s one second bl cls) :
    rone s = if nmOk (ltr cls) = true then some (hval one, lastH one second, ltr cls) else none := by
  obtain ⟨h1, h2, h3, h4, h5, h6⟩ := hs
  have e1 : cut1 59 s = (one ++ (secOf second ++ bl), cls, true) := by
    have : s = (one ++ (secOf second ++ bl)) ++ 59 :: cls := by rw [h1]; simp
    rw [this]
    apply cut1_at
    intro c hc
    rcases List.mem_append.1 hc with hc | hc
    · exact (hex_no c (h2 c hc)).2.1
    · rcases List.mem_append.1 hc with hc | hc
      · cases second with
        | none => simp [secOf] at hc
        | some o =>
          simp only [secOf, List.mem_cons] at hc
          rcases hc with rfl | rfl | hc
          · decide
          · decide
          · exact (hex_no c ((h5 o rfl).1 c hc)).2.1
      · exact (bl_no c (h6 c hc)).2.1
  unfold rone
  rw [e1]
  simp only [true_and]
  by_cases hn : nmOk (ltr cls) = true
  · rw [if_pos hn, if_pos hn]
    cases second with
    | none =>
      simp only [secOf, List.nil_append]
      have e2 : rtr (one ++ bl) = one := by
        rw [rtr_blanks bl one h6]
        have := hex_ends [] one h2 h3
        simpa using this
      rw [e2]
      unfold rends
      rw [cut2_no one (fun c hc => (hex_no c (h2 c hc)).2.2)]
      simp only [Bool.false_eq_true, if_false]
      rw [rnum_run one h2 h3 h4]
      rfl
    | some o =>
      obtain ⟨o1, o2, o3⟩ := h5 o rfl
      simp only [secOf]
      have e2 : rtr (one ++ ((46 :: 46 :: o) ++ bl)) = one ++ 46 :: 46 :: o := by
        rw [← List.append_assoc, rtr_blanks bl _ h6]
        have := hex_ends (one ++ [46, 46]) o o1 o2
        simpa using this
      rw [e2]
      unfold rends
      rw [cut2_at one o (fun c hc => (hex_no c (h2 c hc)).2.2)]
      simp only [if_true]
      rw [rnum_run one h2 h3 h4, rnum_run o o1 o2 o3]
      rfl
  · rw [if_neg hn, if_neg hn]
theorem dw_split : (l : List Int) → ∃ b, l = b ++ l.dropWhile isBl ∧ ∀ c ∈ b, isBl c = true
  | [] => ⟨[], rfl, by simp⟩
  | c :: l => by
    obtain ⟨b, h1, h2⟩ := dw_split l
    rw [List.dropWhile_cons]
    by_cases hc : isBl c = true
    · rw [if_pos hc]
      refine ⟨c :: b, by rw [List.cons_append, ← h1], ?_⟩
      intro x hx
      rcases List.mem_cons.1 hx with rfl | hx
      · exact hc
      · exact h2 x hx
    · rw [if_neg hc]
      exact ⟨[], rfl, by simp⟩
theorem rtr_split (l : List Int) : ∃ b, l = rtr l ++ b ∧ ∀ c ∈ b, isBl c = true := by
  obtain ⟨b, h1, h2⟩ := dw_split l.reverse
  refine ⟨b.reverse, ?_, fun c hc => h2 c (by simpa using hc)⟩
  unfold rtr
  rw [← List.reverse_append, ← h1, List.reverse_reverse]
theorem tw_all (p : Int → Bool) : (l : List Int) → ∀ c ∈ l.takeWhile p, p c = true
  | [], c, h => by simp at h
  | x :: l, c, h => by
    rw [List.takeWhile_cons] at h
    split at h
    · rename_i hx
      rcases List.mem_cons.1 h with rfl | h
      · exact hx
      · exact tw_all p l c h
    · simp at h
theorem rone_shape (s : List Int) (x : Rg) (h : rone s = some x) : ∃ one second bl cls, Shape s one second bl cls := by
  unfold rone at h
  split at h
  · rename_i hc
    rcases cut1_cases 59 s with ⟨e, _⟩ | ⟨l, r, e0, e1, e⟩
    · rw [e] at hc; simp at hc
    · rw [e] at h
      simp only [] at h
      obtain ⟨b, hb1, hb2⟩ := rtr_split l
      cases hr : rends (rtr l) with
      | none => rw [hr] at h; cases h
      | some p =>
        unfold rends at hr
        rcases cut2_cases (rtr l) with e2 | ⟨l2, r2, e3, e2⟩
        · rw [e2] at hr
          simp only [Bool.false_eq_true, if_false] at hr
          cases h1 : rnum (rtr l) with
          | none => rw [h1] at hr; cases hr
          | some v =>
            obtain ⟨q1, q2, q3, _⟩ := rnum_some _ v h1
            exact ⟨rtr l, none, b, r, by rw [e0]; simp only [secOf, List.nil_append]; rw [← List.append_assoc, ← hb1], q1, q2, q3, by simp, hb2⟩
        · rw [e2] at hr
          simp only [if_true] at hr
          cases h1 : rnum l2 with
          | none => rw [h1] at hr; cases hr
          | some v =>
            cases h2 : rnum r2 with
            | none => rw [h1, h2] at hr; cases hr
            | some v2 =>
              obtain ⟨q1, q2, q3, _⟩ := rnum_some _ v h1
              obtain ⟨p1, p2, p3, _⟩ := rnum_some _ v2 h2
              refine ⟨l2, some r2, b, r, ?_, q1, q2, q3, fun o ho => by cases ho; exact ⟨p1, p2, p3⟩, hb2⟩
              rw [e0, hb1, e3]
              simp [secOf]
  · cases h
theorem numAt_some (s : List Int) (v : Int) (n : Nat) (h : numAt s = some (v, n)) : ∃ l r, s = l ++ r ∧ (∀ c ∈ l, isHex c = true) ∧ 4 ≤ l.length ∧ l.length ≤ 6 ∧ v = hval l ∧ n = l.length := by
  unfold numAt at h
  split at h
  · rename_i hc
    cases h
    exact ⟨hexs s, s.dropWhile isHex, (List.takeWhile_append_dropWhile).symm, fun c hx => tw_all isHex s c hx, hc.1, hc.2, rfl, rfl⟩
  · cases h
theorem trm_split (s : List Int) (r : List Int) (h : trm s = 59 :: r) : ∃ bl cls, s = bl ++ 59 :: cls ∧ ∀ c ∈ bl, isBl c = true := by
  unfold trm at h
  obtain ⟨n, h1, h2, h3, _⟩ := ltr_drop s
  obtain ⟨b, hb, _⟩ := rtr_split (ltr s)
  rw [h, List.cons_append] at hb
  refine ⟨s.take n, r ++ b, ?_, ?_⟩
  · rw [← hb, h2, List.take_append_drop]
  · intro c hc
    rw [List.mem_iff_getElem] at hc
    obtain ⟨k, hk, rfl⟩ := hc
    simp at hk
    have := h3 k (by omega)
    simpa [show k < s.length by omega] using this
theorem oneOf_shape (s : List Int) (x : Rg) (h : oneOf s = some x) : ∃ one second bl cls, Shape s one second bl cls := by
  unfold oneOf at h
  cases hn : numAt s with
  | none => rw [hn] at h; cases h
  | some p =>
    rw [hn] at h
    simp only [] at h
    obtain ⟨l, r, e, q1, q2, q3, q4, q5⟩ := numAt_some s p.1 p.2 hn
    have er : s.drop p.2 = r := by rw [e, q5, drop_len]
    rw [er] at h
    have hcl : ∀ t nm, clsOf t = some nm → ∃ bl cls, t = bl ++ 59 :: cls ∧ ∀ c ∈ bl, isBl c = true := by
      intro t nm ht
      unfold clsOf at ht
      cases h5 : trm t with
      | nil => rw [h5] at ht; cases ht
      | cons c u =>
        rw [h5] at ht
        simp only [] at ht
        split at ht
        · rename_i hc
          obtain ⟨rfl, _⟩ := hc
          exact trm_split t u h5
        · cases ht
    unfold tailOf at h
    by_cases h46 : r.take 2 = [46, 46]
    · rw [if_pos h46] at h
      cases hm : numAt (r.drop 2) with
      | none => rw [hm] at h; cases h
      | some m =>
        rw [hm] at h
        simp only [] at h
        obtain ⟨l2, r2, e2, p1, p2, p3, p4, p5⟩ := numAt_some _ m.1 m.2 hm
        cases h6 : clsOf (r.drop (2 + m.2)) with
        | none => rw [h6] at h; cases h
        | some nm =>
          obtain ⟨bl, cls, e3, hb⟩ := hcl _ nm h6
          have er2 : r = 46 :: 46 :: r.drop 2 := by
            conv => lhs; rw [← List.take_append_drop 2 r, h46]
            rfl
          have e4 : r.drop (2 + m.2) = r2 := by rw [← List.drop_drop, e2, p5, drop_len]
          refine ⟨l, some l2, bl, cls, ?_, q1, q2, q3, fun o ho => by cases ho; exact ⟨p1, p2, p3⟩, hb⟩
          rw [e, er2, e2, ← e3, e4]
          rfl
    · rw [if_neg h46] at h
      simp only [] at h
      cases h6 : clsOf r with
      | none => rw [h6] at h; cases h
      | some nm =>
        obtain ⟨bl, cls, e3, hb⟩ := hcl _ nm h6
        exact ⟨l, none, bl, cls, by rw [e, e3]; rfl, q1, q2, q3, by simp, hb⟩
/-- Both ways to read a range are one, at a text whose end is no blank. -/
theorem rone_eq (s : List Int) (ht : rtr s = s) : rone s = oneOf s := by
  cases h1 : rone s with
  | some x =>
    obtain ⟨one, second, bl, cls, hs⟩ := rone_shape s x h1
    rw [← h1, shape_rone s one second bl cls hs, shape_one s one second bl cls hs ht]
  | none =>
    cases h2 : oneOf s with
    | none => rfl
    | some x =>
      obtain ⟨one, second, bl, cls, hs⟩ := oneOf_shape s x h2
      rw [← h1, ← h2, shape_rone s one second bl cls hs, shape_one s one second bl cls hs ht]
theorem rtr_rtr (s : List Int) : rtr (rtr s) = rtr s := by
  unfold rtr
  rw [List.reverse_reverse]
  congr 1
  generalize s.reverse = t
  induction t with
  | nil => rfl
  | cons c r ih =>
    rw [List.dropWhile_cons]
    split
    · exact ih
    · rename_i hc
      rw [List.dropWhile_cons, if_neg hc]
theorem rone_trm (s : List Int) : rone (trm s) = oneOf (trm s) := rone_eq _ (rtr_rtr _)
/-- Blanks at the ends: whichever end first. -/
theorem ltr_rtr (s : List Int) : ltr (rtr s) = trm s := by
  induction s with
  | nil => rfl
  | cons c r ih =>
    by_cases hc : isBl c = true
    · have e1 : trm (c :: r) = trm r := by unfold trm; rw [ltr_cons, if_pos hc]
      rw [e1, ← ih]
      obtain ⟨b, h1, h2⟩ := rtr_split r
      by_cases hr : rtr r = []
      · have : rtr (c :: r) = [] := by
          have hx : ∀ x ∈ c :: r, isBl x = true := by
            intro x hx
            rcases List.mem_cons.1 hx with rfl | hx
            · exact hc
            · rw [h1, hr] at hx; exact h2 x (by simpa using hx)
          have := rtr_blanks (c :: r) [] hx
          rw [List.nil_append] at this
          exact this
        rw [this, hr]
      · have : rtr (c :: r) = c :: rtr r := by
          conv => lhs; rw [h1, ← List.cons_append, rtr_blanks b _ h2]
          rcases List.eq_nil_or_concat (rtr r) with e | ⟨m, d, e⟩
          · exact absurd e hr
          · rw [List.concat_eq_append] at e
            have hd : isBl d = false := by
              cases hb : isBl d with
              | false => rfl
              | true =>
                have := rtr_rtr r
                rw [e, rtr_snoc, if_pos hb] at this
                obtain ⟨k, _, ek⟩ := rtr_take m
                rw [ek] at this
                have := congrArg List.length this
                simp at this
                omega
            rw [e, ← List.cons_append, rtr_snoc, hd]
            simp
        rw [this, ltr_cons, if_pos hc]
    · have hc' : isBl c = false := by simpa using hc
      obtain ⟨m, hm⟩ := rtr_keeps c r hc'
      unfold trm
      rw [hm, ltr_stays c m hc', ltr_stays c r hc', hm]
end Go.Proofs.YtgncpchgmjacdaaGreatDoor
