/- Plain mathematics of vectors: rows of entries (author, Seq) by rising authors; each author's Seq tells a vector; one entry more, two joined, the gap; nothing of the program is named here. -/
namespace Go.Proofs.Ytcbnmahbdcjamaa
set_option linter.unusedVariables false

/-- By rising authors. -/
def AscE : List (Int × Int) → Prop
  | [] => True
  | x :: r => (∀ y ∈ r, x.1 < y.1) ∧ AscE r
/-- Each Seq is one at least. -/
def PosE (v : List (Int × Int)) : Prop := ∀ x ∈ v, 1 ≤ x.2
/-- An author's Seq. -/
def sqL : List (Int × Int) → Int → Int
  | [], _ => 0
  | x :: r, a => if x.1 = a then x.2 else sqL r a
theorem sq_none (v : List (Int × Int)) (a : Int) (h : ∀ y ∈ v, y.1 ≠ a) : sqL v a = 0 := by
  induction v with
  | nil => rfl
  | cons x r ih =>
    rw [sqL, if_neg (h x (by simp))]
    exact ih fun y hy => h y (by simp [hy])
theorem sq_mem (v : List (Int × Int)) (hA : AscE v) (x : Int × Int) (hx : x ∈ v) : sqL v x.1 = x.2 := by
  induction v with
  | nil => cases hx
  | cons y r ih =>
    rw [sqL]
    rcases List.mem_cons.1 hx with rfl | hr
    · rw [if_pos rfl]
    · have := hA.1 x hr
      rw [if_neg (by omega)]
      exact ih hA.2 hr
theorem sq_nonneg (v : List (Int × Int)) (hP : PosE v) (a : Int) : 0 ≤ sqL v a := by
  induction v with
  | nil => exact Int.le_refl _
  | cons y r ih =>
    rw [sqL]
    split
    · have := hP y (by simp); omega
    · exact ih fun x hx => hP x (by simp [hx])
/-- Vectors that tell the same are the same. -/
theorem vec_ext : (u v : List (Int × Int)) → AscE u → PosE u → AscE v → PosE v → (∀ a, sqL u a = sqL v a) → u = v
  | [], [], _, _, _, _, _ => rfl
  | [], y :: r, _, _, hA, hP, h => by
    have h1 := h y.1
    rw [sq_mem (y :: r) hA y (by simp)] at h1
    have h2 := hP y (by simp)
    have : sqL [] y.1 = 0 := rfl
    omega
  | x :: r, [], hA, hP, _, _, h => by
    have h1 := h x.1
    rw [sq_mem (x :: r) hA x (by simp)] at h1
    have h2 := hP x (by simp)
    have : sqL [] x.1 = 0 := rfl
    omega
  | x :: r, y :: s, hA, hP, hB, hQ, h => by
    have hxy : x.1 = y.1 := by
      rcases Int.lt_trichotomy x.1 y.1 with hl | he | hl
      · have h1 := h x.1
        rw [sq_mem (x :: r) hA x (by simp), sq_none (y :: s) x.1 (by
          intro z hz
          rcases List.mem_cons.1 hz with rfl | hz
          · omega
          · have := hB.1 z hz; omega)] at h1
        have := hP x (by simp); omega
      · exact he
      · have h1 := h y.1
        rw [sq_mem (y :: s) hB y (by simp), sq_none (x :: r) y.1 (by
          intro z hz
          rcases List.mem_cons.1 hz with rfl | hz
          · omega
          · have := hA.1 z hz; omega)] at h1
        have := hQ y (by simp); omega
    have hs : x.2 = y.2 := by
      have h1 := h x.1
      rw [sq_mem (x :: r) hA x (by simp), hxy, sq_mem (y :: s) hB y (by simp)] at h1
      exact h1
    have ht : r = s := vec_ext r s hA.2 (fun z hz => hP z (by simp [hz])) hB.2 (fun z hz => hQ z (by simp [hz])) (by
      intro a
      by_cases ha : x.1 = a
      · rw [sq_none r a (fun z hz => by have := hA.1 z hz; omega), sq_none s a (fun z hz => by have := hB.1 z hz; omega)]
      · have h1 := h a
        rw [sqL, sqL, if_neg ha, if_neg (by omega)] at h1
        exact h1)
    rw [ht, show x = y from Prod.ext hxy hs]
/-- An author's Seq put in its place. -/
def putL (a s : Int) : List (Int × Int) → List (Int × Int)
  | [] => [(a, s)]
  | x :: r => if x.1 < a then x :: putL a s r else if x.1 = a then (a, s) :: r else (a, s) :: x :: r
theorem put_mem (a s : Int) : (v : List (Int × Int)) → ∀ y ∈ putL a s v, y = (a, s) ∨ y ∈ v
  | [], y, h => by simp [putL] at h; exact .inl h
  | x :: r, y, h => by
    rw [putL] at h
    split at h
    · rcases List.mem_cons.1 h with rfl | h
      · exact .inr (by simp)
      · rcases put_mem a s r y h with h | h
        · exact .inl h
        · exact .inr (by simp [h])
    · split at h
      · rcases List.mem_cons.1 h with rfl | h
        · exact .inl rfl
        · exact .inr (by simp [h])
      · rcases List.mem_cons.1 h with rfl | h
        · exact .inl rfl
        · exact .inr h
theorem put_asc (a s : Int) : (v : List (Int × Int)) → AscE v → AscE (putL a s v)
  | [], _ => ⟨fun y h => by simp at h, trivial⟩
  | x :: r, h => by
    rw [putL]
    split
    · refine ⟨fun y hy => ?_, put_asc a s r h.2⟩
      rcases put_mem a s r y hy with rfl | hy
      · assumption
      · exact h.1 y hy
    · split
      · next he => exact ⟨fun y hy => by have := h.1 y hy; show a < y.1; omega, h.2⟩
      · refine ⟨fun y hy => ?_, h⟩
        show a < y.1
        rcases List.mem_cons.1 hy with rfl | hy
        · omega
        · have := h.1 y hy; omega
theorem put_sq (a s : Int) : (v : List (Int × Int)) → AscE v → ∀ c, sqL (putL a s v) c = if c = a then s else sqL v c
  | [], _, c => by
    by_cases h : c = a
    · rw [if_pos h, putL, sqL, if_pos h.symm]
    · rw [if_neg h]
      show (if a = c then s else 0) = 0
      rw [if_neg (fun e => h e.symm)]
  | x :: r, hA, c => by
    rw [putL]
    by_cases h1 : x.1 < a
    · rw [if_pos h1, sqL, put_sq a s r hA.2 c]
      by_cases h : c = a
      · rw [if_pos h, if_neg (by omega), if_pos h]
      · rw [if_neg h, if_neg h, sqL]
    · rw [if_neg h1]
      by_cases h2 : x.1 = a
      · rw [if_pos h2, sqL]
        by_cases h : c = a
        · rw [if_pos h, if_pos h.symm]
        · rw [if_neg h, if_neg (fun e => h e.symm), sqL, if_neg (by omega)]
      · rw [if_neg h2, sqL]
        by_cases h : c = a
        · rw [if_pos h, if_pos h.symm]
        · rw [if_neg h, if_neg (fun e => h e.symm)]
/-- With: the greater one. -/
def withL (v : List (Int × Int)) (a s : Int) : List (Int × Int) := if s ≤ sqL v a then v else putL a s v
/-- A vector: in order, each Seq one at least. -/
def Vec (v : List (Int × Int)) : Prop := AscE v ∧ PosE v
theorem vec_nil : Vec [] := ⟨trivial, fun x h => by cases h⟩
theorem with_sq (v : List (Int × Int)) (a s : Int) (hA : AscE v) (c : Int) : sqL (withL v a s) c = if c = a then max (sqL v a) s else sqL v c := by
  unfold withL
  by_cases h : s ≤ sqL v a
  · rw [if_pos h]
    split
    · next e => rw [e]; omega
    · rfl
  · rw [if_neg h, put_sq a s v hA c]
    split
    · omega
    · rfl
theorem with_vec (v : List (Int × Int)) (a s : Int) (h : Vec v) : Vec (withL v a s) := by
  unfold withL
  by_cases hs : s ≤ sqL v a
  · rw [if_pos hs]; exact h
  · rw [if_neg hs]
    refine ⟨put_asc a s v h.1, fun x hx => ?_⟩
    rcases put_mem a s v x hx with rfl | hx
    · have := sq_nonneg v h.2 a; show 1 ≤ s; omega
    · exact h.2 x hx
theorem put_len (a s : Int) : (v : List (Int × Int)) → (putL a s v).length ≤ v.length + 1
  | [] => by simp [putL]
  | x :: r => by
    rw [putL]
    split
    · have := put_len a s r; simp; omega
    · split <;> simp
theorem with_len (v : List (Int × Int)) (a s : Int) : (withL v a s).length ≤ v.length + 1 := by
  unfold withL
  split
  · omega
  · exact put_len a s v
theorem with_mem (v : List (Int × Int)) (a s : Int) : ∀ y ∈ withL v a s, y = (a, s) ∨ y ∈ v := by
  intro y hy
  unfold withL at hy
  split at hy
  · exact .inr hy
  · exact put_mem a s v y hy
/-- Join, as the document says it: each of b's entries put. -/
def joinL (a b : List (Int × Int)) : List (Int × Int) := b.foldl (fun v e => withL v e.1 e.2) a
theorem join_vec (a b : List (Int × Int)) (h : Vec a) : Vec (joinL a b) := by
  induction b generalizing a with
  | nil => exact h
  | cons x r ih => exact ih _ (with_vec a x.1 x.2 h)
theorem join_sq (a b : List (Int × Int)) (h : Vec a) (hb : Vec b) (c : Int) : sqL (joinL a b) c = max (sqL a c) (sqL b c) := by
  induction b generalizing a with
  | nil =>
    have := sq_nonneg a h.2 c
    show sqL a c = max (sqL a c) 0
    omega
  | cons x r ih =>
    show sqL (joinL (withL a x.1 x.2) r) c = _
    rw [ih _ (with_vec a x.1 x.2 h) ⟨hb.1.2, fun y hy => hb.2 y (by simp [hy])⟩, with_sq a x.1 x.2 h.1, sqL]
    by_cases hc : c = x.1
    · rw [if_pos hc, if_pos hc.symm, sq_none r c (fun y hy => by have := hb.1.1 y hy; omega), hc]
      have := hb.2 x (by simp)
      have := sq_nonneg a h.2 x.1
      omega
    · rw [if_neg hc, if_neg (fun e => hc e.symm)]
theorem join_len (a b : List (Int × Int)) : (joinL a b).length ≤ a.length + b.length := by
  induction b generalizing a with
  | nil => simp [joinL]
  | cons x r ih =>
    have h1 := ih (withL a x.1 x.2)
    have h2 := with_len a x.1 x.2
    show (joinL (withL a x.1 x.2) r).length ≤ _
    simp; omega
theorem join_mem (a b : List (Int × Int)) : ∀ y ∈ joinL a b, y ∈ a ∨ y ∈ b := by
  induction b generalizing a with
  | nil => exact fun y hy => .inl hy
  | cons x r ih =>
    intro y hy
    rcases ih (withL a x.1 x.2) y hy with h | h
    · rcases with_mem a x.1 x.2 y h with rfl | h
      · exact .inr (by simp)
      · exact .inl h
    · exact .inr (by simp [h])
/-- By how much b's are greater. -/
def gapL (a : List (Int × Int)) : List (Int × Int) → Int
  | [] => 0
  | x :: r => max 0 (x.2 - sqL a x.1) + gapL a r
theorem gap_nonneg (a : List (Int × Int)) : (b : List (Int × Int)) → 0 ≤ gapL a b
  | [] => Int.le_refl _
  | x :: r => by have := gap_nonneg a r; rw [gapL]; omega
/-- Is none of b's greater? -/
def covL (a b : List (Int × Int)) : Bool := b.all fun x => decide (x.2 ≤ sqL a x.1)
theorem cov_gap (a b : List (Int × Int)) : covL a b = decide (gapL a b = 0) := by
  induction b with
  | nil => rfl
  | cons x r ih =>
    have h1 := gap_nonneg a r
    show (decide (x.2 ≤ sqL a x.1) && covL a r) = _
    rw [ih, gapL, Bool.eq_iff_iff]
    simp only [Bool.and_eq_true, decide_eq_true_eq]
    omega
theorem cov_iff (a b : List (Int × Int)) (ha : Vec a) (hb : Vec b) : covL a b = true ↔ ∀ c, sqL b c ≤ sqL a c := by
  unfold covL
  rw [List.all_eq_true]
  constructor
  · intro h c
    by_cases hc : ∃ x ∈ b, x.1 = c
    · obtain ⟨x, hx, rfl⟩ := hc
      have := h x hx
      rw [sq_mem b hb.1 x hx]
      simpa using this
    · rw [sq_none b c (fun y hy e => hc ⟨y, hy, e⟩)]
      exact sq_nonneg a ha.2 c
  · intro h x hx
    have := h x.1
    rw [sq_mem b hb.1 x hx] at this
    simpa using this
theorem sum_noughts : (L : List Int) → (L.map fun _ => (0 : Int)).sum = 0
  | [] => rfl
  | c :: r => by rw [List.map_cons, List.sum_cons, sum_noughts r]; rfl
/-- The gap, by all authors that any of two may have. -/
theorem gap_as (a : List (Int × Int)) : (b : List (Int × Int)) → (L : List Int) → (∀ x ∈ b, x.1 ∈ L) → L.Nodup → AscE b → gapL a b = (L.map fun c => if ∃ x ∈ b, x.1 = c then max 0 (sqL b c - sqL a c) else 0).sum
  | [], L, _, _, _ => by
    rw [gapL]
    have : (L.map fun c => if ∃ x ∈ ([] : List (Int × Int)), x.1 = c then max 0 (sqL [] c - sqL a c) else 0) = L.map fun _ => (0 : Int) := by
      apply List.map_congr_left
      intro c _
      rw [if_neg (by simp)]
    rw [this]
    exact (sum_noughts L).symm
  | x :: r, L, hL, hN, hA => by
    rw [gapL]
    have hx : x.1 ∈ L := hL x (by simp)
    have ihr := gap_as a r L (fun y hy => hL y (by simp [hy])) hN hA.2
    rw [ihr]
    clear ihr
    have key : ∀ M : List Int, M.Nodup → (M.map fun c => if ∃ y ∈ x :: r, y.1 = c then max 0 (sqL (x :: r) c - sqL a c) else 0).sum = (if x.1 ∈ M then max 0 (x.2 - sqL a x.1) else 0) + (M.map fun c => if ∃ y ∈ r, y.1 = c then max 0 (sqL r c - sqL a c) else 0).sum := by
      intro M hM
      induction M with
      | nil => simp
      | cons c m ih =>
        rw [List.nodup_cons] at hM
        rw [List.map_cons, List.sum_cons, List.map_cons, List.sum_cons, ih hM.2]
        by_cases hc : x.1 = c
        · have hn : ¬ ∃ y ∈ r, y.1 = c := by
            rintro ⟨y, hy, e⟩
            have := hA.1 y hy
            omega
          rw [if_pos ⟨x, by simp, hc⟩, if_neg hn, if_neg (by rw [hc]; exact hM.1), if_pos (by simp [hc]), sqL, if_pos hc, hc]
          try omega
        · have e1 : (if ∃ y ∈ x :: r, y.1 = c then max 0 (sqL (x :: r) c - sqL a c) else 0) = if ∃ y ∈ r, y.1 = c then max 0 (sqL r c - sqL a c) else 0 := by
            rw [sqL, if_neg hc]
            by_cases hr : ∃ y ∈ r, y.1 = c
            · obtain ⟨y, hy, e⟩ := hr
              rw [if_pos ⟨y, by simp [hy], e⟩, if_pos ⟨y, hy, e⟩]
            · rw [if_neg hr, if_neg]
              rintro ⟨y, hy, e⟩
              rcases List.mem_cons.1 hy with rfl | hy
              · exact hc e
              · exact hr ⟨y, hy, e⟩
          rw [e1]
          have e2 : (x.1 ∈ c :: m) ↔ x.1 ∈ m := by simp [hc]
          by_cases hm : x.1 ∈ m
          · rw [if_pos hm, if_pos (e2.2 hm)]; omega
          · rw [if_neg hm, if_neg (fun h => hm (e2.1 h))]; omega
    rw [key L hN, if_pos hx]
/-- The gap to the join is the gap to the other one. -/
theorem gap_join (a b : List (Int × Int)) (ha : Vec a) (hb : Vec b) : gapL a (joinL a b) = gapL a b := by
  have hj := join_vec a b ha
  obtain ⟨L, hN, hL⟩ : ∃ L : List Int, L.Nodup ∧ ∀ x ∈ a ++ b, x.1 ∈ L := by
    have : ∀ l : List (Int × Int), ∃ L : List Int, L.Nodup ∧ ∀ x ∈ l, x.1 ∈ L := by
      intro l
      induction l with
      | nil => exact ⟨[], List.nodup_nil, fun x h => by cases h⟩
      | cons y r ih =>
        obtain ⟨L, h1, h2⟩ := ih
        by_cases hy : y.1 ∈ L
        · refine ⟨L, h1, fun x hx => ?_⟩
          rcases List.mem_cons.1 hx with rfl | hx
          · exact hy
          · exact h2 x hx
        · refine ⟨y.1 :: L, List.nodup_cons.2 ⟨hy, h1⟩, fun x hx => ?_⟩
          rcases List.mem_cons.1 hx with rfl | hx
          · simp
          · exact List.mem_cons_of_mem _ (h2 x hx)
    exact this (a ++ b)
  rw [gap_as a (joinL a b) L (fun x hx => hL x (by rcases join_mem a b x hx with h | h <;> simp [h])) hN hj.1, gap_as a b L (fun x hx => hL x (by simp [hx])) hN hb.1]
  congr 1
  apply List.map_congr_left
  intro c _
  have e1 : (if ∃ x ∈ joinL a b, x.1 = c then max 0 (sqL (joinL a b) c - sqL a c) else 0) = max 0 (sqL (joinL a b) c - sqL a c) := by
    split
    · rfl
    · next h =>
      rw [sq_none (joinL a b) c (fun y hy e => h ⟨y, hy, e⟩)]
      have := sq_nonneg a ha.2 c
      omega
  have e2 : (if ∃ x ∈ b, x.1 = c then max 0 (sqL b c - sqL a c) else 0) = max 0 (sqL b c - sqL a c) := by
    split
    · rfl
    · next h =>
      rw [sq_none b c (fun y hy e => h ⟨y, hy, e⟩)]
      have := sq_nonneg a ha.2 c
      omega
  rw [e1, e2, join_sq a b ha hb]
  omega
/-- The program's Join: both at once. -/
def mrgF : Nat → List (Int × Int) → List (Int × Int) → List (Int × Int)
  | 0, a, b => a ++ b
  | n + 1, x :: a, y :: b => if x.1 < y.1 then x :: mrgF n a (y :: b) else if y.1 < x.1 then y :: mrgF n (x :: a) b else (x.1, max x.2 y.2) :: mrgF n a b
  | n + 1, a, b => a ++ b
theorem mrg_mem : (n : Nat) → (a b : List (Int × Int)) → ∀ z ∈ mrgF n a b, (∃ y ∈ a, y.1 = z.1 ∧ y.2 ≤ z.2) ∨ ∃ y ∈ b, y.1 = z.1 ∧ y.2 ≤ z.2
  | 0, a, b, z, h => by
    rcases List.mem_append.1 h with h | h
    · exact .inl ⟨z, h, rfl, Int.le_refl _⟩
    · exact .inr ⟨z, h, rfl, Int.le_refl _⟩
  | n + 1, [], b, z, h => by
    have h : z ∈ [] ++ b := by cases b <;> exact h
    exact .inr ⟨z, by simpa using h, rfl, Int.le_refl _⟩
  | n + 1, x :: a, [], z, h => by
    have h : z ∈ (x :: a) ++ [] := h
    exact .inl ⟨z, by simpa using h, rfl, Int.le_refl _⟩
  | n + 1, x :: a, y :: b, z, h => by
    rw [mrgF] at h
    split at h
    · rcases List.mem_cons.1 h with rfl | h
      · exact .inl ⟨z, by simp, rfl, Int.le_refl _⟩
      · rcases mrg_mem n a (y :: b) z h with ⟨u, hu, e⟩ | ⟨u, hu, e⟩
        · exact .inl ⟨u, by simp [hu], e⟩
        · exact .inr ⟨u, hu, e⟩
    · split at h
      · rcases List.mem_cons.1 h with rfl | h
        · exact .inr ⟨z, by simp, rfl, Int.le_refl _⟩
        · rcases mrg_mem n (x :: a) b z h with ⟨u, hu, e⟩ | ⟨u, hu, e⟩
          · exact .inl ⟨u, hu, e⟩
          · exact .inr ⟨u, by simp [hu], e⟩
      · rcases List.mem_cons.1 h with rfl | h
        · exact .inl ⟨x, by simp, rfl, by show x.2 ≤ max x.2 y.2; omega⟩
        · rcases mrg_mem n a b z h with ⟨u, hu, e⟩ | ⟨u, hu, e⟩
          · exact .inl ⟨u, by simp [hu], e⟩
          · exact .inr ⟨u, by simp [hu], e⟩
theorem mrg_vec : (n : Nat) → (a b : List (Int × Int)) → a.length + b.length ≤ n → Vec a → Vec b → AscE (mrgF n a b) ∧ ∀ c, sqL (mrgF n a b) c = max (sqL a c) (sqL b c)
  | n, [], b, _, ha, hb => by
    have e : mrgF n [] b = b := by cases n <;> cases b <;> rfl
    rw [e]
    refine ⟨hb.1, fun c => ?_⟩
    have := sq_nonneg b hb.2 c
    show sqL b c = max 0 (sqL b c)
    omega
  | n, x :: a, [], _, ha, hb => by
    have e : mrgF n (x :: a) [] = x :: a := by cases n <;> simp [mrgF]
    rw [e]
    refine ⟨ha.1, fun c => ?_⟩
    have := sq_nonneg (x :: a) ha.2 c
    show _ = max (sqL (x :: a) c) 0
    omega
  | 0, x :: a, y :: b, h, _, _ => by simp at h
  | n + 1, x :: a, y :: b, h, ha, hb => by
    have ha' : Vec a := ⟨ha.1.2, fun z hz => ha.2 z (by simp [hz])⟩
    have hb' : Vec b := ⟨hb.1.2, fun z hz => hb.2 z (by simp [hz])⟩
    simp only [List.length_cons] at h
    rw [mrgF]
    by_cases h1 : x.1 < y.1
    · rw [if_pos h1]
      obtain ⟨i1, i2⟩ := mrg_vec n a (y :: b) (by simp; omega) ha' hb
      refine ⟨⟨fun z hz => ?_, i1⟩, fun c => ?_⟩
      · rcases mrg_mem n a (y :: b) z hz with ⟨u, hu, e, _⟩ | ⟨u, hu, e, _⟩
        · have := ha.1.1 u hu; omega
        · rcases List.mem_cons.1 hu with rfl | hu
          · omega
          · have := hb.1.1 u hu; omega
      · rw [sqL, i2 c]
        by_cases hc : x.1 = c
        · rw [if_pos hc]
          have e1 : sqL (x :: a) c = x.2 := by rw [sqL, if_pos hc]
          have e2 : sqL (y :: b) c = 0 := sq_none _ c (fun z hz => by
            rcases List.mem_cons.1 hz with rfl | hz
            · omega
            · have := hb.1.1 z hz; omega)
          have := ha.2 x (by simp)
          rw [e1, e2]; omega
        · rw [if_neg hc]
          have e1 : sqL (x :: a) c = sqL a c := by rw [sqL, if_neg hc]
          rw [e1]
    · rw [if_neg h1]
      by_cases h2 : y.1 < x.1
      · rw [if_pos h2]
        obtain ⟨i1, i2⟩ := mrg_vec n (x :: a) b (by simp; omega) ha hb'
        refine ⟨⟨fun z hz => ?_, i1⟩, fun c => ?_⟩
        · rcases mrg_mem n (x :: a) b z hz with ⟨u, hu, e, _⟩ | ⟨u, hu, e, _⟩
          · rcases List.mem_cons.1 hu with rfl | hu
            · omega
            · have := ha.1.1 u hu; omega
          · have := hb.1.1 u hu; omega
        · rw [sqL, i2 c]
          by_cases hc : y.1 = c
          · rw [if_pos hc]
            have e1 : sqL (y :: b) c = y.2 := by rw [sqL, if_pos hc]
            have e2 : sqL (x :: a) c = 0 := sq_none _ c (fun z hz => by
              rcases List.mem_cons.1 hz with rfl | hz
              · omega
              · have := ha.1.1 z hz; omega)
            have := hb.2 y (by simp)
            rw [e1, e2]; omega
          · rw [if_neg hc]
            have e1 : sqL (y :: b) c = sqL b c := by rw [sqL, if_neg hc]
            rw [e1]
      · rw [if_neg h2]
        obtain ⟨i1, i2⟩ := mrg_vec n a b (by omega) ha' hb'
        refine ⟨⟨fun z hz => ?_, i1⟩, fun c => ?_⟩
        · show x.1 < z.1
          rcases mrg_mem n a b z hz with ⟨u, hu, e, _⟩ | ⟨u, hu, e, _⟩
          · have := ha.1.1 u hu; omega
          · have := hb.1.1 u hu; omega
        · rw [sqL, i2 c, sqL, sqL]
          by_cases hc : x.1 = c
          · rw [if_pos hc, if_pos hc, if_pos (by omega)]
          · rw [if_neg hc, if_neg hc, if_neg (by omega)]
theorem mrg_join (a b : List (Int × Int)) (n : Nat) (h : a.length + b.length ≤ n) (ha : Vec a) (hb : Vec b) : mrgF n a b = joinL a b := by
  obtain ⟨h1, h2⟩ := mrg_vec n a b h ha hb
  refine vec_ext _ _ h1 ?_ (join_vec a b ha).1 (join_vec a b ha).2 fun c => by rw [h2 c, join_sq a b ha hb c]
  intro z hz
  rcases mrg_mem n a b z hz with ⟨u, hu, _, e⟩ | ⟨u, hu, _, e⟩
  · have := ha.2 u hu; omega
  · have := hb.2 u hu; omega
/-- The program's With: found, the greater one is set; else put in where it must be, unless it is nothing. -/
theorem with_found (v : List (Int × Int)) (a s : Int) (h : Vec v) (i : Nat) (hi : i < v.length) (ha : (v.getD i (0, 0)).1 = a) : v.set i (a, max (v.getD i (0, 0)).2 s) = withL v a s := by
  have hmem : v.getD i (0, 0) ∈ v := by simp [hi]
  have hsq : sqL v a = (v.getD i (0, 0)).2 := by rw [← ha]; exact sq_mem v h.1 _ hmem
  have key : ∀ (u : List (Int × Int)) (i : Nat) (m : Int), AscE u → i < u.length → (u.getD i (0, 0)).1 = a → AscE (u.set i (a, m)) ∧ (∀ c, sqL (u.set i (a, m)) c = if c = a then m else sqL u c) ∧ ∀ z ∈ u.set i (a, m), z = (a, m) ∨ z ∈ u := by
    intro u
    induction u with
    | nil => intro i m _ hi; simp at hi
    | cons x r ih =>
      intro i m hA hi hg
      cases i with
      | zero =>
        have hxa : x.1 = a := by simpa using hg
        rw [List.set_cons_zero]
        refine ⟨⟨fun y hy => ?_, hA.2⟩, fun c => ?_, fun z hz => ?_⟩
        · have := hA.1 y hy; show a < y.1; omega
        · rw [sqL, sqL]
          by_cases hc : c = a
          · rw [if_pos hc, if_pos hc.symm]
          · rw [if_neg hc, if_neg (fun e => hc e.symm), if_neg (by omega)]
        · rcases List.mem_cons.1 hz with rfl | hz
          · exact .inl rfl
          · exact .inr (by simp [hz])
      | succ k =>
        have hk : k < r.length := by simpa using hi
        have hg' : (r.getD k (0, 0)).1 = a := by simpa using hg
        obtain ⟨j1, j2, j3⟩ := ih k m hA.2 hk hg'
        have hxa : x.1 < a := by rw [← hg']; exact hA.1 _ (by simp [hk])
        rw [List.set_cons_succ]
        refine ⟨⟨fun y hy => ?_, j1⟩, fun c => ?_, fun z hz => ?_⟩
        · rcases j3 y hy with rfl | hy
          · exact hxa
          · exact hA.1 y hy
        · rw [sqL, j2 c, sqL]
          by_cases hc : x.1 = c
          · rw [if_pos hc, if_pos hc, if_neg (by omega)]
          · rw [if_neg hc, if_neg hc]
        · rcases List.mem_cons.1 hz with rfl | hz
          · exact .inr (by simp)
          · rcases j3 z hz with h | h
            · exact .inl h
            · exact .inr (by simp [h])
  obtain ⟨k1, k2, k3⟩ := key v i (max (v.getD i (0, 0)).2 s) h.1 hi ha
  have hw := with_vec v a s h
  refine vec_ext _ _ k1 (fun z hz => ?_) hw.1 hw.2 fun c => ?_
  · rcases k3 z hz with rfl | hz
    · have := h.2 _ hmem
      show 1 ≤ max _ s
      omega
    · exact h.2 z hz
  · rw [k2 c, with_sq v a s h.1 c, hsq]
theorem with_put (v : List (Int × Int)) (a s : Int) (h : Vec v) (i : Nat) (hi : i ≤ v.length) (hs : 0 < s) (h1 : ∀ k, k < i → (v.getD k (0, 0)).1 < a) (h2 : ∀ k, i ≤ k → k < v.length → a < (v.getD k (0, 0)).1) : v.take i ++ (a, s) :: v.drop i = withL v a s := by
  have hn : sqL v a = 0 := sq_none v a (by
    intro y hy
    obtain ⟨k, hk, rfl⟩ := List.mem_iff_getElem.1 hy
    have e : v.getD k (0, 0) = v[k] := by simp [hk]
    rw [← e]
    rcases Nat.lt_or_ge k i with hl | hl
    · have := h1 k hl; omega
    · have := h2 k hl hk; omega)
  unfold withL
  rw [hn, if_neg (by omega)]
  clear hn
  induction v generalizing i with
  | nil => simp [putL]
  | cons x r ih =>
    cases i with
    | zero =>
      have := h2 0 (Nat.le_refl _) (by simp)
      have hx : a < x.1 := by simpa using this
      rw [putL, if_neg (by omega), if_neg (by omega)]
      rfl
    | succ k =>
      have := h1 0 (by omega)
      have hx : x.1 < a := by simpa using this
      rw [putL, if_pos hx, List.take_succ_cons, List.drop_succ_cons, List.cons_append]
      congr 1
      exact ih ⟨h.1.2, fun z hz => h.2 z (by simp [hz])⟩ k (by simpa using hi) (fun j hj => by simpa using h1 (j + 1) (by omega)) (fun j hj hl => by simpa using h2 (j + 1) (by omega) (by simpa using hl))
theorem with_none (v : List (Int × Int)) (a s : Int) (h : Vec v) (hs : s ≤ 0) : v = withL v a s := by
  unfold withL
  rw [if_pos (by have := sq_nonneg v h.2 a; omega)]
end Go.Proofs.Ytcbnmahbdcjamaa
