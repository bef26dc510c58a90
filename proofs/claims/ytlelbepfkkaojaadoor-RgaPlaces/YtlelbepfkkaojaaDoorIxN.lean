/- Plain mathematics of rows of blocks: finding a place, one more, one set, a block cut in two, how many of the first are seen, the place of the k-th. -/
import Derived.Test.YtlelbepfkkaojaaDoorIxM
namespace Go.Proofs.YtlelbepfkkaojaaDoor
set_option linter.unusedVariables false

/-- Blocks as they are kept: each has marks, sixty-four at most. -/
def GoodB (Bs : List (List Bool)) : Prop := ∀ b ∈ Bs, 1 ≤ b.length ∧ b.length ≤ 64
/-- Where find comes to. -/
def fnd : List (List Bool) → Int → Nat × Int
  | [], a => (0, a)
  | b :: r, a => if a < (b.length : Int) then (0, a) else ((fnd r (a - b.length)).1 + 1, (fnd r (a - b.length)).2)
/-- What is left of a place behind i blocks. -/
def leftA (Bs : List (List Bool)) (i : Nat) (a : Int) : Int := a - ((Bs.take i).flatten.length : Int)
theorem take_snoc (Bs : List (List Bool)) (i : Nat) (h : i < Bs.length) : (Bs.take (i + 1)).flatten = (Bs.take i).flatten ++ Bs.getD i [] := by
  rw [List.take_add_one, List.getElem?_eq_getElem h, List.flatten_append]
  simp [h]
theorem left_next (Bs : List (List Bool)) (i : Nat) (h : i < Bs.length) (a : Int) : leftA Bs (i + 1) a = leftA Bs i a - ((Bs.getD i []).length : Int) := by
  unfold leftA
  rw [take_snoc Bs i h, List.length_append]
  omega
/-- No block of the first i holds it. -/
def Past (Bs : List (List Bool)) (i : Nat) (a : Int) : Prop := ∀ j, j < i → ((Bs.getD j []).length : Int) ≤ leftA Bs j a
theorem leftA_cons (b : List Bool) (r : List (List Bool)) (i : Nat) (a : Int) : leftA (b :: r) (i + 1) a = leftA r i (a - b.length) := by
  unfold leftA
  simp only [List.take_succ_cons, List.flatten_cons, List.length_append]
  omega
theorem fnd_at : (Bs : List (List Bool)) → (i : Nat) → (a : Int) → Past Bs i a → (i < Bs.length → leftA Bs i a < ((Bs.getD i []).length : Int)) → i ≤ Bs.length → fnd Bs a = (i, leftA Bs i a)
  | [], i, a, _, _, h => by
    obtain rfl : i = 0 := by simpa using h
    simp [fnd, leftA]
  | b :: r, 0, a, _, h2, _ => by
    have := h2 (by simp)
    simp [leftA] at this
    simp [fnd, leftA, this]
  | b :: r, i + 1, a, h1, h2, h3 => by
    have hz := h1 0 (by omega)
    simp [leftA] at hz
    have ih := fnd_at r i (a - b.length) (fun j hj => by
      have := h1 (j + 1) (by omega)
      rw [leftA_cons] at this
      simpa using this) (fun hi => by
      have := h2 (by simpa using hi)
      rw [leftA_cons] at this
      simpa using this) (by simpa using h3)
    rw [fnd, if_neg (by omega), ih, leftA_cons]
/-- A place that there is: its block, and its place there. -/
theorem fnd_in : (Bs : List (List Bool)) → (a : Nat) → a < Bs.flatten.length → ∃ (i p : Nat), fnd Bs (a : Int) = (i, (p : Int)) ∧ i < Bs.length ∧ p < (Bs.getD i []).length ∧ a = (Bs.take i).flatten.length + p
  | [], a, h => by simp at h
  | b :: r, a, h => by
    by_cases hb : a < b.length
    · exact ⟨0, a, by rw [fnd, if_pos (by omega)], by simp, by simpa using hb, by simp⟩
    · obtain ⟨i, p, h1, h2, h3, h4⟩ := fnd_in r (a - b.length) (by rw [List.flatten_cons, List.length_append] at h; omega)
      refine ⟨i + 1, p, ?_, by simpa using h2, by simpa using h3, ?_⟩
      · rw [fnd, if_neg (by omega), show (a : Int) - b.length = ((a - b.length : Nat) : Int) by omega, h1]
      · simp only [List.take_succ_cons, List.flatten_cons, List.length_append]
        omega
/-- A row of blocks, its i-th apart. -/
theorem rows_at (Bs : List (List Bool)) (i : Nat) (h : i < Bs.length) : Bs = Bs.take i ++ Bs.getD i [] :: Bs.drop (i + 1) := by
  have : Bs.getD i [] = Bs[i] := by simp [h]
  rw [this, List.getElem_cons_drop, List.take_append_drop]
theorem rows_set (Bs : List (List Bool)) (i : Nat) (b : List Bool) (h : i < Bs.length) : Bs.set i b = Bs.take i ++ b :: Bs.drop (i + 1) := List.set_eq_take_append_cons_drop ▸ (by rw [if_pos h])
theorem flat_at (Bs : List (List Bool)) (i : Nat) (h : i < Bs.length) : Bs.flatten = (Bs.take i).flatten ++ (Bs.getD i [] ++ (Bs.drop (i + 1)).flatten) := by
  have := congrArg List.flatten (rows_at Bs i h)
  rw [List.flatten_append, List.flatten_cons] at this
  exact this
theorem flat_set (Bs : List (List Bool)) (i : Nat) (b : List Bool) (h : i < Bs.length) : (Bs.set i b).flatten = (Bs.take i).flatten ++ (b ++ (Bs.drop (i + 1)).flatten) := by
  rw [rows_set Bs i b h, List.flatten_append, List.flatten_cons]
theorem good_at {Bs : List (List Bool)} (h : GoodB Bs) (i : Nat) (hi : i < Bs.length) : 1 ≤ (Bs.getD i []).length ∧ (Bs.getD i []).length ≤ 64 := by
  have : Bs.getD i [] = Bs[i] := by simp [hi]
  rw [this]
  exact h _ (List.getElem_mem hi)
theorem good_set {Bs : List (List Bool)} (h : GoodB Bs) (i : Nat) (b : List Bool) (hb : 1 ≤ b.length ∧ b.length ≤ 64) : GoodB (Bs.set i b) := by
  intro x hx
  rcases List.mem_or_eq_of_mem_set hx with h1 | h1
  · exact h x h1
  · rw [h1]; exact hb
/-- One mark set, by its block. -/
theorem set_flat (Bs : List (List Bool)) (i p : Nat) (c : Bool) (h : i < Bs.length) (hp : p < (Bs.getD i []).length) : (Bs.set i ((Bs.getD i []).set p c)).flatten = Bs.flatten.set ((Bs.take i).flatten.length + p) c := by
  rw [flat_set Bs i _ h, flat_at Bs i h, List.set_append_right _ _ (by omega), Nat.add_sub_cancel_left, List.set_append_left _ _ hp]
/-- One mark more, by its block. -/
theorem ins_flat (Bs : List (List Bool)) (i p : Nat) (c : Bool) (h : i < Bs.length) (hp : p ≤ (Bs.getD i []).length) : (Bs.set i (ins (Bs.getD i []) p c)).flatten = ins Bs.flatten ((Bs.take i).flatten.length + p) c := by
  rw [flat_set Bs i _ h]
  have e := flat_at Bs i h
  generalize Bs.getD i [] = b at hp e ⊢
  generalize (Bs.take i).flatten = X at e ⊢
  generalize (Bs.drop (i + 1)).flatten = Y at e ⊢
  rw [e]
  unfold ins
  rw [List.take_append, List.drop_append, List.take_of_length_le (by omega : X.length ≤ X.length + p), List.drop_of_length_le (by omega : X.length ≤ X.length + p), Nat.add_sub_cancel_left, List.take_append_of_le_length hp, List.drop_append_of_le_length hp]
  simp
theorem getD_flat (Bs : List (List Bool)) (i p : Nat) (h : i < Bs.length) (hp : p < (Bs.getD i []).length) : Bs.flatten.getD ((Bs.take i).flatten.length + p) false = (Bs.getD i []).getD p false := by
  rw [flat_at Bs i h]
  generalize Bs.getD i [] = b at hp ⊢
  simp only [List.getD_eq_getElem?_getD]
  rw [List.getElem?_append_right (by omega), Nat.add_sub_cancel_left, List.getElem?_append_left hp]
theorem cnt_set (l : List Bool) (n : Nat) (b : Bool) (h : n < l.length) : cnt (l.set n b) + (l.getD n false).toNat = cnt l + b.toNat := by
  have e := congrArg cnt (row_at l n h)
  rw [set_row l n b h]
  rw [cnt_app, cnt] at e
  rw [cnt_app, cnt]
  omega
/-- A full block cut in two. -/
def cutB (Bs : List (List Bool)) (i : Nat) : List (List Bool) := Bs.take i ++ (Bs.getD i []).take 32 :: (Bs.getD i []).drop 32 :: Bs.drop (i + 1)
theorem cut_flat (Bs : List (List Bool)) (i : Nat) (h : i < Bs.length) : (cutB Bs i).flatten = Bs.flatten := by
  have e := flat_at Bs i h
  unfold cutB
  rw [e]
  simp only [List.flatten_append, List.flatten_cons]
  rw [← List.append_assoc ((Bs.getD i []).take 32), List.take_append_drop]
theorem cut_good {Bs : List (List Bool)} (h : GoodB Bs) (i : Nat) (hi : i < Bs.length) (h64 : (Bs.getD i []).length = 64) : GoodB (cutB Bs i) := by
  intro x hx
  unfold cutB at hx
  simp only [List.mem_append, List.mem_cons] at hx
  rcases hx with hx | rfl | rfl | hx
  · exact h x (List.mem_of_mem_take hx)
  · rw [List.length_take]; omega
  · rw [List.length_drop]; omega
  · exact h x (List.mem_of_mem_drop hx)
theorem cut_len (Bs : List (List Bool)) (i : Nat) (hi : i < Bs.length) : (cutB Bs i).length = Bs.length + 1 := by
  unfold cutB
  simp only [List.length_append, List.length_take, List.length_cons, List.length_drop]
  omega
theorem cut_getD (Bs : List (List Bool)) (i j : Nat) (hi : i < Bs.length) : (cutB Bs i).getD j [] = if j < i then Bs.getD j [] else if j = i then (Bs.getD i []).take 32 else if j = i + 1 then (Bs.getD i []).drop 32 else Bs.getD (j - 1) [] := by
  have ht : (Bs.take i).length = i := by rw [List.length_take]; omega
  unfold cutB
  by_cases h1 : j < i
  · rw [if_pos h1]
    simp only [List.getD_eq_getElem?_getD]
    rw [List.getElem?_append_left (by omega), List.getElem?_take, if_pos h1]
  · rw [if_neg h1]
    simp only [List.getD_eq_getElem?_getD]
    rw [List.getElem?_append_right (by omega), ht]
    by_cases h2 : j = i
    · subst h2; rw [if_pos rfl, Nat.sub_self]; rfl
    · rw [if_neg h2]
      by_cases h3 : j = i + 1
      · subst h3
        rw [if_pos rfl, show i + 1 - i = 1 by omega]; rfl
      · rw [if_neg h3, show j - i = (j - 1 - (i + 1)) + 1 + 1 by omega, List.getElem?_cons_succ, List.getElem?_cons_succ, List.getElem?_drop, show i + 1 + (j - 1 - (i + 1)) = j - 1 by omega]
/-- How many of the first are seen, by blocks. -/
def rnk (L : List Bool) (a : Int) : Nat := cnt (L.take a.toNat)
theorem rnk_neg (L : List Bool) (a : Int) (h : a ≤ 0) : rnk L a = 0 := by
  unfold rnk
  rw [show a.toNat = 0 by omega]
  rfl
theorem rnk_max (L : List Bool) (a : Int) : rnk L (max 0 a) = rnk L a := by
  unfold rnk
  congr 2
  omega
theorem rnk_at (Bs : List (List Bool)) (i p : Nat) (h : i < Bs.length) (hp : p < (Bs.getD i []).length) (a : Int) (ha : leftA Bs i a = (p : Int)) : rnk Bs.flatten a = cnt (Bs.take i).flatten + cnt ((Bs.getD i []).take p) := by
  unfold leftA at ha
  unfold rnk
  rw [show a.toNat = (Bs.take i).flatten.length + p by omega, flat_at Bs i h]
  generalize Bs.getD i [] = b at hp ⊢
  rw [List.take_append, List.take_of_length_le (by omega), Nat.add_sub_cancel_left, List.take_append_of_le_length (by omega), cnt_app]
theorem rnk_end (Bs : List (List Bool)) (a : Int) (h : 0 ≤ leftA Bs Bs.length a) : rnk Bs.flatten a = cnt Bs.flatten := by
  unfold leftA at h
  rw [List.take_length] at h
  unfold rnk
  rw [List.take_of_length_le (by omega)]
/-- How many are seen in the first i blocks. -/
def cntA (Bs : List (List Bool)) (i : Nat) : Nat := cnt (Bs.take i).flatten
theorem cntA_next (Bs : List (List Bool)) (i : Nat) (h : i < Bs.length) : cntA Bs (i + 1) = cntA Bs i + cnt (Bs.getD i []) := by
  unfold cntA
  rw [take_snoc Bs i h, cnt_app]
theorem sel_app : (a b : List Bool) → (k : Nat) → (k < cnt a → sel (a ++ b) k = sel a k) ∧ (cnt a ≤ k → k < cnt a + cnt b → sel (a ++ b) k = a.length + sel b (k - cnt a))
  | [], b, k => ⟨fun h => by simp [cnt] at h, fun _ _ => by simp [cnt]⟩
  | true :: r, b, 0 => ⟨fun _ => rfl, fun h => by simp [cnt] at h⟩
  | true :: r, b, k + 1 => by
    obtain ⟨h1, h2⟩ := sel_app r b k
    refine ⟨fun h => ?_, fun h h' => ?_⟩
    · rw [List.cons_append, sel, sel, h1 (by simp [cnt] at h; omega)]
    · simp only [cnt, Bool.toNat_true] at h h' ⊢
      rw [List.cons_append, sel, h2 (by omega) (by omega), List.length_cons, show k + 1 - (1 + cnt r) = k - cnt r by omega]
      omega
  | false :: r, b, k => by
    obtain ⟨h1, h2⟩ := sel_app r b k
    refine ⟨fun h => ?_, fun h h' => ?_⟩
    · rw [List.cons_append, sel, sel, h1 (by simpa [cnt] using h)]
    · simp only [cnt, Bool.toNat_false] at h h' ⊢
      rw [List.cons_append, sel, h2 (by omega) (by omega), List.length_cons, show k - (0 + cnt r) = k - cnt r by omega]
      omega
theorem sel_at (Bs : List (List Bool)) (i k : Nat) (h : i < Bs.length) (h1 : cntA Bs i ≤ k) (h2 : k < cntA Bs i + cnt (Bs.getD i [])) : sel Bs.flatten k = (Bs.take i).flatten.length + sel (Bs.getD i []) (k - cntA Bs i) ∧ k < cnt Bs.flatten := by
  unfold cntA at *
  have e := flat_at Bs i h
  rw [e, cnt_app, cnt_app]
  generalize Bs.getD i [] = b at h2 ⊢
  refine ⟨?_, by omega⟩
  rw [(sel_app _ _ k).2 h1 (by rw [cnt_app]; omega), (sel_app b _ _).1 (by omega)]
end Go.Proofs.YtlelbepfkkaojaaDoor
