/- Plain mathematics of UTF-8, more: the order of characters is that of their bytes. -/
import Derived.Test.YtdoflmgdmcmmfaaUtfM
import Derived.Laws.BytesArg
import Derived.Lib.Strings
namespace Go.Proofs.Ytdoflmgdmcmmfaa

/-- By the first number that differs, or by being a beginning. -/
def lexI : List Int → List Int → Bool
  | [], [] => false
  | [], _ :: _ => true
  | _ :: _, [] => false
  | x :: xs, y :: ys => if x = y then lexI xs ys else decide (x < y)

theorem lexI_same (p : List Int) (xs ys : List Int) : lexI (p ++ xs) (p ++ ys) = lexI xs ys := by
  induction p with
  | nil => rfl
  | cons c p ih => simp [lexI, ih]

theorem lexI_by8 (x y : Int) (hx : sz x ≠ 0) (hy : sz y ≠ 0) (hne : x ≠ y) (xs ys : List Int) : lexI (by8 x ++ xs) (by8 y ++ ys) = decide (x < y) := by
  have px := sz_pos x hx
  have py := sz_pos y hy
  rcases (by omega : x ≤ 127 ∨ (128 ≤ x ∧ x ≤ 2047) ∨ (2048 ≤ x ∧ x ≤ 65535) ∨ 65536 ≤ x) with h | h | h | h
  all_goals rcases (by omega : y ≤ 127 ∨ (128 ≤ y ∧ y ≤ 2047) ∨ (2048 ≤ y ∧ y ≤ 65535) ∨ 65536 ≤ y) with k | k | k | k
  all_goals
    first | rw [by8_1 x h] | rw [by8_2 x h] | rw [by8_3 x h] | rw [by8_4 x h]
    first | rw [by8_1 y k] | rw [by8_2 y k] | rw [by8_3 y k] | rw [by8_4 y k]
    simp only [List.cons_append, List.nil_append, lexI]
    (repeat' split) <;> first | rfl | (rw [decide_eq_decide]; omega) | omega

theorem lexI_encs : (a b : List Int) → oks a = true → oks b = true → lexI (encs a) (encs b) = lexI a b
  | [], [], _, _ => rfl
  | [], y :: ys, _, hb => by
    have := by8_len y
    rw [encs_cons]
    cases e : by8 y with
    | nil => rw [e] at this; simp at this
    | cons c l => simp [encs, lexI]
  | x :: xs, [], _, _ => by
    have := by8_len x
    rw [encs_cons]
    cases e : by8 x with
    | nil => rw [e] at this; simp at this
    | cons c l => simp [encs, lexI]
  | x :: xs, y :: ys, ha, hb => by
    rw [oks_cons] at ha hb
    simp at ha hb
    rw [encs_cons, encs_cons]
    by_cases h : x = y
    · subst h
      rw [lexI_same, lexI_encs xs ys ha.2 hb.2]
      simp [lexI]
    · rw [lexI_by8 x y ha.1 hb.1 h]
      simp [lexI, h]

theorem ofNat_lt (x y : Int) (hx : 0 ≤ x ∧ x ≤ 255) (hy : 0 ≤ y ∧ y ≤ 255) : decide (UInt8.ofNat x.toNat < UInt8.ofNat y.toNat) = decide (x < y) := by
  rw [decide_eq_decide, UInt8.lt_iff_toNat_lt]; simp; omega
theorem ofNat_eq (x y : Int) (hx : 0 ≤ x ∧ x ≤ 255) (hy : 0 ≤ y ∧ y ≤ 255) : (UInt8.ofNat x.toNat == UInt8.ofNat y.toNat) = decide (x = y) := by
  rw [Bool.eq_iff_iff]; simp
  constructor
  · intro h; have := congrArg UInt8.toNat h; simp at this; omega
  · intro h; rw [h]
theorem less_lex : (xs ys : List Int) → (∀ x ∈ xs, 0 ≤ x ∧ x ≤ 255) → (∀ x ∈ ys, 0 ≤ x ∧ x ≤ 255) →
    Op.bytesLess (xs.map fun n => UInt8.ofNat n.toNat) (ys.map fun n => UInt8.ofNat n.toNat) = lexI xs ys
  | [], [], _, _ => rfl
  | [], y :: ys, _, _ => rfl
  | x :: xs, [], _, _ => rfl
  | x :: xs, y :: ys, hx, hy => by
    have h1 := hx x (by simp)
    have h2 := hy y (by simp)
    have ih := less_lex xs ys (fun z hz => hx z (by simp [hz])) (fun z hz => hy z (by simp [hz]))
    simp only [List.map_cons, Op.bytesLess, lexI]
    rw [ih, ofNat_lt x y h1 h2, ofNat_eq x y h1 h2]
    by_cases h : x = y
    · subst h; simp
    · simp [h]
theorem str_less (xs ys : List Int) (hx : ∀ x ∈ xs, 0 ≤ x ∧ x ≤ 255) (hy : ∀ x ∈ ys, 0 ≤ x ∧ x ≤ 255) :
    Op.bytesLess (strOfNums xs).toList (strOfNums ys).toList = lexI xs ys := by
  rw [Lib.toList_data, Lib.toList_data, strOfNums_data, strOfNums_data]
  exact less_lex xs ys hx hy
theorem encs_rng (l : List Int) (h : oks l = true) : ∀ x ∈ encs l, 0 ≤ x ∧ x ≤ 255 := by
  intro x hx
  simp only [encs, List.mem_flatMap] at hx
  obtain ⟨c, hc, hx⟩ := hx
  simp only [oks, List.all_eq_true] at h
  exact by8_rng c (by simpa using h c hc) x hx
theorem lexI_drop (a b : List Int) (k : Nat) (h0 : k < a.length) (h1 : k < b.length) (h : a.getD k 0 = b.getD k 0) : lexI (a.drop k) (b.drop k) = lexI (a.drop (k + 1)) (b.drop (k + 1)) := by
  rw [List.drop_eq_getElem_cons h0, List.drop_eq_getElem_cons h1]
  simp [h0, h1] at h
  simp [lexI, h]
theorem lexI_diff (a b : List Int) (k : Nat) (h0 : k < a.length) (h1 : k < b.length) (h : a.getD k 0 ≠ b.getD k 0) : lexI (a.drop k) (b.drop k) = decide (a.getD k 0 < b.getD k 0) := by
  rw [List.drop_eq_getElem_cons h0, List.drop_eq_getElem_cons h1]
  simp [h0, h1] at h
  simp [lexI, h, h0, h1]
theorem lexI_end (a b : List Int) (k : Nat) (h0 : k ≤ a.length) (h1 : k ≤ b.length) (h : ¬ (k < a.length ∧ k < b.length)) : lexI (a.drop k) (b.drop k) = decide (a.length < b.length) := by
  by_cases h2 : k < a.length
  · have h3 : b.drop k = [] := by simp; omega
    rw [h3, List.drop_eq_getElem_cons h2]
    simp [lexI]; omega
  · have h3 : a.drop k = [] := by simp; omega
    rw [h3]
    by_cases h4 : k < b.length
    · rw [List.drop_eq_getElem_cons h4]; simp [lexI]; omega
    · have h5 : b.drop k = [] := by simp; omega
      rw [h5]; simp [lexI]; omega
end Go.Proofs.Ytdoflmgdmcmmfaa
