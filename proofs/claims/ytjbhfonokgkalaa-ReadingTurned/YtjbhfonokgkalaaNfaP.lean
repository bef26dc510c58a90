/- Plain mathematics of machines: pieces of a row of expressions, one by one; which expressions are right. -/
import Derived.Test.YtjbhfonokgkalaaNfaO
namespace Go.Proofs.Ytjbhfonokgkalaa
set_option linter.unusedVariables false
set_option linter.unusedSimpArgs false

def piecesL : List Nd → List St → List St × List (Nat × Nat)
  | [], l => (l, [])
  | x :: r, l => ((piecesL r (x.piece l).1).1, (x.piece l).2 :: (piecesL r (x.piece l).1).2)
theorem piecesF_L : (f : Fo) → (l : List St) → piecesF f l = piecesL (toL f) l
  | .nil, l => rfl
  | .node _ _ a k r, l => by
    simp only [piecesF, toL, piecesL, piecesF_L r]
    rfl
theorem piecesL_snoc : (xs : List Nd) → (y : Nd) → (l : List St) → piecesL (xs ++ [y]) l = ((y.piece (piecesL xs l).1).1, (piecesL xs l).2 ++ [(y.piece (piecesL xs l).1).2])
  | [], y, l => rfl
  | x :: r, y, l => by simp only [List.cons_append, piecesL, piecesL_snoc r]
theorem piece_eq (n : Nd) (l : List St) : n.piece l = nodeP n.op n.cl (piecesL (toL n.kids) l).2 (piecesL (toL n.kids) l).1 := by
  unfold Nd.piece; rw [piecesF_L]
theorem right_kid : (f : Fo) → RightF f → ∀ x, x ∈ toL f → x.right
  | .nil, _, x, h => by simp [toL] at h
  | .node _ _ a k r, hf, x, h => by
    obtain ⟨h1, h2, h3, h4⟩ := hf
    simp only [toL, List.mem_cons] at h
    rcases h with rfl | h
    · exact ⟨h1, h2, h3, trivial⟩
    · exact right_kid r h4 x h
theorem rightF_of : (f : Fo) → (∀ x, x ∈ toL f → x.right) → RightF f
  | .nil, _ => trivial
  | .node _ _ a k r, h => by
    obtain ⟨h1, h2, h3, _⟩ := h ⟨a.1, a.2, k⟩ (by simp [toL])
    exact ⟨h1, h2, h3, rightF_of r (fun x hx => h x (by simp [toL, hx]))⟩
theorem rightF_ofL (xs : List Nd) (h : ∀ x, x ∈ xs → x.right) : RightF (ofL xs) := rightF_of _ (by rw [toL_ofL]; exact h)
theorem piecesL_struct (xs : List Nd) (h : ∀ x, x ∈ xs → x.right) (l : List St) : l.length ≤ (piecesL xs l).1.length ∧ PsIn l.length (piecesL xs l).1.length (piecesL xs l).2 ∧ (piecesL xs l).2.length = xs.length := by
  have h1 := pieces_struct (ofL xs) (rightF_ofL xs h) l
  rw [piecesF_L, toL_ofL] at h1
  exact ⟨h1.1, h1.2.2.1, h1.2.2.2⟩
/-- How many there are in some. -/
def cntL (l : List Nd) : Nat := (l.map Nd.cnt).sum
theorem cntF_sum : (f : Fo) → cntF f = ((toL f).map Nd.cnt).sum
  | .nil => rfl
  | .node _ _ a k r => by
    simp only [cntF, toL, List.map_cons, List.sum_cons, cntF_sum r]
    rfl
theorem cnt_eq (n : Nd) : n.cnt = 1 + cntL (toL n.kids) := by unfold Nd.cnt cntL; rw [cntF_sum]
theorem cntL_snoc (l : List Nd) (x : Nd) : cntL (l ++ [x]) = cntL l + x.cnt := by simp [cntL]
theorem take_snoc {α : Type} (l : List α) (k : Nat) (h : k < l.length) : l.take (k + 1) = l.take k ++ [l[k]] := by
  rw [List.take_add_one, List.getElem?_eq_getElem h]; rfl
theorem cntL_take (l : List Nd) (k : Nat) (hk : k < l.length) : cntL (l.take k) + l[k].cnt ≤ cntL l := by
  have ha : ∀ a b : List Nd, cntL (a ++ b) = cntL a + cntL b := fun a b => by simp [cntL]
  have h : cntL l = cntL (l.take (k + 1)) + cntL (l.drop (k + 1)) := by rw [← ha, List.take_append_drop]
  rw [h, take_snoc l k hk, cntL_snoc]
  omega
theorem cntL_len : (l : List Nd) → l.length ≤ cntL l
  | [] => Nat.le_refl _
  | x :: r => by
    have := cntL_len r
    have h : 1 ≤ x.cnt := by rw [cnt_eq]; omega
    simp only [cntL, List.map_cons, List.sum_cons, List.length_cons] at this ⊢
    omega
theorem sz_piecesL (xs : List Nd) (h : ∀ x, x ∈ xs → x.right) (l : List St) : szS (piecesL xs l).1 + 2 * xs.length ≤ szS l + 9 * cntL xs := by
  have h1 := sz_pieces (ofL xs) (rightF_ofL xs h) l
  rw [piecesF_L, toL_ofL, cntF_sum, toL_ofL] at h1
  exact h1
theorem wf_piecesL (xs : List Nd) (h : ∀ x, x ∈ xs → x.right) (l : List St) (hl : WfL l) : WfL (piecesL xs l).1 := by
  have h1 := wf_pieces (ofL xs) (rightF_ofL xs h) l hl
  rw [piecesF_L, toL_ofL] at h1
  exact h1
/-- The machine of an expression: what it keeps to, and how large it is. -/
theorem piece_wf (n : Nd) (h : n.right) : WfL (n.piece []).1 ∧ szS (n.piece []).1 ≤ 9 * n.cnt ∧ (n.piece []).2.1 < (n.piece []).1.length ∧ (n.piece []).2.2 < (n.piece []).1.length := by
  have h1 := wf_piecesL [n] (by simpa using h) [] (fun i s hs => by simp at hs)
  have h2 := sz_piecesL [n] (by simpa using h) []
  have h3 := (piecesL_struct [n] (by simpa using h) []).2.1.1 (n.piece []).2 (by simp [piecesL])
  simp [piecesL, cntL, szS] at h1 h2 h3
  exact ⟨h1, by simp [szS]; omega, h3.1, h3.2⟩

/-- May an expression have so many parts? -/
def rcB (op : Int) (k : Nat) : Bool := if op = 0 ∨ op = 1 then decide (k = 0) else if op = 2 ∨ op = 3 then true else if op = 4 ∨ op = 5 then decide (k = 1) else false
/-- Rising classes that there are. -/
def risB (last : Int) : List Int → Bool
  | [] => true
  | c :: r => decide (last < c) && decide (c < 24) && risB c r
def rclB (op : Int) (cl : List Int) : Bool := if op = 1 then risB (-1) cl else decide (cl.length = 0)
/-- Is an expression right that is no deeper than that? -/
def okN : Nat → Nd → Bool
  | 0, _ => false
  | d + 1, n => rcB n.op (toL n.kids).length && rclB n.op n.cl && (toL n.kids).all (okN d)
/-- Is an expression right? -/
def Nd.ok (n : Nd) : Bool := okN 32 n && decide (n.cnt ≤ 400)
theorem risB_mem : (l : List Int) → (a : Int) → risB a l = true → ∀ c, c ∈ l → a < c ∧ c ≤ 23
  | [], _, _, c, h => by simp at h
  | x :: r, a, h, c, hc => by
    simp only [risB, Bool.and_eq_true, decide_eq_true_eq] at h
    rcases List.mem_cons.1 hc with rfl | hc
    · omega
    · have := risB_mem r x h.2 c hc
      omega
theorem risB_len : (l : List Int) → (a : Int) → a ≤ 23 → risB a l = true → (l.length : Int) + a ≤ 23
  | [], a, h, _ => by simpa using h
  | x :: r, a, _, h => by
    simp only [risB, Bool.and_eq_true, decide_eq_true_eq] at h
    have := risB_len r x (by omega) h.2
    simp only [List.length_cons]
    omega
theorem right_of_ok : (d : Nat) → (n : Nd) → okN d n = true → n.right
  | 0, _, h => by simp [okN] at h
  | d + 1, n, h => by
    simp only [okN, Bool.and_eq_true, List.all_eq_true] at h
    obtain ⟨⟨h1, h2⟩, h3⟩ := h
    refine ⟨fun h45 => ?_, ?_, rightF_of _ (fun x hx => right_of_ok d x (h3 x hx)), trivial⟩
    · simp only at h45
      unfold rcB at h1
      rw [if_neg (by omega), if_neg (by omega), if_pos h45] at h1
      simpa using h1
    · show (∀ c, c ∈ n.cl → 0 ≤ c ∧ c ≤ 23) ∧ n.cl.length ≤ 1000
      unfold rclB at h2
      by_cases h1 : n.op = 1
      · rw [if_pos h1] at h2
        refine ⟨fun c hc => ?_, ?_⟩
        · have := risB_mem _ _ h2 c hc
          omega
        · have := risB_len _ _ (by omega) h2
          omega
      · rw [if_neg h1] at h2
        have h0 : n.cl = [] := by simpa using h2
        rw [h0]
        simp
theorem Nd.ok_right {n : Nd} (h : n.ok = true) : n.right ∧ n.cnt ≤ 400 := by
  unfold Nd.ok at h
  simp only [Bool.and_eq_true, decide_eq_true_eq] at h
  exact ⟨right_of_ok 32 n h.1, h.2⟩
end Go.Proofs.Ytjbhfonokgkalaa
