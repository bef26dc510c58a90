/- Plain mathematics of reading: rules turned round say the same of texts turned round; nothing of the program is named here. -/
import Derived.Test.YtjbhfonokgkalaaReaLh
namespace Go.Proofs.Ytjbhfonokgkalaa
set_option linter.unusedVariables false
set_option linter.unusedSimpArgs false

/-- An expression read from the end. -/
def turF : Fo → List Nd
  | .nil => []
  | .node _ _ a k r => ⟨a.1, a.2, ofL (turF k).reverse⟩ :: turF r
def Nd.turn (n : Nd) : Nd := ⟨n.op, n.cl, ofL (turF n.kids).reverse⟩
theorem turF_map : (f : Fo) → turF f = (toL f).map Nd.turn
  | .nil => rfl
  | .node _ _ a k r => by simp only [turF, toL, List.map_cons, turF_map r]; rfl
theorem turn_kids (n : Nd) : toL n.turn.kids = ((toL n.kids).map Nd.turn).reverse := by
  show toL (ofL (turF n.kids).reverse) = _
  rw [toL_ofL, turF_map]
theorem turn_len (n : Nd) : (toL n.turn.kids).length = (toL n.kids).length := by rw [turn_kids]; simp
theorem turn_lg_node (n : Nd) (ih : ∀ x ∈ toL n.kids, ∀ w, x.turn.lg w ↔ x.lg w.reverse) (w : List Int) : n.turn.lg w ↔ n.lg w.reverse := by
  rw [lg_eq n.turn, lg_eq n, turn_kids]
  show nodeG n.op n.cl (((toL n.kids).map Nd.turn).reverse.map Nd.lg) w ↔ _
  have e : ((toL n.kids).map Nd.turn).reverse.map Nd.lg = (((toL n.kids).map Nd.lg).map (tL true)).reverse := by
    rw [List.map_reverse, List.map_map, List.map_map]
    congr 1
    apply List.map_congr_left
    intro x hx
    funext u
    exact propext (ih x hx u)
  rw [e]
  exact nodeG_turn n.op n.cl _ w
theorem turn_lgF : (f : Fo) → ∀ x ∈ toL f, ∀ w, x.turn.lg w ↔ x.lg w.reverse
  | .nil, x, h => by simp [toL] at h
  | .node _ _ a k r, x, h => by
    simp only [toL, List.mem_cons] at h
    rcases h with rfl | h
    · exact turn_lg_node ⟨a.1, a.2, k⟩ (turn_lgF k)
    · exact turn_lgF r x h
theorem turn_lg (n : Nd) (w : List Int) : n.turn.lg w ↔ n.lg w.reverse := turn_lg_node n (turn_lgF n.kids) w
theorem sg_rev (xs : List Int) (i j : Nat) (hij : i ≤ j) (hj : j ≤ xs.length) : sg xs.reverse i j = (sg xs (xs.length - j) (xs.length - i)).reverse := by
  unfold sg
  rw [List.drop_reverse, List.take_reverse, List.drop_take]
  congr 2
  · congr 1
    simp
    omega
  · simp
    omega
/-- A rule without Start, and the same turned round. -/
def Rl.still (r : Rl) : Rl := ⟨r.left, r.right, r.brk, false⟩
def Rl.turn (r : Rl) : Rl := ⟨r.right.turn, r.left.turn, r.brk, false⟩
theorem fit_turn (r : Rl) (xs : List Int) (p : Nat) (hp : p ≤ xs.length) : r.turn.fit xs.reverse (xs.length - p) = r.still.fit xs p := by
  rw [Bool.eq_iff_iff, fit_iff _ _ _ (by simp), fit_iff _ _ _ hp]
  unfold FitP
  rw [List.length_reverse]
  constructor
  · rintro ⟨⟨i, hi, _, h1⟩, j, hj, hj2, h2⟩
    have h3 : r.right.turn.lg (sg xs.reverse i (xs.length - p)) := h1
    have h4 : r.left.turn.lg (sg xs.reverse (xs.length - p) j) := h2
    rw [turn_lg, sg_rev xs _ _ (by omega) (by omega), List.reverse_reverse] at h3 h4
    refine ⟨⟨xs.length - j, by omega, (fun h => by cases h), ?_⟩, xs.length - i, by omega, by omega, ?_⟩
    · show r.left.lg _
      rw [show xs.length - (xs.length - p) = p by omega] at h4
      exact h4
    · show r.right.lg _
      rw [show xs.length - (xs.length - p) = p by omega] at h3
      exact h3
  · rintro ⟨⟨i, hi, _, h1⟩, j, hj, hj2, h2⟩
    have h3 : r.left.lg (sg xs i p) := h1
    have h4 : r.right.lg (sg xs p j) := h2
    refine ⟨⟨xs.length - j, by omega, (fun h => by cases h), ?_⟩, xs.length - i, by omega, by omega, ?_⟩
    · show r.right.turn.lg _
      rw [turn_lg, sg_rev xs _ _ (by omega) (by omega), List.reverse_reverse, show xs.length - (xs.length - p) = p by omega, show xs.length - (xs.length - j) = j by omega]
      exact h4
    · show r.left.turn.lg _
      rw [turn_lg, sg_rev xs _ _ (by omega) (by omega), List.reverse_reverse, show xs.length - (xs.length - p) = p by omega, show xs.length - (xs.length - i) = i by omega]
      exact h3
theorem says_turn (xs : List Int) (p : Nat) (hp : p ≤ xs.length) : (l : List Rl) → saysB (fun r => r.fit xs.reverse (xs.length - p)) (l.map Rl.turn) = saysB (fun r => r.fit xs p) (l.map Rl.still)
  | [] => rfl
  | r :: l => by
    simp only [List.map_cons, saysB, fit_turn r xs p hp, says_turn xs p hp l]
    rfl
theorem bound_turn (l : List Rl) (xs : List Int) (p : Nat) (hp : p ≤ xs.length) : boundAt (l.map Rl.turn) xs.reverse (xs.length - p) = boundAt (l.map Rl.still) xs p := by
  unfold boundAt
  rw [List.length_reverse]
  by_cases h : p = 0 ∨ p = xs.length
  · rw [if_pos h, if_pos (by omega)]
  · rw [if_neg h, if_neg (by omega), says_turn xs p hp l]
end Go.Proofs.Ytjbhfonokgkalaa
