/- The walks of the reference's Seq and With. -/
import Derived.Test.YtcbnmahbdcjamaaIdE
namespace Go.Proofs.Ytcbnmahbdcjamaa
open Go.RowKit Go.Sort
set_option linter.unusedVariables false

theorem sq_step (v : List (Int × Int)) (q : Int) (i : Nat) (h : i < v.length) : sqL (v.drop i) q = if (v.getD i (0, 0)).1 = q then (v.getD i (0, 0)).2 else sqL (v.drop (i + 1)) q := by
  have e : v.drop i = v.getD i (0, 0) :: v.drop (i + 1) := by
    rw [List.drop_eq_getElem_cons h]; simp [h]
  conv => lhs; rw [e]
  rw [sqL]
/-- What is still to come of With. -/
def aftL (a s : Int) (p : Bool) (L : List (Int × Int)) : List (Int × Int) := if p then L.filter (fun x => !(x.1 == a)) else putL a s L
theorem aft_step (a s : Int) (v : List (Int × Int)) (hA : AscE v) (i : Nat) (h : i < v.length) (p : Bool) : aftL a s p (v.drop i) =
    (if p then (if (v.getD i (0, 0)).1 = a then aftL a s true (v.drop (i + 1)) else v.getD i (0, 0) :: aftL a s true (v.drop (i + 1))) else
      if (v.getD i (0, 0)).1 < a then v.getD i (0, 0) :: aftL a s false (v.drop (i + 1)) else if (v.getD i (0, 0)).1 = a then (a, s) :: aftL a s true (v.drop (i + 1)) else (a, s) :: v.getD i (0, 0) :: aftL a s true (v.drop (i + 1))) := by
  have e : v.drop i = v.getD i (0, 0) :: v.drop (i + 1) := by
    rw [List.drop_eq_getElem_cons h]; simp [h]
  have hD : ∀ (u : List (Int × Int)) (i : Nat), AscE u → AscE (u.drop i) := by
    intro u
    induction u with
    | nil => intro i _; simp [AscE]
    | cons x r ih =>
      intro i hu
      cases i with
      | zero => exact hu
      | succ k => exact ih k hu.2
  have hAd := hD v i hA
  rw [e] at hAd
  conv => lhs; rw [e]
  generalize v.getD i (0, 0) = x at hAd ⊢
  generalize v.drop (i + 1) = r at hAd ⊢
  have hno : ¬ x.1 < a → r.filter (fun x => !(x.1 == a)) = r := by
    intro hx
    rw [List.filter_eq_self]
    intro y hy
    have := hAd.1 y hy
    simp; omega
  cases p
  · show putL a s (x :: r) = _
    rw [putL]
    simp only [Bool.false_eq_true, if_false]
    by_cases h1 : x.1 < a
    · rw [if_pos h1, if_pos h1]
      rfl
    · rw [if_neg h1, if_neg h1]
      have hr : aftL a s true r = r := by unfold aftL; rw [if_pos rfl]; exact hno h1
      rw [hr]
  · have e1 : aftL a s true (x :: r) = (x :: r).filter (fun x => !(x.1 == a)) := by unfold aftL; rw [if_pos rfl]
    have e2 : aftL a s true r = r.filter (fun x => !(x.1 == a)) := by unfold aftL; rw [if_pos rfl]
    rw [e1, e2]
    simp only [if_true]
    by_cases h1 : x.1 = a
    · rw [if_pos h1, List.filter_cons, if_neg (by simp [h1])]
    · rw [if_neg h1, List.filter_cons, if_pos (by simp [h1])]
theorem push_app {W : World} {B n : Nat} {u : Value} {l : List (Int × Int)} (h : W.ownsRow B 107 2 u n (flatE l)) (hB : B ≤ W.heap.size) (z : Int × Int) :
    (W.alloc (.cells #[.int .i64 z.1, .int .i64 z.2] 107)).ownsRow B 107 2 u n (flatE l) ∧ B ≤ (W.alloc (.cells #[.int .i64 z.1, .int .i64 z.2] 107)).heap.size ∧
    ∀ j v, (encE z)[j]? = some v → (W.alloc (.cells #[.int .i64 z.1, .int .i64 z.2] 107)).cell? ((⟨W.heap.size, 0, none⟩ : Addr).add j) = some v := by
  refine ⟨own_alloc h _, by simp; omega, fun j v hv => ?_⟩
  rw [add_lit]
  exact news_E (x := z) (heap_alloc_new W _) j v hv
theorem push_next {w W w' : World} {B : Nat} {u v' : Value} {l : List (Int × Int)} {z : Int × Int} {ob : Obj} (h : W.ownsRow B 107 2 u l.length (flatE l)) (hb : Below B w W) (hB : B ≤ W.heap.size) (o : w'.ownsRow B 107 2 v' (l.length + 1) (flatE l ++ encE z)) (g : (W.alloc ob).grownBy w' u.ownBlock) :
    w'.ownsRow B 107 2 v' (l ++ [z]).length (flatE (l ++ [z])) ∧ Below B w w' :=
  ⟨own_app o, (hb.alloc hB ob).grown g (by simp; omega) (fun k hk => (h.lt k hk).1)⟩
/-- With's row so far. -/
def WtW (w : World) (u : Value) (l : List (Int × Int)) (W : World) : Prop := W.ownsRow w.heap.size 107 2 u l.length (flatE l) ∧ Below w.heap.size w W ∧ w.heap.size ≤ W.heap.size
end Go.Proofs.Ytcbnmahbdcjamaa
