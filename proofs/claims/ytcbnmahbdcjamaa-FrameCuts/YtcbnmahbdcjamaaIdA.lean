/- The walks of ident's functions of numbers, IDs and operations: below, isAuthor, counts, Author, Parts, Less, Right. -/
import Derived.Test.YtcbnmahbdcjamaaBasS
import Derived.BigQuiet
import Derived.Shelf.SlSortCmp.QuietGrown
import Derived.Laws.StructEq
import Derived.OwnWalk
namespace Go.Proofs.Ytcbnmahbdcjamaa
open Go.RowKit Go.Sort
set_option linter.unusedVariables false

/-- Behind a call that draws and lays blocks of its own, and changes nothing. -/
def Gw (w w' : World) : Prop := ∃ q os, w' = grow (w.drewN q) os
theorem Gw.refl (w : World) : Gw w w := ⟨0, #[], by rw [grow_empty]; rfl⟩
theorem Gw.trans {a b c : World} (h1 : Gw a b) (h2 : Gw b c) : Gw a c := by
  obtain ⟨q, os, rfl⟩ := h1
  obtain ⟨q2, os2, rfl⟩ := h2
  refine ⟨q + q2, os ++ os2, ?_⟩
  show grow (grow ((a.drewN q).drewN q2) os) os2 = _
  rw [grow_grow, World.drewN_drewN]
theorem Gw.alloc {w w' : World} (h : Gw w w') (o : Obj) : Gw w (w'.alloc o) := h.trans ⟨0, #[o], by rw [alloc_eq_grow]; rfl⟩
theorem gw_alloc (w : World) (o : Obj) : Gw w (w.alloc o) := (Gw.refl w).alloc o
theorem Gw.below {w w' : World} (h : Gw w w') : Below w.heap.size w w' := by
  obtain ⟨n, os, rfl⟩ := h
  refine ⟨rfl, rfl, rfl, ?_, fun k hk => ?_⟩
  · show w.heap.size ≤ (w.heap ++ os).size
    simp
  · show (w.heap ++ os)[k]? = w.heap[k]?
    rw [Array.getElem?_append_left hk]
theorem cell_g {w : World} {a : Addr} {v : Value} (h : w.cell? a = some v) : ∀ n os, (grow (w.drewN n) os).cell? a = some v :=
  fun n os => cell_grown (World.block_lt_of_cell? w _ h) h n os
theorem box2 {w : World} {B : Nat} {a b : Value} {t : TypeId} (hh : w.heap[B]? = some (.cells #[a, b] t)) : w.cell? ⟨B, 0, none⟩ = some a ∧ w.cell? ⟨B, 1, none⟩ = some b :=
  ⟨cell_of_row w B 0 _ _ _ hh, cell_of_row w B 1 _ _ _ hh⟩

def belB (n l : Int) : Bool := decide (0 ≤ n) && decide (n < l)
/-- Is it an author? -/
def auB (n : Int) : Bool := belB n 4194304
/-- May it be a Ctr or a Seq? -/
def cnB (n : Int) : Bool := decide (1 ≤ n) && decide (n ≤ 4294967295)
theorem below_any (n l : Int) (w : World) : Calls Try.prog 152 #[.int .i64 n, .int .i64 l] w fun e w' => e = .returned (.bool (belB n l)) ∧ w' = w := by
  obtain ⟨R, hR⟩ : ∃ R, R = belB n l := ⟨_, rfl⟩
  rw [← hR]
  unfold belB at hR
  by_cases h1 : 0 ≤ n
  · by_cases h2 : n < l
    all_goals
      simp only [h1, h2, decide_true, decide_false, Bool.and_true, Bool.and_false] at hR
      subst hR
      go_enter Try.func152, Try.ntmps152
      go_wp2
      go_ret
      exact ⟨rfl, rfl⟩
  · simp only [h1, decide_false, Bool.false_and] at hR
    subst hR
    go_enter Try.func152, Try.ntmps152
    go_wp2
    go_ret
    exact ⟨rfl, rfl⟩
theorem isAuthor_any (n : Int) (w : World) : Calls Try.prog 123 #[.int .i64 n] w fun e w' => e = .returned (.bool (auB n)) ∧ w' = w := by
  have HC : Hid (∀ W : World, Calls Try.prog 152 #[.int .i64 n, .int .i64 4194304] W fun e w' => e = .returned (.bool (auB n)) ∧ w' = W) := fun W => below_any n 4194304 W
  go_enter Try.func123, Try.ntmps123
  go_wp2_with (first | (go_at_call 152; refine (HC.out _).mono ?_; rintro e w' ⟨rfl, rfl⟩))
  go_ret
  exact ⟨rfl, rfl⟩
theorem counts_any (n : Int) (w : World) : Calls Try.prog 99 #[.int .i64 n] w fun e w' => e = .returned (.bool (cnB n)) ∧ w' = w := by
  obtain ⟨R, hR⟩ : ∃ R, R = cnB n := ⟨_, rfl⟩
  rw [← hR]
  unfold cnB at hR
  by_cases h1 : 1 ≤ n
  · by_cases h2 : n ≤ 4294967295
    all_goals
      simp only [h1, h2, decide_true, decide_false, Bool.and_true, Bool.and_false] at hR
      subst hR
      go_enter Try.func99, Try.ntmps99
      go_wp2
      go_ret
      exact ⟨rfl, rfl⟩
  · simp only [h1, decide_false, Bool.false_and] at hR
    subst hR
    go_enter Try.func99, Try.ntmps99
    go_wp2
    go_ret
    exact ⟨rfl, rfl⟩
/-- Is there an author of that replica and round? -/
def auOk (r k : Int) : Bool := belB r 64 && belB k 65536
def auN (r k : Int) : Int := if auOk r k = true then 65536 * r + k else 0
theorem belB_iff (n l : Int) : belB n l = true ↔ 0 ≤ n ∧ n < l := by unfold belB; simp
theorem cnB_iff (n : Int) : cnB n = true ↔ 1 ≤ n ∧ n ≤ 4294967295 := by unfold cnB; simp
/-- An author's replica and round. -/
def paR (n : Int) : Int := if auB n = true then n / 65536 else 0
def paK (n : Int) : Int := if auB n = true then n % 65536 else 0
end Go.Proofs.Ytcbnmahbdcjamaa
