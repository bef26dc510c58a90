/- The walks of set and shown: what must be in any case. -/
import Derived.Test.YtjbhfonokgkalaaReaW
namespace Go.Proofs.Ytjbhfonokgkalaa
open Go.RowKit
set_option linter.unusedVariables false
set_option linter.unusedSimpArgs false

/-- An expression of one class. -/
def setNd (c : Int) : Nd := ⟨1, [c], .nil⟩
def nilNd : Nd := ⟨0, [], .nil⟩
theorem InV.leaf (w : World) (d : Nat) (op : Int) (cl : List Int) (ca : Option Addr) (cc : Nat) (h : Rd .i64 w ca cl.length cl) (hl : cl.length ≤ 140737488355328) : InV w.heap.size w (d + 1) ⟨op, cl, .nil⟩ [.int .i64 op, .slice ca cl.length cc, .slice none 0 0] :=
  ⟨ca, cc, none, 0, rfl, h, h.lt, hl, by show (toL .nil).length ≤ _; simp [toL], fun hp => by simp [toL] at hp⟩
set_option maxHeartbeats 2000000 in
theorem set_any (c : Int) (w : World) : Calls Try.prog 34 #[.int .i64 c] w fun e w' => ∃ g, e = .returned (.agg #[.int .i64 1, .slice (some ⟨g, 0, none⟩) 1 1, .slice none 0 0]) ∧ w'.cell? ⟨g, 0, none⟩ = some (.int .i64 c) ∧ Below w.heap.size w w' := by
  have HFIN : Hid (∃ g, Ending.returned (.agg #[.int .i64 1, .slice (some ⟨w.heap.size + 1, 0, none⟩) 1 1, .slice none 0 0]) = .returned (.agg #[.int .i64 1, .slice (some ⟨g, 0, none⟩) 1 1, .slice none 0 0]) ∧ ((w.alloc (.cells #[.int .i64 1, .slice (some ⟨w.heap.size + 1, 0, none⟩) 1 1, .slice none 0 0] 33)).alloc (.cells #[.int .i64 c] 3)).cell? ⟨g, 0, none⟩ = some (.int .i64 c) ∧ Below w.heap.size w ((w.alloc (.cells #[.int .i64 1, .slice (some ⟨w.heap.size + 1, 0, none⟩) 1 1, .slice none 0 0] 33)).alloc (.cells #[.int .i64 c] 3))) :=
    ⟨w.heap.size + 1, rfl, (cell_of_row _ _ 0 _ _ _ (new_at2 w _ _)).trans (by simp), ((Below.refl _ w).alloc (Nat.le_refl _) _).alloc (by simp) _⟩
  go_enter Try.func34, Try.ntmps34
  go_wp2
  refine bodyPost_ret (v := .agg #[.int .i64 1, .slice (some ⟨w.heap.size + 1, 0, none⟩) 1 1, .slice none 0 0]) ?_ rfl HFIN.out
  rw [results_cell_one rfl]
  go_simp
/-- The two rules that are looked at first. -/
def shR1 : Rl := ⟨setNd 1, setNd 2, false, false⟩
def shR2 : Rl := ⟨setNd 1, nilNd, true, false⟩
theorem sh_a : boundL [shR1, shR2] [1, 2] = [true, false, true] := by decide
theorem sh_b : boundL [shR1, shR2] [1, 1] = [true, true, true] := by decide
theorem sh_c : boundL [shR1, shR2] [] = [false] := by decide
theorem sh_d : firstI (fun r => fitI r [2, 2] 1) [shR1, shR2] = -1 := by decide
theorem sh_e : firstI (fun r => fitI r [1, 1] 1) [shR1, shR2] = 1 := by decide
theorem sh_f : fitI shR1 [1, 2] 1 = true := by decide
end Go.Proofs.Ytjbhfonokgkalaa
