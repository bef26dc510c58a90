/- The walk of the statements' shown. -/
import Derived.Test.YtfagmcgcdlboiaaIdE
import Derived.Test.YtfagmcgcdlboiaaIdG
namespace Go.Proofs.Ytfagmcgcdlboiaa
open Go.RowKit Go.Sort
set_option linter.unusedVariables false

theorem shown_vec : Vec [((5 : Int), (1 : Int))] ∧ Vec [((5 : Int), (3 : Int)), (7, 1)] := by
  refine ⟨⟨⟨(fun y hy => by cases hy), trivial⟩, fun x hx => ?_⟩, ⟨⟨fun y hy => ?_, (fun y hy => by cases hy), trivial⟩, fun x hx => ?_⟩⟩
  · simp at hx; subst hx; decide
  · simp at hy; subst hy; decide
  · simp at hx; rcases hx with rfl | rfl <;> decide
theorem rdE_lit (w : World) (xs : List (Int × Int)) (cs : Array Value) (t : TypeId) (hcs : cs.toList = flatE xs) (H n : Nat) (hH : w.heap[H]? = some (.cells cs t)) (hn : xs.length = n) : RdE w (some ⟨H, 0, none⟩) n xs := by
  refine ⟨hn, fun _ => ⟨H, 0, rfl, fun j v hv => ?_⟩⟩
  rw [Nat.zero_add, cell_of_row w H j _ _ _ hH]
  rw [← hcs] at hv
  simpa using hv
set_option maxHeartbeats 1000000 in
theorem shown_any (w : World) : Calls Try.prog 10 #[] w fun e w' => e = .returned (.bool true) ∧ Below w.heap.size w w' := by
  have HA : Hid (∀ W : World, Calls Try.prog 11 #[.int .i64 1, .int .i64 2] W fun e w' => e = .returned (.tuple #[.int .i64 65538, .bool true]) ∧ w' = W) := fun W => author_any 1 2 W
  have HP : Hid (∀ W : World, Calls Try.prog 13 #[.int .i64 65538] W fun e w' => e = .returned (.tuple #[.int .i64 1, .int .i64 2, .bool true]) ∧ w' = W) := fun W => parts_any 65538 W
  have HR : Hid (∀ W : World, Calls Try.prog 17 #[.agg #[.int .i64 1, .int .i64 0, .int .i64 1, .bool true, .int .i64 0, .int .i64 0, .int .i32 97]] W fun e w' => e = .returned (.bool true) ∧ Gw W w') := fun W => right_any ⟨1, 0, 1, true, 0, 0, 97⟩ W
  obtain ⟨W1, hW1⟩ : ∃ W1, W1 = (w.alloc (.cells #[.int .i64 5, .int .i64 1] 47)).alloc (.cells #[.int .i64 5, .int .i64 3, .int .i64 7, .int .i64 1] 47) := ⟨_, rfl⟩
  have HJ : Hid (Calls Try.prog 23 #[.slice (some ⟨w.heap.size, 0, none⟩) 1 1, .slice (some ⟨w.heap.size + 1, 0, none⟩) 2 2] W1 fun e w' => ∃ g cap, e = .returned (.slice (some ⟨g, 0, none⟩) 2 cap) ∧ 2 ≤ cap ∧ RdE w' (some ⟨g, 0, none⟩) 2 [(5, 3), (7, 1)] ∧ Below w.heap.size w w') := by
    have hb1 : W1.heap[w.heap.size]? = some (.cells #[.int .i64 5, .int .i64 1] 47) := by
      rw [hW1, Below.heap_alloc _ _ _ (by simp)]
      exact heap_alloc_new w _
    have hb2 : W1.heap[w.heap.size + 1]? = some (.cells #[.int .i64 5, .int .i64 3, .int .i64 7, .int .i64 1] 47) := by
      have := heap_alloc_new (w.alloc (.cells #[.int .i64 5, .int .i64 1] 47)) (.cells #[.int .i64 5, .int .i64 3, .int .i64 7, .int .i64 1] 47)
      rw [hW1]
      simpa using this
    have hj := join_any [(5, 1)] [(5, 3), (7, 1)] (some ⟨w.heap.size, 0, none⟩) (some ⟨w.heap.size + 1, 0, none⟩) 1 1 2 2 W1 shown_vec.1 shown_vec.2 (rdE_lit W1 _ _ _ rfl _ _ hb1 rfl) (rdE_lit W1 _ _ _ rfl _ _ hb2 rfl) (fun h => by cases h) (fun h => by cases h) (by omega) (by omega) (by omega) (by omega) (by omega)
    refine hj.mono ?_
    rintro e w' ⟨v, rfl, ho, hb⟩
    have hjn : joinL [(5, 1)] [((5 : Int), (3 : Int)), (7, 1)] = [(5, 3), (7, 1)] := by decide
    rw [hjn] at ho
    obtain ⟨a, cap, rfl, h1, h2, h3, _⟩ := rdE_own ho
    obtain ⟨b, off, hab, _⟩ := h3.2 (by decide)
    have hb0 : Below w.heap.size w W1 := by rw [hW1]; exact ((Below.refl _ w).alloc (Nat.le_refl _) _).alloc (by simp) _
    obtain ⟨g, hg1, _⟩ := own_at ho 0 (by decide)
    subst hg1
    exact ⟨g, cap, rfl, h1, h3, hb0.trans (hb.mono hb0.size)⟩
  subst hW1
  have HGP : Hid (∀ W g cap, RdE W (some ⟨g, 0, none⟩) 2 [(5, 3), (7, 1)] → Calls Try.prog 26 #[.slice none 0 0, .slice (some ⟨g, 0, none⟩) 2 cap] W fun e w' => e = .returned (.int .i64 4) ∧ RdE w' (some ⟨g, 0, none⟩) 2 [(5, 3), (7, 1)] ∧ Gw W w') := by
    intro W g cap h
    refine (gap_any [] [(5, 3), (7, 1)] none (some ⟨g, 0, none⟩) 0 0 2 cap W trivial (rdE_nil W) h (by omega) (by omega) ?_ (fun c => by show (0 : Int) ≤ 0 ∧ (0 : Int) ≤ 8589934592; omega)).mono fun e w' hh => ⟨hh.1, h.gw hh.2, hh.2⟩
    intro x hx
    simp at hx
    rcases hx with rfl | rfl <;> decide
  have HVC : Hid (∀ W g cap, RdE W (some ⟨g, 0, none⟩) 2 [(5, 3), (7, 1)] → Calls Try.prog 30 #[.slice (some ⟨g, 0, none⟩) 2 cap] W fun e w' => e = .returned (.bool true) ∧ Gw W w') := fun W g cap h => vector_any [(5, 3), (7, 1)] (some ⟨g, 0, none⟩) 2 cap W h (by omega)
  go_enter Try.func10, Try.ntmps10
  go_wp2_with (first
    | (go_at_call 11; refine (HA.out _).mono ?_; rintro e w' ⟨rfl, hw'⟩; obtain rfl := hw'.symm; clear hw')
    | (go_at_call 13; refine (HP.out _).mono ?_; rintro e w' ⟨rfl, hw'⟩; obtain rfl := hw'.symm; clear hw')
    | (go_at_call 23; refine HJ.out.mono ?_; rintro e w2 ⟨g, cap, rfl, hcap, hrd, hbe⟩; have HRD : Hid (RdE w2 (some ⟨g, 0, none⟩) 2 [(5, 3), (7, 1)]) := hrd; have HBE : Hid (Below w.heap.size w w2) := hbe; obtain ⟨b, off, hab, c0, c1⟩ := hrd.at 0 (by omega); cases hab; simp only [List.getD_cons_zero, Nat.zero_mul, Nat.zero_add] at c0 c1; clear hrd hbe)
    | (go_at_call 26; refine (HGP.out _ _ _ HRD.out).mono ?_; rintro e w3 ⟨rfl, hrd, hg⟩; have HRD3 : Hid (RdE w3 (some ⟨g, 0, none⟩) 2 [(5, 3), (7, 1)]) := hrd; have HG3 : Hid (Gw w2 w3) := hg; clear hrd hg)
    | (go_at_call 30; refine (HVC.out _ _ _ HRD3.out).mono ?_; rintro e w4 ⟨rfl, hg⟩; have HG4 : Hid (Gw w2 w4) := HG3.out.trans hg; clear hg)
    | (go_at_call 17; refine (HR.out _).mono ?_; rintro e w5 ⟨rfl, hg⟩; have HG5 : Hid (Gw w2 w5) := HG4.out.trans hg; clear hg))
  go_ret
  exact ⟨rfl, HBE.out.trans (HG5.out.below.mono HBE.out.size)⟩
end Go.Proofs.Ytfagmcgcdlboiaa
