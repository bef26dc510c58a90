/- The walk of the reference's Right: it answers what the program's does. -/
import Derived.Test.YtcbnmahbdcjamaaRiR
import Derived.Deep.DeepCutAuto
namespace Go.Proofs.Ytcbnmahbdcjamaa
open Go.RowKit Go.Sort
set_option linter.unusedVariables false
set_option linter.unusedSimpArgs false

/-- The document's words. -/
def opR (o : Opn) : Bool := idB o.c o.a && decide (1 ≤ o.s) && decide (o.s ≤ 4294967295) && (idB o.rc o.ra || (o.ins && zrB o.rc o.ra)) && decide (o.rc < o.c) && ruB o
theorem opR_eq (o : Opn) : opR o = opB o := by
  unfold opR opB rrB
  have hc : cnB o.s = (decide (1 ≤ o.s) && decide (o.s ≤ 4294967295)) := rfl
  rw [hc]
  generalize ruB o = r
  cases hz : zrB o.rc o.ra
  · rw [if_neg (by simp), Bool.and_false, Bool.or_false]
    cases idB o.c o.a <;> cases decide (1 ≤ o.s) <;> cases decide (o.s ≤ 4294967295) <;> cases idB o.rc o.ra <;> cases decide (o.rc < o.c) <;> rfl
  · rw [if_pos rfl, Bool.and_true]
    have h0 : o.rc = 0 ∧ o.ra = 0 := by unfold zrB at hz; simpa using hz
    have hi : idB o.rc o.ra = false := by rw [h0.1]; rfl
    rw [hi, Bool.false_or]
    cases hx : idB o.c o.a
    · rfl
    · have hc1 : 1 ≤ o.c := by
        unfold idB at hx
        rw [Bool.and_eq_true] at hx
        exact ((cnB_iff o.c).1 hx.1).1
      rw [decide_eq_true (show o.rc < o.c by omega)]
      cases decide (1 ≤ o.s) <;> cases decide (o.s ≤ 4294967295) <;> cases o.ins <;> cases r <;> rfl
set_option maxHeartbeats 4000000 in
theorem refRight_any (o : Opn) (w : World) : Calls Try.prog 76 #[o.val] w fun e w' => e = .returned (.bool (opB o)) ∧ Gw w w' := by
  rw [← opR_eq o]
  have hR : opR o = (idB o.c o.a && decide (1 ≤ o.s) && decide (o.s ≤ 4294967295) && (idB o.rc o.ra || (o.ins && zrB o.rc o.ra)) && decide (o.rc < o.c) && ruB o) := rfl
  have hru : ruB o = if o.ins = true then chB o.ch else decide (o.ch = 0) := rfl
  generalize opR o = R at hR ⊢
  generalize ruB o = x5 at hR hru
  obtain ⟨c, a, s, ins, rc, ra, ch⟩ := o
  simp only [Opn.val] at hR hru ⊢
  have HQ := eql_id rc ra
  have HA : Hid (∀ W : World, Calls Try.prog 125 #[.agg #[.int .i64 rc, .int .i64 ra]] W fun e w' => e = .returned (.bool (idB rc ra)) ∧ Gw W w') := fun W => refright_any rc ra W
  have HC : Hid (∀ W : World, Calls Try.prog 125 #[.agg #[.int .i64 c, .int .i64 a]] W fun e w' => e = .returned (.bool (idB c a)) ∧ Gw W w') := fun W => refright_any c a W
  have HZ : Hid (∀ W : World, Calls Try.prog 20 #[.int .i32 ch] W fun e w' => ∃ n : Int, e = .returned (.int .i64 n) ∧ decide (0 < n) = chB ch ∧ w' = W) := fun W => refSize_any ch W
  generalize zrB rc ra = z at HQ hR
  generalize idB rc ra = y at HA hR
  generalize idB c a = x1 at HC hR
  generalize chB ch = hb at HZ hru
  have HG : Hid (∀ o : Obj, Gw w (w.alloc o)) := fun o => gw_alloc w o
  have HK : Hid (∀ w2, Gw (w.alloc (.cells #[.int .i64 c, .int .i64 a, .int .i64 s, .bool ins, .int .i64 rc, .int .i64 ra, .int .i32 ch] 34)) w2 → w2.cell? ⟨w.heap.size, 0, none⟩ = some (.int .i64 c) ∧ w2.cell? ⟨w.heap.size, 1, none⟩ = some (.int .i64 a) ∧ w2.cell? ⟨w.heap.size, 2, none⟩ = some (.int .i64 s) ∧ w2.cell? ⟨w.heap.size, 3, none⟩ = some (.bool ins) ∧ w2.cell? ⟨w.heap.size, 4, none⟩ = some (.int .i64 rc) ∧ w2.cell? ⟨w.heap.size, 5, none⟩ = some (.int .i64 ra) ∧ w2.cell? ⟨w.heap.size, 6, none⟩ = some (.int .i32 ch)) := by
    intro w2 h2
    have hb := h2.below.block w.heap.size (by simp)
    rw [heap_alloc_new w _] at hb
    exact ⟨cell_of_row w2 w.heap.size 0 _ _ _ hb, cell_of_row w2 w.heap.size 1 _ _ _ hb, cell_of_row w2 w.heap.size 2 _ _ _ hb, cell_of_row w2 w.heap.size 3 _ _ _ hb, cell_of_row w2 w.heap.size 4 _ _ _ hb, cell_of_row w2 w.heap.size 5 _ _ _ hb, cell_of_row w2 w.heap.size 6 _ _ _ hb⟩
  go_enter Try.func76, Try.ntmps76
  go_upto_region 2 with fail
  go_upto_region 3 with (first | (go_at_call 125; refine (HA.out _).mono ?_; rintro e w2 ⟨rfl, hg⟩; have HG2 : Hid (Gw (w.alloc (.cells #[.int .i64 c, .int .i64 a, .int .i64 s, .bool ins, .int .i64 rc, .int .i64 ra, .int .i32 ch] 34)) w2) := hg; obtain ⟨k0, k1, k2, k3, k4, k5, k6⟩ := HK.out w2 hg; clear hg; cases y <;> cases ins <;> (first | (cases z) | skip)))
  all_goals
    simp only [Bool.and_false, Bool.and_true, Bool.false_and, Bool.true_and, Bool.or_false, Bool.or_true, Bool.false_or, Bool.true_or, if_true, Bool.false_eq_true, if_false] at hR hru
    first
      | (have hq0 : (ch == 0) = x5 := by rw [hru]; rfl
         clear hru
         go_upto_region 6 with fail)
      | (subst hru
         go_upto_region 6 with (first | (go_at_call 20; refine (HZ.out _).mono ?_; rintro e w' ⟨n, rfl, hn, hw'⟩; obtain rfl := hw'.symm; clear hw')))
    cases x1
    · try simp only [Bool.false_and] at hR
      subst hR
      go_wp2_with (first | (go_at_call 125; refine (HC.out _).mono ?_; rintro e w3 ⟨rfl, hg⟩; have HG3 : Hid (Gw w w3) := (HG.out _).trans (HG2.out.trans hg); clear hg))
      go_ret
      exact ⟨rfl, HG3.out⟩
    · by_cases h1 : 1 ≤ s
      · by_cases h2 : s ≤ 4294967295
        · by_cases h3 : rc < c
          · try simp only [h1, h2, h3, decide_true, Bool.and_false, Bool.and_true, Bool.false_and, Bool.true_and] at hR
            subst hR
            go_wp2_with (first | (go_at_call 125; refine (HC.out _).mono ?_; rintro e w3 ⟨rfl, hg⟩; have HG3 : Hid (Gw w w3) := (HG.out _).trans (HG2.out.trans hg); clear k0 k1 k2 k3 k4 k5 k6; obtain ⟨k0, k1, k2, k3, k4, k5, k6⟩ := HK.out w3 (HG2.out.trans hg); clear hg))
            go_ret
            exact ⟨rfl, HG3.out⟩
          · try simp only [h1, h2, h3, decide_true, decide_false, Bool.and_false, Bool.and_true, Bool.false_and, Bool.true_and] at hR
            subst hR
            go_wp2_with (first | (go_at_call 125; refine (HC.out _).mono ?_; rintro e w3 ⟨rfl, hg⟩; have HG3 : Hid (Gw w w3) := (HG.out _).trans (HG2.out.trans hg); clear k0 k1 k2 k3 k4 k5 k6; obtain ⟨k0, k1, k2, k3, k4, k5, k6⟩ := HK.out w3 (HG2.out.trans hg); clear hg))
            go_ret
            exact ⟨rfl, HG3.out⟩
        · try simp only [h1, h2, decide_true, decide_false, Bool.and_false, Bool.false_and] at hR
          subst hR
          go_wp2_with (first | (go_at_call 125; refine (HC.out _).mono ?_; rintro e w3 ⟨rfl, hg⟩; have HG3 : Hid (Gw w w3) := (HG.out _).trans (HG2.out.trans hg); clear k0 k1 k2 k3 k4 k5 k6; obtain ⟨k0, k1, k2, k3, k4, k5, k6⟩ := HK.out w3 (HG2.out.trans hg); clear hg))
          go_ret
          exact ⟨rfl, HG3.out⟩
      · try simp only [h1, decide_false, Bool.and_false, Bool.false_and] at hR
        subst hR
        go_wp2_with (first | (go_at_call 125; refine (HC.out _).mono ?_; rintro e w3 ⟨rfl, hg⟩; have HG3 : Hid (Gw w w3) := (HG.out _).trans (HG2.out.trans hg); clear k0 k1 k2 k3 k4 k5 k6; obtain ⟨k0, k1, k2, k3, k4, k5, k6⟩ := HK.out w3 (HG2.out.trans hg); clear hg))
        go_ret
        exact ⟨rfl, HG3.out⟩
end Go.Proofs.Ytcbnmahbdcjamaa
