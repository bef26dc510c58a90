/- The walk of shown. -/
import Derived.Test.YtjbhfonokgkalaaReaX
namespace Go.Proofs.Ytjbhfonokgkalaa
open Go.RowKit
set_option linter.unusedVariables false
set_option linter.unusedSimpArgs false

theorem upC {w w' : World} (hb : Below w.heap.size w w') {p : Addr} {v : Value} (h : w.cell? p = some v) : w'.cell? p = some v := (hb.cell (World.block_lt_of_cell? w _ h)).trans h
/-- The row of the two rules. -/
theorem sh_row {w3 : World} {g1 g2 g3 : Nat} (h1 : w3.cell? ⟨g1, 0, none⟩ = some (.int .i64 1)) (h2 : w3.cell? ⟨g2, 0, none⟩ = some (.int .i64 2)) (h3 : w3.cell? ⟨g3, 0, none⟩ = some (.int .i64 1)) :
    RowR (w3.alloc (.cells #[.int .i64 1, .slice (some ⟨g1, 0, none⟩) 1 1, .slice none 0 0, .int .i64 1, .slice (some ⟨g2, 0, none⟩) 1 1, .slice none 0 0, .bool false, .bool false, .int .i64 1, .slice (some ⟨g3, 0, none⟩) 1 1, .slice none 0 0, .int .i64 0, .slice none 0 0, .slice none 0 0, .bool true, .bool false] 35)) 12 (some ⟨w3.heap.size, 0, none⟩) 2 [shR1, shR2] := by
  generalize hcs : (#[.int .i64 1, .slice (some ⟨g1, 0, none⟩) 1 1, .slice none 0 0, .int .i64 1, .slice (some ⟨g2, 0, none⟩) 1 1, .slice none 0 0, .bool false, .bool false, .int .i64 1, .slice (some ⟨g3, 0, none⟩) 1 1, .slice none 0 0, .int .i64 0, .slice none 0 0, .slice none 0 0, .bool true, .bool false] : Array Value) = cs
  have hb : Below w3.heap.size w3 (w3.alloc (.cells cs 35)) := (Below.refl _ w3).alloc (Nat.le_refl _) _
  have hn := heap_alloc_new w3 (.cells cs 35)
  have rd1 : ∀ (g : Nat) (c : Int), w3.cell? ⟨g, 0, none⟩ = some (.int .i64 c) → Rd .i64 (w3.alloc (.cells cs 35)) (some ⟨g, 0, none⟩) 1 [c] := fun g c hc => ⟨rfl, fun _ => ⟨g, 0, rfl, fun i hi => by
    obtain rfl : i = 0 := by omega
    exact upC hb hc⟩⟩
  refine ⟨rfl, fun i hi => ?_⟩
  rcases (by simp at hi; omega : i = 0 ∨ i = 1) with rfl | rfl
  · refine ⟨w3.heap.size, 0, ⟨some ⟨g1, 0, none⟩, 1, none, 0, some ⟨g2, 0, none⟩, 1, none, 0⟩, rfl, ⟨InV.leaf _ 11 1 [1] (some ⟨g1, 0, none⟩) 1 (rd1 g1 1 h1) (by simp), InV.leaf _ 11 1 [2] (some ⟨g2, 0, none⟩) 1 (rd1 g2 2 h2) (by simp)⟩, fun j v hv => ?_⟩
    have hj : j < 8 := by
      rcases Nat.lt_or_ge j 8 with h | h
      · exact h
      · rw [Array.getElem?_eq_none (by simpa using h)] at hv; cases hv
    rw [cell_of_row _ _ _ _ _ _ hn, ← hcs, ← hv]
    rcases (by omega : j = 0 ∨ j = 1 ∨ j = 2 ∨ j = 3 ∨ j = 4 ∨ j = 5 ∨ j = 6 ∨ j = 7) with rfl | rfl | rfl | rfl | rfl | rfl | rfl | rfl <;> rfl
  · refine ⟨w3.heap.size, 0, ⟨some ⟨g3, 0, none⟩, 1, none, 0, none, 0, none, 0⟩, rfl, ⟨InV.leaf _ 11 1 [1] (some ⟨g3, 0, none⟩) 1 (rd1 g3 1 h3) (by simp), InV.leaf _ 11 0 [] none 0 (rd_nil _ _) (by simp)⟩, fun j v hv => ?_⟩
    have hj : j < 8 := by
      rcases Nat.lt_or_ge j 8 with h | h
      · exact h
      · rw [Array.getElem?_eq_none (by simpa using h)] at hv; cases hv
    rw [cell_of_row _ _ _ _ _ _ hn, ← hcs, ← hv]
    rcases (by omega : j = 0 ∨ j = 1 ∨ j = 2 ∨ j = 3 ∨ j = 4 ∨ j = 5 ∨ j = 6 ∨ j = 7) with rfl | rfl | rfl | rfl | rfl | rfl | rfl | rfl <;> rfl
theorem row3 {w : World} {B : Nat} {v : Value} {p q r : Bool} (h : w.ownsRow B 4 1 v 3 ([p, q, r].map Value.bool)) : ∃ g c, v = .slice (some ⟨g, 0, none⟩) 3 c ∧ w.cell? ⟨g, 0, none⟩ = some (.bool p) ∧ w.cell? ⟨g, 1, none⟩ = some (.bool q) ∧ w.cell? ⟨g, 2, none⟩ = some (.bool r) := by
  obtain ⟨a, c, rfl⟩ := own_sl1 h
  obtain ⟨g, rfl, _, cur, hg, hc⟩ := own_cells1 h (by omega)
  exact ⟨g, c, rfl, hc 0 (by omega), hc 1 (by omega), hc 2 (by omega)⟩
theorem row1 {w : World} {B : Nat} {v : Value} {p : Bool} (h : w.ownsRow B 4 1 v 1 ([p].map Value.bool)) : ∃ g c, v = .slice (some ⟨g, 0, none⟩) 1 c ∧ w.cell? ⟨g, 0, none⟩ = some (.bool p) := by
  obtain ⟨a, c, rfl⟩ := own_sl1 h
  obtain ⟨g, rfl, _, cur, hg, hc⟩ := own_cells1 h (by omega)
  exact ⟨g, c, rfl, hc 0 (by omega)⟩

set_option maxHeartbeats 8000000 in
theorem shown_any (w : World) : Calls Try.prog 9 #[] w fun e w' => e = .returned (.bool true) ∧ Below w.heap.size w w' := by
  go_enter Try.func9, Try.ntmps9
  go_wp2_with fail
  refine (set_any 1 w).mono ?_
  rintro e w1 ⟨g1, rfl, x1, hb1⟩
  have X1 : Hid (w1.cell? ⟨g1, 0, none⟩ = some (.int .i64 1)) := x1
  have B1 : Hid (Below w.heap.size w w1) := hb1
  clear x1 hb1
  go_wp2_with fail
  refine (set_any 2 w1).mono ?_
  rintro e w2 ⟨g2, rfl, x2, hb2⟩
  have X2 : Hid (w2.cell? ⟨g2, 0, none⟩ = some (.int .i64 2)) := x2
  have B2 : Hid (Below w1.heap.size w1 w2) := hb2
  clear x2 hb2
  go_wp2_with fail
  refine (set_any 1 w2).mono ?_
  rintro e w3 ⟨g3, rfl, x3, hb3⟩
  have HRW : Hid (RowR (w3.alloc (.cells #[.int .i64 1, .slice (some ⟨g1, 0, none⟩) 1 1, .slice none 0 0, .int .i64 1, .slice (some ⟨g2, 0, none⟩) 1 1, .slice none 0 0, .bool false, .bool false, .int .i64 1, .slice (some ⟨g3, 0, none⟩) 1 1, .slice none 0 0, .int .i64 0, .slice none 0 0, .slice none 0 0, .bool true, .bool false] 35)) 12 (some ⟨w3.heap.size, 0, none⟩) 2 [shR1, shR2]) := sh_row (upC hb3 (upC B2.out X1.out)) (upC hb3 X2.out) x3
  have B3 : Hid (Below w.heap.size w w3) := (B1.out.trans (B2.out.mono B1.out.size)).trans (hb3.mono (Nat.le_trans B1.out.size B2.out.size))
  clear x3 hb3 X1 X2 B1 B2
  obtain ⟨W, hW⟩ : ∃ W, W = w3.alloc (.cells #[.int .i64 1, .slice (some ⟨g1, 0, none⟩) 1 1, .slice none 0 0, .int .i64 1, .slice (some ⟨g2, 0, none⟩) 1 1, .slice none 0 0, .bool false, .bool false, .int .i64 1, .slice (some ⟨g3, 0, none⟩) 1 1, .slice none 0 0, .int .i64 0, .slice none 0 0, .slice none 0 0, .bool true, .bool false] 35) := ⟨_, rfl⟩
  obtain ⟨L, hL⟩ : ∃ L, L = w3.heap.size := ⟨_, rfl⟩
  have HWL : Hid (W.heap.size = L + 1 ∧ Below w.heap.size w W) := ⟨by rw [hW, hL]; simp, by rw [hW]; exact B3.out.alloc B3.out.size _⟩
  rw [← hW, ← hL] at HRW
  have hwc : W.heap[L]? = some (.cells #[.int .i64 1, .slice (some ⟨g1, 0, none⟩) 1 1, .slice none 0 0, .int .i64 1, .slice (some ⟨g2, 0, none⟩) 1 1, .slice none 0 0, .bool false, .bool false, .int .i64 1, .slice (some ⟨g3, 0, none⟩) 1 1, .slice none 0 0, .int .i64 0, .slice none 0 0, .slice none 0 0, .bool true, .bool false] 35) := by rw [hW, hL]; exact heap_alloc_new w3 _
  have HWC : Hid (W.heap[L]? = some (.cells #[.int .i64 1, .slice (some ⟨g1, 0, none⟩) 1 1, .slice none 0 0, .int .i64 1, .slice (some ⟨g2, 0, none⟩) 1 1, .slice none 0 0, .bool false, .bool false, .int .i64 1, .slice (some ⟨g3, 0, none⟩) 1 1, .slice none 0 0, .int .i64 0, .slice none 0 0, .slice none 0 0, .bool true, .bool false] 35)) := hwc
  have HBO : Hid (∀ (V : World) (x y : Int) (bs : List Bool) (p q r : Bool), Below W.heap.size W V → boundL [shR1, shR2] [x, y] = [p, q, r] → Calls Try.prog 11 #[.slice (some ⟨L, 0, none⟩) 2 2, .slice (some ⟨V.heap.size, 0, none⟩) 2 2] (V.alloc (.cells #[.int .i64 x, .int .i64 y] 3)) fun e w' => ∃ g c, e = .returned (.slice (some ⟨g, 0, none⟩) 3 c) ∧ w'.cell? ⟨g, 0, none⟩ = some (.bool p) ∧ w'.cell? ⟨g, 1, none⟩ = some (.bool q) ∧ w'.cell? ⟨g, 2, none⟩ = some (.bool r) ∧ Below V.heap.size V w') := by
    intro V x y bs p q r hV he
    have hA : Below V.heap.size V (V.alloc (.cells #[.int .i64 x, .int .i64 y] 3)) := (Below.refl _ V).alloc (Nat.le_refl _) _
    have hWA := hV.trans (hA.mono hV.size)
    refine (boundaries_any 12 [shR1, shR2] [x, y] _ _ 2 2 2 2 _ (HRW.out.later hWA) (by omega) (by omega) (rd_two .i64 V x y _ _ rfl) (by omega) (fun h => by cases h) (by omega)).mono ?_
    rintro e w' ⟨v, rfl, ho, hb⟩
    rw [he] at ho
    obtain ⟨g, c, rfl, c0, c1, c2⟩ := row3 ho
    exact ⟨g, c, rfl, c0, c1, c2, hA.trans (hb.mono hA.size)⟩
  have HBN : Hid (∀ (V : World), Below W.heap.size W V → Calls Try.prog 11 #[.slice (some ⟨L, 0, none⟩) 2 2, .slice none 0 0] V fun e w' => ∃ g c, e = .returned (.slice (some ⟨g, 0, none⟩) 1 c) ∧ w'.cell? ⟨g, 0, none⟩ = some (.bool false) ∧ Below V.heap.size V w') := by
    intro V hV
    refine (boundaries_any 12 [shR1, shR2] [] _ none 2 2 0 0 _ (HRW.out.later hV) (by omega) (by omega) (rd_nil _ _) (by omega) (fun h => rfl) (by omega)).mono ?_
    rintro e w' ⟨v, rfl, ho, hb⟩
    rw [sh_c] at ho
    obtain ⟨g, c, rfl, c0⟩ := row1 ho
    exact ⟨g, c, rfl, c0, hb⟩
  have HWH : Hid (∀ (V : World) (x y : Int), Below W.heap.size W V → Calls Try.prog 16 #[.slice (some ⟨L, 0, none⟩) 2 2, .slice (some ⟨V.heap.size, 0, none⟩) 2 2, .int .i64 1] (V.alloc (.cells #[.int .i64 x, .int .i64 y] 3)) fun e w' => e = .returned (.int .i64 (firstI (fun r => fitI r [x, y] 1) [shR1, shR2])) ∧ Below V.heap.size V w') := by
    intro V x y hV
    have hA : Below V.heap.size V (V.alloc (.cells #[.int .i64 x, .int .i64 y] 3)) := (Below.refl _ V).alloc (Nat.le_refl _) _
    have hWA := hV.trans (hA.mono hV.size)
    refine (which_any 12 [shR1, shR2] [x, y] _ _ 2 2 2 2 1 _ (HRW.out.later hWA) (by omega) (by omega) (rd_two .i64 V x y _ _ rfl) (by omega) (fun h => by cases h) (by omega)).mono ?_
    rintro e w' ⟨rfl, hb⟩
    exact ⟨rfl, hA.trans (hb.mono hA.size)⟩
  have HFT : Hid (∀ (V : World), Below W.heap.size W V → Calls Try.prog 14 #[.agg #[.int .i64 1, .slice (some ⟨g1, 0, none⟩) 1 1, .slice none 0 0, .int .i64 1, .slice (some ⟨g2, 0, none⟩) 1 1, .slice none 0 0, .bool false, .bool false], .slice (some ⟨V.heap.size, 0, none⟩) 2 2, .int .i64 1] (V.alloc (.cells #[.int .i64 1, .int .i64 2] 3)) fun e w' => e = .returned (.bool true) ∧ Below V.heap.size V w') := by
    intro V hV
    have hA : Below V.heap.size V (V.alloc (.cells #[.int .i64 1, .int .i64 2] 3)) := (Below.refl _ V).alloc (Nat.le_refl _) _
    have hWA := hV.trans (hA.mono hV.size)
    obtain ⟨b, off, q, he, hr, t0, t1, t2, t3, t4, t5, t6, t7⟩ := HRW.out.cells 0 (by simp)
    cases he
    simp only [Nat.zero_mul, Nat.add_zero, Nat.zero_add, List.getElem_cons_zero] at t1 t2 t4 t5 hr
    have k1 := (cell_of_row W L 1 _ _ _ HWC.out).symm.trans t1
    have k2 := (cell_of_row W L 2 _ _ _ HWC.out).symm.trans t2
    have k4 := (cell_of_row W L 4 _ _ _ HWC.out).symm.trans t4
    have k5 := (cell_of_row W L 5 _ _ _ HWC.out).symm.trans t5
    obtain ⟨la, lc, lp, lpc, ra, rc, rp, rpc⟩ := q
    simp [shR1, setNd, toL] at k1 k2 k4 k5
    obtain ⟨rfl, rfl⟩ := k1
    obtain ⟨rfl, rfl⟩ := k2
    obtain ⟨rfl, rfl⟩ := k4
    obtain ⟨rfl, rfl⟩ := k5
    have := fits_any 12 shR1 _ [1, 2] (some ⟨V.heap.size, 0, none⟩) 2 2 1 _ (hr.later hWA) (by omega) (rd_two .i64 V 1 2 _ _ rfl) (by omega) (fun h => by cases h) (by omega)
    rw [sh_f] at this
    refine this.mono ?_
    rintro e w' ⟨rfl, hb⟩
    exact ⟨rfl, hA.trans (hb.mono hA.size)⟩
  clear HRW hwc B3
  go_upto_region 2 with fail
  rw [← hL, ← hW]
  clear hL hW
  have D0 : Hid (Below W.heap.size W W) := Below.refl _ _
  go_wp2_with fail
  refine (HBO.out W 1 2 [] true false true D0.out sh_a).mono ?_
  rintro e w5 ⟨ga, ca, rfl, a0, a1, a2, hb5⟩
  have D5 : Hid (Below W.heap.size W w5) := hb5
  have A5 : Hid (w5.cell? ⟨ga, 0, none⟩ = some (.bool true) ∧ w5.cell? ⟨ga, 1, none⟩ = some (.bool false) ∧ w5.cell? ⟨ga, 2, none⟩ = some (.bool true)) := ⟨a0, a1, a2⟩
  clear a0 a1 a2 hb5
  go_wp2_with fail
  refine (HBO.out w5 1 1 [] true true true D5.out sh_b).mono ?_
  rintro e w7 ⟨gb, cb, rfl, a0, a1, a2, hb7⟩
  have D7 : Hid (Below W.heap.size W w7) := D5.out.trans (hb7.mono D5.out.size)
  have A7 : Hid (w7.cell? ⟨ga, 0, none⟩ = some (.bool true) ∧ w7.cell? ⟨ga, 1, none⟩ = some (.bool false) ∧ w7.cell? ⟨ga, 2, none⟩ = some (.bool true) ∧ w7.cell? ⟨gb, 1, none⟩ = some (.bool true)) := ⟨upC hb7 A5.out.1, upC hb7 A5.out.2.1, upC hb7 A5.out.2.2, a1⟩
  clear a0 a1 a2 hb7 A5
  go_wp2_with fail
  refine (HBN.out w7 D7.out).mono ?_
  rintro e w8 ⟨gc, cc, rfl, a0, hb8⟩
  have D8 : Hid (Below W.heap.size W w8) := D7.out.trans (hb8.mono D7.out.size)
  have n1 := upC hb8 A7.out.1
  have n2 := upC hb8 A7.out.2.1
  have n3 := upC hb8 A7.out.2.2.1
  have n4 := upC hb8 A7.out.2.2.2
  clear hb8 A7
  go_wp2_with fail
  refine (HWH.out w8 2 2 D8.out).mono ?_
  rintro e w9 ⟨rfl, hb9⟩
  have D9 : Hid (Below W.heap.size W w9) := D8.out.trans (hb9.mono D8.out.size)
  clear hb9 n1 n2 n3 n4 a0
  rw [sh_d]
  go_wp2_with fail
  refine (HWH.out w9 1 1 D9.out).mono ?_
  rintro e w10 ⟨rfl, hb10⟩
  have D10 : Hid (Below W.heap.size W w10) := D9.out.trans (hb10.mono D9.out.size)
  clear hb10
  rw [sh_e]
  have hwb : w10.heap[L]? = some (.cells #[.int .i64 1, .slice (some ⟨g1, 0, none⟩) 1 1, .slice none 0 0, .int .i64 1, .slice (some ⟨g2, 0, none⟩) 1 1, .slice none 0 0, .bool false, .bool false, .int .i64 1, .slice (some ⟨g3, 0, none⟩) 1 1, .slice none 0 0, .int .i64 0, .slice none 0 0, .slice none 0 0, .bool true, .bool false] 35) := (D10.out.block L (by have := HWL.out.1; omega)).trans HWC.out
  have l0 := (cell_of_row w10 L 0 _ _ _ hwb)
  have l1 := (cell_of_row w10 L 1 _ _ _ hwb)
  have l2 := (cell_of_row w10 L 2 _ _ _ hwb)
  have l3 := (cell_of_row w10 L 3 _ _ _ hwb)
  have l4 := (cell_of_row w10 L 4 _ _ _ hwb)
  have l5 := (cell_of_row w10 L 5 _ _ _ hwb)
  have l6 := (cell_of_row w10 L 6 _ _ _ hwb)
  have l7 := (cell_of_row w10 L 7 _ _ _ hwb)
  simp at l0 l1 l2 l3 l4 l5 l6 l7
  clear hwb
  go_wp2_with fail
  refine (HFT.out w10 D10.out).mono ?_
  rintro e w11 ⟨rfl, hb11⟩
  have HFIN : Hid (Below w.heap.size w w11) := (HWL.out.2.trans (D10.out.mono HWL.out.2.size)).trans (hb11.mono (Nat.le_trans HWL.out.2.size D10.out.size))
  clear hb11 l0 l1 l2 l3 l4 l5 l6 l7
  go_wp2
  go_ret
  exact ⟨rfl, HFIN.out⟩
end Go.Proofs.Ytjbhfonokgkalaa
