/- The walks of the statements' Same and cut. -/
import Derived.Test.YtcbnmahbdcjamaaFrE
import Derived.Test.YtcbnmahbdcjamaaIdX
namespace Go.Proofs.Ytcbnmahbdcjamaa
open Go.RowKit Go.Sort
set_option linter.unusedVariables false
set_option linter.unusedSimpArgs false

theorem bel_drewN {B : Nat} {w W : World} (h : Below B w W) (q : Nat) : Below B w (W.drewN q) := ⟨h.os, h.tape, h.output, h.size, h.block⟩
theorem neq_op (A B : Opn) (z : Bool) (hz : z = true ↔ A ≠ B) (W : World) : (binOp .neq 34 (.agg #[.int .i64 A.c, .int .i64 A.a, .int .i64 A.s, .bool A.ins, .int .i64 A.rc, .int .i64 A.ra, .int .i32 A.ch]) (.agg #[.int .i64 B.c, .int .i64 B.a, .int .i64 B.s, .bool B.ins, .int .i64 B.rc, .int .i64 B.ra, .int .i32 B.ch])).run Try.prog W = .ok (.bool z) W := by
  obtain ⟨a1, a2, a3, a4, a5, a6, a7⟩ := A
  obtain ⟨b1, b2, b3, b4, b5, b6, b7⟩ := B
  have e : z = !(a1 == b1 && (a2 == b2 && (a3 == b3 && (a4 == b4 && (a5 == b5 && (a6 == b6 && a7 == b7)))))) := by
    rw [Bool.eq_iff_iff, hz]
    by_cases h1 : a1 = b1
    · by_cases h2 : a2 = b2
      · by_cases h3 : a3 = b3
        · by_cases h4 : a4 = b4
          · by_cases h5 : a5 = b5
            · by_cases h6 : a6 = b6
              · simp [h1, h2, h3, h4, h5, h6]
              · simp [h6]
            · simp [h5]
          · simp [h4]
        · simp [h3]
      · simp [h2]
    · simp [h1]
  subst e
  clear hz
  go_simp
  by_cases h1 : a1 = b1
  · by_cases h2 : a2 = b2
    · by_cases h3 : a3 = b3
      · by_cases h4 : a4 = b4
        · by_cases h5 : a5 = b5
          · by_cases h6 : a6 = b6
            · by_cases h7 : a7 = b7
              · simp [h1, h2, h3, h4, h5, h6, h7]
              · simp [h1, h2, h3, h4, h5, h6, h7]
            · simp [h1, h2, h3, h4, h5, h6]
          · simp [h1, h2, h3, h4, h5]
        · simp [h1, h2, h3, h4]
      · simp [h1, h2, h3]
    · simp [h1, h2]
  · simp [h1]
theorem take_nextF {α : Type} (A B : List α) (d : α) (i : Nat) (ha : i < A.length) (hb : i < B.length) : A.take (i + 1) = B.take (i + 1) ↔ A.take i = B.take i ∧ A.getD i d = B.getD i d := by
  have e : ∀ L : List α, i < L.length → L.take (i + 1) = L.take i ++ [L.getD i d] := fun L h => by
    rw [List.take_add_one, List.getElem?_eq_getElem h]
    simp [h]
  rw [e A ha, e B hb]
  constructor
  · intro h
    have h3 := List.append_inj h (by simp; omega)
    exact ⟨h3.1, by simpa using h3.2⟩
  · rintro ⟨h1, h2⟩
    rw [h1, h2]
theorem frm_eq (A B : Frm) : A = B ↔ A.kind = B.kind ∧ A.fr = B.fr ∧ A.next = B.next ∧ A.vec = B.vec ∧ A.ops = B.ops := by
  constructor
  · rintro rfl; exact ⟨rfl, rfl, rfl, rfl, rfl⟩
  · obtain ⟨a1, a2, a3, a4, a5⟩ := A
    obtain ⟨b1, b2, b3, b4, b5⟩ := B
    rintro ⟨h1, h2, h3, h4, h5⟩
    simp only at h1 h2 h3 h4 h5
    subst h1 h2 h3 h4 h5
    rfl
set_option maxRecDepth 100000 in
set_option maxHeartbeats 2000000 in
theorem refSame_any (A B : Frm) (u v : Value) (w : World) (hA : FrAt w u A) (hB : FrAt w v B) (h1 : A.vec.length ≤ 100000) (h2 : A.ops.length ≤ 100000) (z : Bool) (hz : z = true ↔ A = B) :
    Calls Try.prog 28 #[u, v] w fun e w' => e = .returned (.bool z) ∧ Below w.heap.size w w' := by
  have mixed : Try.prog.follows .mixedOrders = true := by kernel_rfl
  obtain ⟨va, vn, vc, oa, on, oc, rfl, rA, pA⟩ := hA
  obtain ⟨ub, un, uc, qb, qn, qc, rfl, rB, pB⟩ := hB
  rw [frm_eq] at hz
  have HS : Hid (∀ W, Below w.heap.size w W → Calls Try.prog 18 #[.slice va vn vc, .slice ub un uc] W fun e w' => e = .returned (.bool (decide (A.vec = B.vec))) ∧ Gw W w') := fun W h => same_any A.vec B.vec va ub vn vc un uc W (rA.later h) (rB.later h) (by have := rA.1; omega)
  have HPA : Hid (∀ W, Below w.heap.size w W → RdP W oa on A.ops) := fun W h => pA.later h
  have HPB : Hid (∀ W, Below w.heap.size w W → RdP W qb qn B.ops) := fun W h => pB.later h
  have HLA : Hid (A.ops.length = on) := pA.1
  have HLB : Hid (B.ops.length = qn) := pB.1
  obtain ⟨W1, hW1⟩ : ∃ W1, W1 = (w.alloc (.cells #[.int .i64 A.kind, .int .i64 A.fr, .slice va vn vc, .slice oa on oc, .int .i64 A.next] 51)).alloc (.cells #[.int .i64 B.kind, .int .i64 B.fr, .slice ub un uc, .slice qb qn qc, .int .i64 B.next] 51) := ⟨_, rfl⟩
  have hb1 : Below w.heap.size w W1 := by rw [hW1]; exact ((Below.refl _ w).alloc (Nat.le_refl _) _).alloc (by simp) _
  have HB1 : Hid (Below w.heap.size w W1) := hb1
  have hx : W1.heap[w.heap.size]? = some (.cells #[.int .i64 A.kind, .int .i64 A.fr, .slice va vn vc, .slice oa on oc, .int .i64 A.next] 51) := by
    rw [hW1]
    exact (((Below.refl _ _).alloc (Nat.le_refl _) _).block w.heap.size (by simp)).trans (heap_alloc_new w _)
  have hy : W1.heap[w.heap.size + 1]? = some (.cells #[.int .i64 B.kind, .int .i64 B.fr, .slice ub un uc, .slice qb qn qc, .int .i64 B.next] 51) := by
    rw [hW1]
    have := heap_alloc_new (w.alloc (.cells #[.int .i64 A.kind, .int .i64 A.fr, .slice va vn vc, .slice oa on oc, .int .i64 A.next] 51)) (.cells #[.int .i64 B.kind, .int .i64 B.fr, .slice ub un uc, .slice qb qn qc, .int .i64 B.next] 51)
    simpa using this
  obtain ⟨Y, hY⟩ : ∃ Y, Y = w.heap.size + 1 := ⟨_, rfl⟩
  obtain ⟨X, hX⟩ : ∃ X, X = w.heap.size := ⟨_, rfl⟩
  have HYE : Hid (Y = w.heap.size + 1) := hY
  have HXE : Hid (X = w.heap.size) := hX
  rw [← hX] at hx
  rw [← hY] at hy
  have HK : Hid (∀ W, Below W1.heap.size W1 W → (W.cell? ⟨X, 0, none⟩ = some (.int .i64 A.kind) ∧ W.cell? ⟨X, 1, none⟩ = some (.int .i64 A.fr) ∧ W.cell? ⟨X, 2, none⟩ = some (.slice va vn vc) ∧ W.cell? ⟨X, 3, none⟩ = some (.slice oa on oc) ∧ W.cell? ⟨X, 4, none⟩ = some (.int .i64 A.next)) ∧ W.cell? ⟨Y, 0, none⟩ = some (.int .i64 B.kind) ∧ W.cell? ⟨Y, 1, none⟩ = some (.int .i64 B.fr) ∧ W.cell? ⟨Y, 2, none⟩ = some (.slice ub un uc) ∧ W.cell? ⟨Y, 3, none⟩ = some (.slice qb qn qc) ∧ W.cell? ⟨Y, 4, none⟩ = some (.int .i64 B.next)) := by
    intro W hW
    have gx := (hW.block X (Array.getElem?_eq_some_iff.1 hx).1).trans hx
    have gy := (hW.block Y (Array.getElem?_eq_some_iff.1 hy).1).trans hy
    exact ⟨⟨cell_of_row W X 0 _ _ _ gx, cell_of_row W X 1 _ _ _ gx, cell_of_row W X 2 _ _ _ gx, cell_of_row W X 3 _ _ _ gx, cell_of_row W X 4 _ _ _ gx⟩, cell_of_row W Y 0 _ _ _ gy, cell_of_row W Y 1 _ _ _ gy, cell_of_row W Y 2 _ _ _ gy, cell_of_row W Y 3 _ _ _ gy, cell_of_row W Y 4 _ _ _ gy⟩
  obtain ⟨⟨k0, k1, k2, k3, k4⟩, j0, j1, j2, j3, j4⟩ := HK.out W1 (Below.refl _ _)
  have hon : on ≤ 100000 := by have := pA.1; omega
  clear rA rB pA pB hb1 hx hy hX hY h1 h2
  by_cases g1 : A.kind = B.kind ∧ A.fr = B.fr ∧ A.next = B.next ∧ A.vec = B.vec ∧ on = qn
  · obtain ⟨e1, e2, e3, e4, e5⟩ := g1
    have HZ : Hid (z = true ↔ A.ops = B.ops) := by show z = true ↔ _; rw [hz]; exact ⟨fun h => h.2.2.2.2, fun h => ⟨e1, e2, e3, e4, h⟩⟩
    rw [decide_eq_true e4] at HS
    subst e5
    rw [← e1] at hW1 HK j0 ⊢
    rw [← e2] at hW1 HK j1 ⊢
    rw [← e3] at hW1 HK j4 ⊢
    clear e1 e2 e3 e4 hz
    generalize A.kind = fk at *
    generalize A.fr = ff at *
    generalize A.next = fx at *
    go_enter Try.func28, Try.ntmps28
    go_upto_region 1 with fail
    simp only [← hW1, ← HYE.out]
    simp only [← HXE.out]
    clear hW1
    go_wp2_with (go_at_call 18; refine (HS.out _ HB1.out).mono ?_; rintro e w2 ⟨rfl, hg⟩; have HG2 : Hid (Below W1.heap.size W1 w2) := hg.below; obtain ⟨⟨k0, k1, k2, k3, k4⟩, j0, j1, j2, j3, j4⟩ := HK.out w2 hg.below; clear hg)
    go_loopw [6] (fun x6 wr => ∃ i : Nat, x6 = .int .i64 (i : Int) ∧ i ≤ on ∧ A.ops.take i = B.ops.take i ∧ Below W1.heap.size W1 wr) (fun x6 _ => on - (RowKit.intOf x6).toNat)
    case atStart => exact ⟨0, rfl, by omega, rfl, HG2.out⟩
    case round =>
      obtain ⟨i, hx6, hil, heq, hbw⟩ := hrel
      subst hx6
      have HBW : Hid (Below W1.heap.size W1 wr) := hbw
      have HEQ : Hid (A.ops.take i = B.ops.take i) := heq
      obtain ⟨⟨k0, k1, k2, k3, k4⟩, j0, j1, j2, j3, j4⟩ := HK.out wr hbw
      by_cases hlt : i < on
      · have hbb := HB1.out.trans (hbw.mono HB1.out.size)
        obtain ⟨b1, o1, hsa, c0, c1, c2, c3, c4, c5, c6⟩ := (HPA.out wr hbb).at i hlt
        obtain ⟨b2, o2, hsb, d0, d1, d2, d3, d4, d5, d6⟩ := (HPB.out wr hbb).at i hlt
        subst hsa hsb
        have hst := take_nextF A.ops B.ops op0 i (by rw [HLA.out]; exact hlt) (by rw [HLB.out]; exact hlt)
        have hne : A.ops.getD i op0 ≠ B.ops.getD i op0 → A.ops ≠ B.ops := fun h1 h2 => h1 (by rw [h2])
        generalize A.ops.getD i op0 = E1 at c0 c1 c2 c3 c4 c5 c6 hst hne
        generalize B.ops.getD i op0 = E2 at d0 d1 d2 d3 d4 d5 d6 hst hne
        have hi0 : (0 : Int) ≤ (i : Int) := by omega
        have hi1 : (i : Int) < (on : Int) := by omega
        by_cases hee : E1 = E2
        · have hq := neq_op E1 E2 false (by simp [hee])
          have HNX : Hid (A.ops.take (i + 1) = B.ops.take (i + 1)) := hst.2 ⟨heq, hee⟩
          clear hst hne hee heq hbw hbb
          go_upto_region 7 with fail
          go_quiet (fail)
          go_wp2
          go_roundw
          case rel => exact ⟨i + 1, by go_num, by omega, HNX.out, bel_drewN HBW.out _⟩
          case measure => simp [RowKit.intOf]; omega
        · have hq := neq_op E1 E2 true (by simp [hee])
          have HZF : Hid (z = false) := by
            show z = false
            rw [Bool.eq_false_iff]
            intro h
            exact hne hee (HZ.out.1 h)
          clear hst hne hee heq hbw hbb
          go_upto_region 7 with fail
          go_quiet (fail)
          go_wp2
          go_ret
          exact ⟨by rw [HZF.out]; rfl, HB1.out.trans ((bel_drewN HBW.out _).mono HB1.out.size)⟩
      · obtain rfl : i = on := by omega
        have HZT : Hid (z = true) := by
          show z = true
          refine HZ.out.2 ?_
          rw [List.take_of_length_le (by rw [HLA.out]; omega), List.take_of_length_le (by rw [HLB.out]; omega)] at heq
          exact heq
        clear heq hbw
        go_wp2
        go_ret
        exact ⟨by rw [HZT.out]; rfl, HB1.out.trans (HBW.out.mono HB1.out.size)⟩
  · have HZF : Hid (z = false) := by
      show z = false
      rw [Bool.eq_false_iff]
      intro h
      obtain ⟨e1, e2, e3, e4, e5⟩ := hz.1 h
      exact g1 ⟨e1, e2, e3, e4, by rw [← HLA.out, ← HLB.out, e5]⟩
    clear hz
    have hq : decide (A.vec = B.vec) = decide (A.vec = B.vec) := rfl
    have hg : ¬ (A.kind = B.kind ∧ A.fr = B.fr ∧ A.next = B.next ∧ decide (A.vec = B.vec) = true ∧ on = qn) := fun h => g1 ⟨h.1, h.2.1, h.2.2.1, of_decide_eq_true h.2.2.2.1, h.2.2.2.2⟩
    clear g1 hq
    generalize decide (A.vec = B.vec) = zv at *
    generalize A.kind = a1 at *
    generalize A.fr = a2 at *
    generalize A.next = a3 at *
    generalize B.kind = b1 at *
    generalize B.fr = b2 at *
    generalize B.next = b3 at *
    have WALK : ∀ _ : (a1 ≠ b1 ∨ a1 = b1 ∧ a2 ≠ b2 ∨ a1 = b1 ∧ a2 = b2 ∧ a3 ≠ b3 ∨ a1 = b1 ∧ a2 = b2 ∧ a3 = b3 ∧ zv = false ∨ a1 = b1 ∧ a2 = b2 ∧ a3 = b3 ∧ zv = true ∧ on ≠ qn), Calls Try.prog 28 #[.agg #[.int .i64 a1, .int .i64 a2, .slice va vn vc, .slice oa on oc, .int .i64 a3], .agg #[.int .i64 b1, .int .i64 b2, .slice ub un uc, .slice qb qn qc, .int .i64 b3]] w fun e w' => e = .returned (.bool z) ∧ Below w.heap.size w w' := by
      clear hg
      rintro (h | ⟨rfl, h⟩ | ⟨rfl, rfl, h⟩ | ⟨rfl, rfl, rfl, rfl⟩ | ⟨rfl, rfl, rfl, rfl, h⟩)
      rotate_right
      have hnq : (on : Int) ≠ (qn : Int) := by omega
      clear h
      all_goals
        go_enter Try.func28, Try.ntmps28
        go_upto_region 1 with fail
        simp only [← hW1, ← HYE.out]
        simp only [← HXE.out]
        clear hW1
        go_wp2_with (go_at_call 18; refine (HS.out _ HB1.out).mono ?_; rintro e w2 ⟨rfl, hg⟩; have HG2 : Hid (Below W1.heap.size W1 w2) := hg.below; obtain ⟨⟨k0, k1, k2, k3, k4⟩, j0, j1, j2, j3, j4⟩ := HK.out w2 hg.below; clear hg)
        go_ret
        exact ⟨by rw [HZF.out]; rfl, HB1.out.trans (HG2.out.mono HB1.out.size)⟩
    refine WALK ?_
    by_cases q1 : a1 = b1
    · by_cases q2 : a2 = b2
      · by_cases q3 : a3 = b3
        · cases zv
          · exact .inr (.inr (.inr (.inl ⟨q1, q2, q3, rfl⟩)))
          · exact .inr (.inr (.inr (.inr ⟨q1, q2, q3, rfl, fun h => hg ⟨q1, q2, q3, rfl, h⟩⟩)))
        · exact .inr (.inr (.inl ⟨q1, q2, q3⟩))
      · exact .inr (.inl ⟨q1, q2⟩)
    · exact .inl q1
end Go.Proofs.Ytcbnmahbdcjamaa
