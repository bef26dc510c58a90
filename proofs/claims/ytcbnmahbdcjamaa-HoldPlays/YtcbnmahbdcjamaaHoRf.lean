/- The reference's hold in memory; the walks of its New, Has, ahead, Remove. -/
import Derived.Test.YtcbnmahbdcjamaaHoK
import Derived.Test.YtcbnmahbdcjamaaHoNd
namespace Go.Proofs.Ytcbnmahbdcjamaa
open Go.RowKit Go.Sort
set_option linter.unusedVariables false
set_option linter.unusedSimpArgs false

theorem own_baseK16 {w : World} {B B' n s : Nat} {e : TypeId} {v : Value} {xs : List Value} (h : w.ownsRow B e s v n xs) (hb : B' ≤ B) : w.ownsRow B' e s v n xs := by
  obtain ⟨hl, h1 | ⟨g, cap, cur, rfl, h1, h2, h3⟩⟩ := h
  · exact ⟨hl, .inl h1⟩
  · exact ⟨hl, .inr ⟨g, cap, cur, rfl, Nat.le_trans hb h1, h2, h3⟩⟩
/-- The reference's hold: its box, its row. -/
structure RfH (w : World) (B T r : Nat) (M : List Opn) (v : Value) : Prop where
  low : B ≤ T
  box : w.heap[T]? = some (.cells #[.int .i64 (r : Int), v] 87 (0, 0))
  row : w.ownsRow B 34 7 v M.length (flatP M)
theorem RfH.later {w W : World} {B T r : Nat} {M : List Opn} {v : Value} (h : RfH w B T r M v) (hb : Below w.heap.size w W) : RfH W B T r M v :=
  ⟨h.low, bel_heap hb h.box, cg_own (cg_below hb (fun _ => False)) h.row (fun _ _ q => q)⟩
theorem RfH.rd {w : World} {B T r : Nat} {M : List Opn} {v : Value} (h : RfH w B T r M v) : ∃ a cap, v = .slice a M.length cap ∧ M.length ≤ cap ∧ cap ≤ 9223372036854775807 ∧ RdP w a M.length M ∧ (a = none → cap = 0) := rdP_own h.row
theorem RfH.cells {w : World} {B T r : Nat} {M : List Opn} {v : Value} (h : RfH w B T r M v) : w.cell? ⟨T, 0, none⟩ = some (.int .i64 (r : Int)) ∧ w.cell? ⟨T, 1, none⟩ = some v ∧ w.frozen? ⟨T, 1, none⟩ = false :=
  ⟨cell_of_row w T 0 _ _ _ h.box, cell_of_row w T 1 _ _ _ h.box, Lib.frozen_of_heap h.box _⟩
theorem rf_new (room : Int) (w : World) : Calls Try.prog 37 #[.int .i64 room] w fun e w' => e = .returned (.pointer (some ⟨w.heap.size, 0, none⟩)) ∧ RfH w' w.heap.size w.heap.size room.toNat [] (.slice none 0 0) ∧ Below w.heap.size w w' := by
  have HX : Hid (RfH (w.alloc (.cells #[.int .i64 (room.toNat : Int), .slice none 0 0] 87)) w.heap.size w.heap.size room.toNat [] (.slice none 0 0) ∧ Below w.heap.size w (w.alloc (.cells #[.int .i64 (room.toNat : Int), .slice none 0 0] 87))) :=
    ⟨⟨Nat.le_refl _, heap_alloc_new w _, World.ownsRow_nil _ _ _ _⟩, (Below.refl _ w).alloc (Nat.le_refl _) _⟩
  by_cases h0 : room < 0
  · have hd : decide (room < 0) = true := decide_eq_true h0
    have hz : (room.toNat : Int) = 0 := by omega
    rw [hz] at HX
    generalize room.toNat = R at HX ⊢
    clear hz
    go_enter Try.func37, Try.ntmps37
    go_wp2
    go_ret
    exact ⟨rfl, HX.out⟩
  · have hd : decide (room < 0) = false := decide_eq_false h0
    have hz : (room.toNat : Int) = room := by omega
    rw [hz] at HX
    generalize room.toNat = R at HX ⊢
    clear hz
    go_enter Try.func37, Try.ntmps37
    go_wp2
    go_ret
    exact ⟨rfl, HX.out⟩
set_option maxRecDepth 100000 in
set_option maxHeartbeats 4000000 in
theorem rf_has {B T r : Nat} {M : List Opn} {v : Value} (w : World) (h : RfH w B T r M v) (hl : M.length ≤ 100000) (au sq : Int) :
    Calls Try.prog 45 #[.pointer (some ⟨T, 0, none⟩), .int .i64 au, .int .i64 sq] w fun e w' => e = .returned (.bool (hasK M au sq)) ∧ w' = w := by
  obtain ⟨a, cap, rfl, g1, g2, g3, g4⟩ := h.rd
  have hk := h.cells.2.1
  obtain ⟨n, hn⟩ : ∃ n, n = M.length := ⟨_, rfl⟩
  rw [← hn] at hk g3 hl
  have HR : Hid (RdP w a n M) := g3
  have HN : Hid (n = M.length) := hn
  obtain ⟨R, hR⟩ : ∃ R, R = hasK M au sq := ⟨_, rfl⟩
  have HYES : Hid (∀ i, i < n → (M.getD i op0).a = au → (M.getD i op0).s = sq → R = true) := fun i hi q2 q3 => by
    rw [hR, hasK_iff]
    exact ⟨M.getD i op0, op_getD M i (by omega), q2, q3⟩
  have HNO : Hid ((∀ i, i < n → ¬ ((M.getD i op0).a = au ∧ (M.getD i op0).s = sq)) → R = false) := fun q => by
    rw [hR, hasK_false]
    intro x hx
    obtain ⟨k, hk, rfl⟩ := List.mem_iff_getElem.1 hx
    have := q k (by omega)
    simpa [hk] using this
  rw [← hR]
  clear h g1 g3 g4 hR hn
  go_enter Try.func45, Try.ntmps45
  go_wp2
  go_loopw [7] (fun x7 wr => ∃ i : Nat, x7 = .int .i64 (i : Int) ∧ i ≤ n ∧ (∀ j, j < i → ¬ ((M.getD j op0).a = au ∧ (M.getD j op0).s = sq)) ∧ wr = w) (fun x7 _ => n - (RowKit.intOf x7).toNat)
  case atStart => exact ⟨0, rfl, by omega, fun j hj => absurd hj (by omega), rfl⟩
  case round =>
    obtain ⟨i, h7, hi, hno, rfl⟩ := hrel
    subst h7
    have HNN : Hid (∀ j, j < i → ¬ ((M.getD j op0).a = au ∧ (M.getD j op0).s = sq)) := hno
    clear hno
    by_cases hlt : i < n
    · obtain ⟨b, off, rfl, c0, c1, c2, c3, c4, c5, c6⟩ := HR.out.at i hlt
      have hyes := HYES.out i hlt
      have hnx : ¬ ((M.getD i op0).a = au ∧ (M.getD i op0).s = sq) → ∀ j, j < i + 1 → ¬ ((M.getD j op0).a = au ∧ (M.getD j op0).s = sq) := fun q j hj => by
        rcases Nat.lt_or_ge j i with z | z
        · exact HNN.out j z
        · rw [show j = i by omega]; exact q
      generalize M.getD i op0 = E at c0 c1 c2 c3 c4 c5 c6 hyes hnx
      have hi0 : (0 : Int) ≤ (i : Int) := by omega
      have hi1 : (i : Int) < (n : Int) := by omega
      by_cases e1 : E.a = au
      · have e1b : (E.a == au) = true := by simp [e1]
        by_cases e2 : E.s = sq
        · have e2b : (E.s == sq) = true := by simp [e2]
          have HY : Hid (R = true) := hyes e1 e2
          clear hyes hnx e1 e2
          go_wp2
          go_ret
          exact ⟨by rw [HY.out]; rfl, rfl⟩
        · have e2b : (E.s == sq) = false := by simpa using e2
          have HNX : Hid (∀ j, j < i + 1 → ¬ ((M.getD j op0).a = au ∧ (M.getD j op0).s = sq)) := hnx (fun q => e2 q.2)
          clear hyes hnx e1
          go_wp2
          go_roundw
          case rel => exact ⟨i + 1, by go_num, by omega, HNX.out, trivial⟩
          case measure => simp [RowKit.intOf]; omega
      · have e1b : (E.a == au) = false := by simpa using e1
        have HNX : Hid (∀ j, j < i + 1 → ¬ ((M.getD j op0).a = au ∧ (M.getD j op0).s = sq)) := hnx (fun q => e1 q.1)
        clear hyes hnx
        go_wp2
        go_roundw
        case rel => exact ⟨i + 1, by go_num, by omega, HNX.out, trivial⟩
        case measure => simp [RowKit.intOf]; omega
    · obtain rfl : i = n := by omega
      have HY : Hid (R = false) := HNO.out HNN.out
      go_wp2
      go_ret
      exact ⟨by rw [HY.out]; rfl, rfl⟩
set_option maxRecDepth 100000 in
set_option maxHeartbeats 4000000 in
theorem rf_ahead (p o : Opn) (w : World) : Calls Try.prog 94 #[p.val, o.val] w fun e w' => e = .returned (.bool (decide (ltK p o))) ∧ Below w.heap.size w w' := by
  obtain ⟨W0, hW0⟩ : ∃ W0, W0 = (w.alloc (bxP p)).alloc (bxP o) := ⟨_, rfl⟩
  obtain ⟨X, hX⟩ : ∃ X, X = w.heap.size := ⟨_, rfl⟩
  obtain ⟨Y, hY⟩ : ∃ Y, Y = w.heap.size + 1 := ⟨_, rfl⟩
  have HB0 : Hid (Below w.heap.size w W0) := by show Below _ _ _; rw [hW0]; exact ((Below.refl _ w).alloc (Nat.le_refl _) _).alloc (by simp) _
  have hx0 : W0.heap[X]? = some (bxP p) := by
    rw [hW0, hX]
    exact (((Below.refl _ _).alloc (Nat.le_refl _) _).block w.heap.size (by simp)).trans (heap_alloc_new w _)
  have hy0 : W0.heap[Y]? = some (bxP o) := by
    rw [hW0, hY]
    have := heap_alloc_new (w.alloc (bxP p)) (bxP o)
    rwa [World.size_alloc] at this
  obtain ⟨x0, x1, x2, x3, x4, x5, x6⟩ := opAt_box hx0
  obtain ⟨y0, y1, y2, y3, y4, y5, y6⟩ := opAt_box hy0
  obtain ⟨z, hz⟩ : ∃ z, z = decide (ltK p o) := ⟨_, rfl⟩
  rw [← hz]
  have HC : Hid ((p.a < o.a ∧ z = true) ∨ (¬ p.a < o.a ∧ p.a ≠ o.a ∧ z = false) ∨ (p.a = o.a ∧ p.s < o.s ∧ z = true) ∨ (p.a = o.a ∧ ¬ p.s < o.s ∧ z = false)) := by
    have hh : (p.a < o.a ∧ z = true) ∨ (¬ p.a < o.a ∧ p.a ≠ o.a ∧ z = false) ∨ (p.a = o.a ∧ p.s < o.s ∧ z = true) ∨ (p.a = o.a ∧ ¬ p.s < o.s ∧ z = false) := by
      rw [hz]
      by_cases h1 : p.a < o.a
      · exact .inl ⟨h1, decide_eq_true (.inl h1)⟩
      · by_cases h2 : p.a = o.a
        · by_cases h3 : p.s < o.s
          · exact .inr (.inr (.inl ⟨h2, h3, decide_eq_true (.inr ⟨h2, h3⟩)⟩))
          · refine .inr (.inr (.inr ⟨h2, h3, decide_eq_false ?_⟩))
            unfold ltK; omega
        · refine .inr (.inl ⟨h1, h2, decide_eq_false ?_⟩)
          unfold ltK; omega
    exact hh
  clear hx0 hy0 hz
  obtain ⟨pc, pa, ps, pi, prc, pra, pch⟩ := p
  obtain ⟨oc, oa, os, oi, orc, ora, och⟩ := o
  simp only [Opn.val] at x0 x1 x2 x3 x4 x5 x6 y0 y1 y2 y3 y4 y5 y6 ⊢
  go_enter Try.func94, Try.ntmps94
  go_upto_region 1 with fail
  rw [← hY, ← hX, ← hW0]
  clear hX hY hW0
  have hc := HC.out
  simp only at hc
  clear HC
  rcases hc with ⟨h1, rfl⟩ | ⟨h1, h2, rfl⟩ | ⟨h1, h2, rfl⟩ | ⟨h1, h2, rfl⟩
  · have e1 : decide (pa < oa) = true := decide_eq_true h1
    go_wp2
    go_ret
    exact ⟨rfl, HB0.out⟩
  · have e1 : decide (pa < oa) = false := decide_eq_false h1
    have e2 : (pa == oa) = false := by simpa using h2
    go_wp2
    go_ret
    exact ⟨rfl, HB0.out⟩
  · subst h1
    have e1 : decide (pa < pa) = false := by simp
    have e3 : decide (ps < os) = true := decide_eq_true h2
    go_wp2
    go_ret
    exact ⟨rfl, HB0.out⟩
  · subst h1
    have e1 : decide (pa < pa) = false := by simp
    have e3 : decide (ps < os) = false := decide_eq_false h2
    go_wp2
    go_ret
    exact ⟨rfl, HB0.out⟩
end Go.Proofs.Ytcbnmahbdcjamaa
