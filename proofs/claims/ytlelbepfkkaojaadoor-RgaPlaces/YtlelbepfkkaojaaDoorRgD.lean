/- The walks of insert (with the search for the place), remove. -/
import Derived.Test.YtlelbepfkkaojaaDoorRgC
namespace Go.Proofs.YtlelbepfkkaojaaDoor
open Go.RowKit Go.Shelf Go.Maps Go.Sort
set_option linter.unusedVariables false
set_option linter.unusedSimpArgs false

theorem ins1_rga (x : El) (i : Int × Int) (B : Nat) (W : World) (h : W.cell? ⟨B, 0, none⟩ = some (.int .i64 i.1) ∧ W.cell? ⟨B, 1, none⟩ = some (.int .i64 i.2)) :
    Calls Tryd.prog 35 #[.agg #[.int .i64 x.1, .int .i64 x.2.1, .int .i32 x.2.2.1, .bool x.2.2.2], .pointer (some ⟨B, 0, none⟩)] W fun e w' => e = .returned (.bool (decide (ltI (x.1, x.2.1) i))) ∧ Gw W w' := by
  rw [← ls_lt]
  obtain ⟨i1, i2⟩ := i
  obtain ⟨x1, x2, x3, x4⟩ := x
  obtain ⟨h0, h1⟩ := h
  obtain ⟨W1, hW1⟩ : ∃ W1, W1 = W.alloc (.cells #[.int .i64 x1, .int .i64 x2, .int .i32 x3, .bool x4] 56) := ⟨_, rfl⟩
  have hb1 : Below W.heap.size W W1 := by rw [hW1]; exact (gw_alloc W _).below
  have k0 : W1.cell? ⟨B, 0, none⟩ = some (.int .i64 i1) := hb1.cell (World.block_lt_of_cell? W _ h0) ▸ h0
  have k1 : W1.cell? ⟨B, 1, none⟩ = some (.int .i64 i2) := hb1.cell (World.block_lt_of_cell? W _ h1) ▸ h1
  have hN : W1.heap[W.heap.size]? = some (.cells #[.int .i64 x1, .int .i64 x2, .int .i32 x3, .bool x4] 56) := by rw [hW1]; exact heap_alloc_new W _
  have n0 : W1.cell? ⟨W.heap.size, 0, none⟩ = some (.int .i64 x1) := cell_of_row W1 _ 0 _ _ _ hN
  have n1 : W1.cell? ⟨W.heap.size, 1, none⟩ = some (.int .i64 x2) := cell_of_row W1 _ 1 _ _ _ hN
  have HG1 : Hid (Gw W W1) := by rw [hW1]; exact gw_alloc W _
  have HC : Hid (Calls Tryd.prog 36 #[.agg #[.int .i64 x1, .int .i64 x2], .agg #[.int .i64 i1, .int .i64 i2]] W1 fun e w' => e = .returned (.bool (lsB x1 x2 i1 i2)) ∧ Gw W1 w') := less_any x1 x2 i1 i2 W1
  show Calls _ _ _ _ fun e w' => e = .returned (.bool (lsB x1 x2 i1 i2)) ∧ Gw W w'
  generalize lsB x1 x2 i1 i2 = z at HC ⊢
  clear hb1 hN h0 h1
  obtain ⟨N, hN⟩ : ∃ N, N = W.heap.size := ⟨_, rfl⟩
  rw [← hN] at n0 n1
  go_enter Tryd.func35, Tryd.ntmps35
  go_upto_region 1 with fail
  rw [← hN, ← hW1]
  clear hN hW1
  go_wp2_with (first | (go_at_call 36; refine HC.out.mono ?_; rintro e w2 ⟨rfl, hg2⟩; have HG2 : Hid (Gw W w2) := HG1.out.trans hg2; clear hg2))
  go_ret
  exact ⟨rfl, HG2.out⟩
/-- A slice that reads as elements. -/
def RdEl (w : World) (a : Option Addr) (n : Nat) (rs : List El) : Prop :=
  rs.length = n ∧ (0 < n → ∃ b off, a = some ⟨b, off, none⟩ ∧ ∀ k, k < n → w.cell? ⟨b, off + k * 4, none⟩ = some (.int .i64 (rs.getD k (0, 0, 0, false)).1) ∧ w.cell? ⟨b, off + k * 4 + 1, none⟩ = some (.int .i64 (rs.getD k (0, 0, 0, false)).2.1) ∧ w.cell? ⟨b, off + k * 4 + 2, none⟩ = some (.int .i32 (rs.getD k (0, 0, 0, false)).2.2.1) ∧ w.cell? ⟨b, off + k * 4 + 3, none⟩ = some (.bool (rs.getD k (0, 0, 0, false)).2.2.2))
theorem RdEl.later {w w' : World} {a : Option Addr} {n : Nat} {rs : List El} (h : RdEl w a n rs) (hb : Below w.heap.size w w') : RdEl w' a n rs := by
  refine ⟨h.1, fun h0 => ?_⟩
  obtain ⟨b, off, ha, hc⟩ := h.2 h0
  refine ⟨b, off, ha, fun k hk => ?_⟩
  obtain ⟨c0, c1, c2, c3⟩ := hc k hk
  exact ⟨hb.cell (World.block_lt_of_cell? w _ c0) ▸ c0, hb.cell (World.block_lt_of_cell? w _ c1) ▸ c1, hb.cell (World.block_lt_of_cell? w _ c2) ▸ c2, hb.cell (World.block_lt_of_cell? w _ c3) ▸ c3⟩
/-- The IDs of a row of elements. -/
def idsOf (rs : List El) : List (Int × Int) := rs.map fun x => (x.1, x.2.1)
theorem idsOf_at (rs : List El) (k : Nat) (h : k < rs.length) : (idsOf rs).getD k (0, 0) = ((rs.getD k (0, 0, 0, false)).1, (rs.getD k (0, 0, 0, false)).2.1) := by simp [idsOf, h]
theorem ids_els (O : List Opn) : idsOf (els O) = (seqE O).map Opn.id := by simp [idsOf, els, elOf]
set_option maxHeartbeats 1000000 in
theorem indexEl_any (i : Int × Int) (B n cap : Nat) (rs : List El) (a : Option Addr) (W : World) (h : W.cell? ⟨B, 0, none⟩ = some (.int .i64 i.1) ∧ W.cell? ⟨B, 1, none⟩ = some (.int .i64 i.2)) (hr : RdEl W a n rs) (hn : n ≤ 1000000) :
    Calls Tryd.prog 34 #[.slice a n cap, .func (.func 35) #[] #[.pointer (some ⟨B, 0, none⟩)]] W fun e w' => (∃ k : Nat, k < n ∧ skI i (idsOf rs) = k ∧ e = .returned (.int .i64 (k : Int)) ∧ Gw W w') ∨ (skI i (idsOf rs) = n ∧ e = .returned (.int .i64 (-1)) ∧ Gw W w') := by
  have HL : Hid (rs.length = n) := hr.1
  have hil : (idsOf rs).length = n := by rw [← hr.1]; simp [idsOf]
  have HIL : Hid ((idsOf rs).length = n) := hil
  have HT : Hid (∀ w', Gw W w' → (∀ k, k < n → ∃ b off, a = some ⟨b, off, none⟩ ∧ w'.cell? ⟨b, off + k * 4, none⟩ = some (.int .i64 (rs.getD k (0, 0, 0, false)).1) ∧ w'.cell? ⟨b, off + k * 4 + 1, none⟩ = some (.int .i64 (rs.getD k (0, 0, 0, false)).2.1) ∧ w'.cell? ⟨b, off + k * 4 + 2, none⟩ = some (.int .i32 (rs.getD k (0, 0, 0, false)).2.2.1) ∧ w'.cell? ⟨b, off + k * 4 + 3, none⟩ = some (.bool (rs.getD k (0, 0, 0, false)).2.2.2)) ∧ (∀ x : El, Calls Tryd.prog 35 #[.agg #[.int .i64 x.1, .int .i64 x.2.1, .int .i32 x.2.2.1, .bool x.2.2.2], .pointer (some ⟨B, 0, none⟩)] w' fun e w2 => e = .returned (.bool (decide (ltI (x.1, x.2.1) i))) ∧ Gw w' w2)) := by
    intro w' hg
    refine ⟨fun k hk => ?_, fun x => ins1_rga x i B w' ⟨?_, ?_⟩⟩
    · obtain ⟨b, off, ha, hc⟩ := (hr.later hg.below).2 (by omega)
      exact ⟨b, off, ha, hc k hk⟩
    · exact hg.below.cell (World.block_lt_of_cell? W _ h.1) ▸ h.1
    · exact hg.below.cell (World.block_lt_of_cell? W _ h.2) ▸ h.2
  have HAT : Hid (∀ k, k < n → (∀ j, j < k → ¬ ltI ((idsOf rs).getD j (0, 0)) i) → ltI ((idsOf rs).getD k (0, 0)) i → skI i (idsOf rs) = k) := fun k hk h1 h2 => skI_at i _ k (by rw [HIL.out]; exact hk) h1 h2
  have HNO : Hid ((∀ j, j < n → ¬ ltI ((idsOf rs).getD j (0, 0)) i) → skI i (idsOf rs) = n) := fun q => by rw [skI_all i _ (by rw [HIL.out]; exact q), HIL.out]
  have HID : Hid (∀ k, k < n → (idsOf rs).getD k (0, 0) = ((rs.getD k (0, 0, 0, false)).1, (rs.getD k (0, 0, 0, false)).2.1)) := fun k hk => idsOf_at rs k (by rw [HL.out]; exact hk)
  have HG0 : Hid (Gw W W) := Gw.refl W
  generalize skI i (idsOf rs) = R at HAT HNO ⊢
  generalize hI : (fun k => (idsOf rs).getD k (0, 0)) = I at *
  have HI : Hid (∀ k, (idsOf rs).getD k (0, 0) = I k) := fun k => by rw [← hI]
  clear h hr hI HIL hil
  go_enter Tryd.func34, Tryd.ntmps34
  go_wp2
  go_loopw [8] (fun x8 wr => ∃ k : Nat, x8 = .int .i64 (k : Int) ∧ k ≤ n ∧ (∀ j, j < k → ¬ ltI (I j) i) ∧ Gw W wr) (fun x8 _ => n - (RowKit.intOf x8).toNat)
  case atStart => exact ⟨0, rfl, by omega, fun k hk => absurd hk (by omega), HG0.out⟩
  case round =>
    obtain ⟨k, hx8, hk, hno, hg⟩ := hrel
    subst hx8
    have HG : Hid (Gw W wr) := hg
    have HN : Hid (∀ j, j < k → ¬ ltI (I j) i) := hno
    clear hg hno
    by_cases hlt : k < n
    · obtain ⟨q2, q3⟩ := HT.out wr HG.out
      obtain ⟨g, off, hsa, d0, d1, d2, d3⟩ := q2 k hlt
      subst hsa
      have HC := q3 (rs.getD k (0, 0, 0, false))
      have hid := HID.out k hlt
      rw [HI.out k] at hid
      rw [← hid] at HC
      generalize rs.getD k (0, 0, 0, false) = E at d0 d1 d2 d3 HC hid
      by_cases hf : ltI (I k) i
      · have HR : Hid (R = k) := HAT.out k hlt (fun j hj => by rw [HI.out j]; exact HN.out j hj) (by rw [HI.out k]; exact hf)
        rw [decide_eq_true hf] at HC
        have HC2 : Hid (Calls Tryd.prog 35 #[.agg #[.int .i64 E.1, .int .i64 E.2.1, .int .i32 E.2.2.1, .bool E.2.2.2], .pointer (some ⟨B, 0, none⟩)] wr fun e w2 => e = .returned (.bool true) ∧ Gw wr w2) := HC
        have HKN : Hid (k < n) := hlt
        clear HC hf hid q2 q3 HT HAT HNO HID hk
        go_wp2_with (first | (go_at_call 35; refine HC2.out.mono ?_; rintro e w2 ⟨rfl, hg2⟩; have HG2 : Hid (Gw W w2) := HG.out.trans hg2; clear hg2))
        go_ret
        exact .inl ⟨k, HKN.out, HR.out, rfl, HG2.out⟩
      · rw [decide_eq_false hf] at HC
        have HC2 : Hid (Calls Tryd.prog 35 #[.agg #[.int .i64 E.1, .int .i64 E.2.1, .int .i32 E.2.2.1, .bool E.2.2.2], .pointer (some ⟨B, 0, none⟩)] wr fun e w2 => e = .returned (.bool false) ∧ Gw wr w2) := HC
        have HN2 : Hid (∀ j, j < k + 1 → ¬ ltI (I j) i) := fun j h1 => by
          rcases Nat.eq_or_lt_of_le (Nat.le_of_lt_succ h1) with rfl | h1
          · exact hf
          · exact HN.out j h1
        clear HC hf hid q2 q3 HT HAT HNO HID HN
        go_wp2_with (first | (go_at_call 35; refine HC2.out.mono ?_; rintro e w2 ⟨rfl, hg2⟩; have HG2 : Hid (Gw W w2) := HG.out.trans hg2; clear hg2))
        go_roundw
        case rel => exact ⟨k + 1, (by go_num), (by omega), HN2.out, HG2.out⟩
        case measure => simp [RowKit.intOf]; omega
    · obtain rfl : k = n := by omega
      have HR : Hid (R = k) := HNO.out fun j hj => by rw [HI.out j]; exact HN.out j hj
      clear HT HAT HNO HID
      go_wp2
      go_ret
      exact .inr ⟨HR.out, rfl, HG.out⟩
end Go.Proofs.YtlelbepfkkaojaaDoor
