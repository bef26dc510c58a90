/- In one text: DfaKa, DfaKb, DfaKc. -/
import Derived.Test.YthdeadmnicmgfaaDoorJ19
/- The walk of apart: of each state a text of its kind, and of the kinds of its next ones. -/
namespace Go.Proofs.YthdeadmnicmgfaaDoor
open Go.RowKit Go.Shelf Go.Maps
set_option linter.unusedVariables false
set_option linter.unusedSimpArgs false

/-- A machine that lies in memory, to be read. -/
structure MchR (w : World) (K bm : Nat) (v9 : Value) (ob : Nat) (nx : List (List Nat)) (ou : List Nat) : Prop where
  blk : w.heap[bm]? = some (.cells #[.int .i64 (K : Int), v9, .slice (some ⟨ob, 0, none⟩) ou.length ou.length] 81)
  nxw : NxW w K v9 nx
  our : URow w ob ou
theorem MchR.later {w w' : World} {K bm ob : Nat} {v9 : Value} {nx : List (List Nat)} {ou : List Nat} (h : MchR w K bm v9 ob nx ou) (hb : Below w.heap.size w w') : MchR w' K bm v9 ob nx ou :=
  ⟨(hb.block bm (Array.getElem?_eq_some_iff.1 h.blk).1).trans h.blk, h.nxw.later hb, h.our.later hb⟩
/-- Texts, a block of their own. -/
def sv (ts : List (List Nat)) : List Value := ts.map (fun t => Value.string (tS t))
theorem tS_nil : tS [] = ⟨#[]⟩ := rfl
theorem made_str (n : Nat) : (madeCells (Value.string ⟨#[]⟩).cells (n * 1)) = (sv (List.replicate n [])).toArray := by
  apply Array.ext'
  rw [Nat.mul_one]
  refine (made_one (.string ⟨#[]⟩) n).trans ?_
  simp [sv, tS_nil]
theorem info_str : (Tryd.prog.info? 9).map (fun i => (i.zero, i.size, i.bytes)) = some (some (.string ⟨#[]⟩), 1, 16) := by kernel_rfl
theorem make_s (n : Nat) (hn : n ≤ 1000000) (W : World) : (Instr.makeSlice 44 (.int .i64 (n : Int)) (.int .i64 (n : Int))).run Tryd.prog W = .ok (.slice (some ⟨W.heap.size, 0, none⟩) n n) (W.alloc (.cells (sv (List.replicate n [])).toArray 9)) := by
  obtain ⟨i0, hi, hz0, hz1, hz2⟩ := info_parts info_str
  have := run_make (P := Tryd.prog) W 44 9 i0 _ Tryd.underlying44 hi hz0 .i64 .i64 (n : Int) (n : Int) (by omega) (by omega) (by rw [hz2]; omega) (by omega)
  rw [show ((n : Int)).toNat = n by omega, hz1, made_str] at this
  exact this
def SRow (w : World) (b : Nat) (ts : List (List Nat)) : Prop := w.heap[b]? = some (.cells (sv ts).toArray 9)
theorem SRow.cell {w : World} {b : Nat} {l : List (List Nat)} (h : SRow w b l) {i : Nat} (hi : i < l.length) : w.cell? ⟨b, i, none⟩ = some (.string (tS l[i])) := by
  rw [cell_of_row w b i _ _ _ h]
  simp [sv, hi]
theorem SRow.frozen {w : World} {b : Nat} {l : List (List Nat)} (h : SRow w b l) (i : Nat) : w.frozen? ⟨b, i, none⟩ = false := Lib.frozen_of_heap h i
theorem SRow.set {w : World} {b : Nat} {l : List (List Nat)} (h : SRow w b l) (i : Nat) (x : List Nat) : SRow (w.setCell ⟨b, i, none⟩ (.string (tS x))) b (l.set i x) := by
  unfold SRow
  rw [heap_setCell_same w b i _ _ _ h]
  simp [sv, List.map_set]
theorem SRow.later {w w' : World} {b : Nat} {l : List (List Nat)} (h : SRow w b l) (hb : Below w.heap.size w w') : SRow w' b l := (hb.block b (Array.getElem?_eq_some_iff.1 h).1).trans h
theorem SRow.lt {w : World} {b : Nat} {l : List (List Nat)} (h : SRow w b l) : b < w.heap.size := (Array.getElem?_eq_some_iff.1 h).1
theorem SRow.grown {w w' : World} {b g : Nat} {l : List (List Nat)} (h : SRow w b l) (hg : w.grownBy w' (some g)) (hne : b ≠ g) : SRow w' b l := (hg.block b h.lt (fun e => hne (Option.some.inj e))).trans h
/-- One row that turns into another. -/
def mix {α : Type} (n : Nat) (F R : List α) : List α := F.take n ++ R.drop n
theorem mix_len {α : Type} {n : Nat} {F R : List α} (h : R.length = F.length) : (mix n F R).length = F.length := by
  simp only [mix, List.length_append, List.length_take, List.length_drop]; omega
theorem mix_set {α : Type} {n : Nat} {F R : List α} (h : R.length = F.length) (hn : n < F.length) : (mix n F R).set n F[n] = mix (n + 1) F R := by
  have hl : (F.take n).length = n := by rw [List.length_take]; omega
  unfold mix
  rw [List.set_append_right _ _ (by rw [hl]; exact Nat.le_refl _), hl, Nat.sub_self, List.drop_eq_getElem_cons (by rw [h]; exact hn), List.set_cons_zero, take_snoc F n hn, List.append_assoc]
  rfl
theorem mix_zero {α : Type} (F R : List α) : mix 0 F R = R := by simp [mix]
theorem mix_all {α : Type} {F R : List α} (h : R.length = F.length) : mix F.length F R = F := by
  rw [mix, List.take_of_length_le (Nat.le_refl _), List.drop_eq_nil_of_le (by rw [h]; exact Nat.le_refl _), List.append_nil]
/-- The texts of all states. -/
def txs (nx : List (List Nat)) (kd : List Nat) : List (List Nat) := (List.range nx.length).map (fun i => tx (keyR nx kd i))
theorem keyR_len {K : Nat} {nx : List (List Nat)} (hw : Wide K nx) (kd : List Nat) {i : Nat} (hi : i < nx.length) : (keyR nx kd i).length = K + 1 := by
  simp [keyR, List.getD_eq_getElem?_getD, hi, hw _ (List.getElem_mem hi)]
set_option maxRecDepth 100000 in
set_option maxHeartbeats 8000000 in
theorem apart_any (w : World) (K bm ob kb : Nat) (v9 : Value) (nx : List (List Nat)) (ou kd : List Nat) (hM : MchR w K bm v9 ob nx ou) (hk : IRow w kb kd) (hl : kd.length = nx.length) (hw : Wide K nx) (hn : ∀ i c, nxt nx i c < nx.length) (hK : K ≤ 24) (hL : nx.length ≤ 2000) (hb : ∀ x ∈ kd, x ≤ 2000) :
    Calls Tryd.prog 63 #[.pointer (some ⟨bm, 0, none⟩), .slice (some ⟨kb, 0, none⟩) kd.length kd.length] w fun e w' => ∃ tb, e = .returned (.slice (some ⟨tb, 0, none⟩) kd.length kd.length) ∧ SRow w' tb (txs nx kd) ∧ Below w.heap.size w w' := by
  obtain ⟨m, hm⟩ : ∃ m, m = kd.length := ⟨_, rfl⟩
  obtain ⟨q, hq⟩ : ∃ q, q = K + 1 := ⟨_, rfl⟩
  have HM : Hid (m = kd.length ∧ m = nx.length) := ⟨hm, hm.trans hl⟩
  have hmi : (m : Int) ≤ 2000 := by omega
  have hKi : (K : Int) ≤ 24 := by omega
  have hqK : (q : Int) = 1 + (K : Int) := by omega
  have hmk := make_s m (by omega)
  have hmi' := make_i q (by omega)
  obtain ⟨TB, hTB⟩ : ∃ TB, TB = w.heap.size := ⟨_, rfl⟩
  obtain ⟨wT, hwT⟩ : ∃ wT, wT = w.alloc (.cells (sv (List.replicate m [])).toArray 9) := ⟨_, rfl⟩
  obtain ⟨wA, hwA⟩ : ∃ wA, wA = wT.alloc (.cells (iv (List.replicate q 0)).toArray 3) := ⟨_, rfl⟩
  have hTs : wT.heap.size = TB + 1 := by rw [hwT, hTB]; simp
  have HBA : Hid (Below w.heap.size w wA) := by rw [hwA, hwT]; exact ((Below.refl _ w).alloc (Nat.le_refl _) _).alloc (by simp) _
  have HSR : Hid (SRow wA TB (List.replicate m [])) := by
    show SRow _ _ _
    have h1 : SRow wT TB (List.replicate m []) := by rw [hwT, hTB]; exact heap_alloc_new w _
    rw [hwA]; exact h1.later ((Below.refl _ wT).alloc (Nat.le_refl _) _)
  have HIR : Hid (IRow wA (TB + 1) (List.replicate q 0)) := by show IRow _ _ _; rw [hwA, ← hTs]; exact heap_alloc_new wT _
  have HT : Hid (TB = w.heap.size) := hTB
  have HMR : Hid (MchR w K bm v9 ob nx ou) := hM
  have HKR : Hid (IRow w kb kd) := hk
  have HWD : Hid (Wide K nx ∧ (∀ i c, nxt nx i c < nx.length) ∧ ∀ x ∈ kd, x ≤ 2000) := ⟨hw, hn, hb⟩
  have HQ : Hid (q = K + 1) := hq
  have m0 : w.cell? ⟨bm, 0, none⟩ = some (.int .i64 (K : Int)) := cell_of_row w bm 0 _ _ _ hM.blk
  have m0' : wT.cell? ⟨bm, 0, none⟩ = some (.int .i64 (K : Int)) := by rw [hwT]; exact upC ((Below.refl _ w).alloc (Nat.le_refl _) _) m0
  rw [hwT] at m0'
  rw [hqK] at hmi'
  have hqi : (q : Int) ≤ 25 := by omega
  have hq0 : 0 < (q : Int) := by omega
  clear hqK hq
  rw [← hm]
  clear hM hk hw hn hb hl hm hL
  go_enter Tryd.func63, Tryd.ntmps63
  go_upto_region 3 with fail
  rw [← hTB, ← hwT, ← hwA]
  clear hTB hwA hmk hmi' m0' m0 hwT hTs
  go_wp2
  go_loopw [22] (fun x22 wr => ∃ (k : Nat) (row : List Nat), k ≤ m ∧ x22 = .int .i64 (k : Int) ∧ row.length = q ∧ SRow wr TB (mix k (txs nx kd) (List.replicate m [])) ∧ IRow wr (TB + 1) row ∧ Below w.heap.size w wr) (fun x22 _ => m - (intOf x22).toNat)
  case atStart => exact ⟨0, _, by omega, rfl, by simp, by rw [mix_zero]; exact HSR.out, HIR.out, HBA.out⟩
  case round =>
    obtain ⟨k, row, hk, hx22, hrq, hsr, hir, hbw⟩ := hrel
    subst hx22
    have HRQ : Hid (row.length = q) := hrq
    have HSW : Hid (SRow wr TB (mix k (txs nx kd) (List.replicate m []))) := hsr
    have HIW : Hid (IRow wr (TB + 1) row) := hir
    have HBW : Hid (Below w.heap.size w wr) := hbw
    clear hrq hsr hir hbw
    have htl : (txs nx kd).length = m := by rw [HM.out.2]; simp [txs]
    have HTL : Hid ((txs nx kd).length = m) := htl
    clear htl
    by_cases hlt : k < m
    · have hkx : k < nx.length := by rw [← HM.out.2]; exact hlt
      have hkk : k < kd.length := by rw [← HM.out.1]; exact hlt
      obtain ⟨F, hF⟩ : ∃ F, F = keyR nx kd k := ⟨_, rfl⟩
      have hFl : F.length = q := by rw [hF, HQ.out]; exact keyR_len HWD.out.1 kd hkx
      have HF : Hid (F = keyR nx kd k ∧ F.length = q ∧ ∀ n ∈ F, n ≤ 2000) := by
        refine ⟨hF, hFl, fun n hn => ?_⟩
        have hg : ∀ s, kd.getD s 0 ≤ 2000 := fun s => by
          rcases Nat.lt_or_ge s kd.length with h | h
          · simpa [List.getD_eq_getElem?_getD, h] using HWD.out.2.2 _ (List.getElem_mem h)
          · simp [List.getD_eq_getElem?_getD, h]
        rw [hF] at hn
        rcases List.mem_cons.1 hn with rfl | hn
        · exact hg k
        · obtain ⟨s, _, rfl⟩ := List.mem_map.1 hn
          exact hg s
      clear hF hFl
      have a0 := upC HBW.out (HKR.out.cell hkk)
      obtain ⟨X, hX⟩ : ∃ X, X = kd[k] := ⟨_, rfl⟩
      rw [← hX] at a0
      have hX0 : X = F[0]'(by rw [HF.out.2.1, HQ.out]; omega) := by
        have : ∀ h, F[0]'h = kd[k] := fun h => by have := HF.out.1; subst this; simp [keyR, List.getD_eq_getElem?_getD, hkk]
        rw [hX, this]
      have b0 := HIW.out.cell (i := 0) (by rw [HRQ.out, HQ.out]; omega)
      obtain ⟨y0, hy0⟩ : ∃ y0, y0 = row[0]'(by rw [HRQ.out, HQ.out]; omega) := ⟨_, rfl⟩
      rw [← hy0] at b0
      have bf := HIW.out.frozen 0
      obtain ⟨w1, hw1⟩ : ∃ w1, w1 = wr.setCell ⟨TB + 1, 0, none⟩ (.int .i64 (X : Int)) := ⟨_, rfl⟩
      have HB1 : Hid (Below w.heap.size w w1) := by rw [hw1]; exact HBW.out.setCell (p := ⟨TB + 1, 0, none⟩) (by show w.heap.size ≤ TB + 1; have := HT.out; omega) _
      have HI1 : Hid (IRow w1 (TB + 1) (mix 1 F row)) := by
        have h1 := HIW.out.set 0 X
        rw [← hw1] at h1
        have h2 := mix_set (F := F) (R := row) (n := 0) (by rw [HRQ.out, HF.out.2.1]) (by rw [HF.out.2.1, HQ.out]; omega)
        rw [mix_zero, ← hX0] at h2
        rw [h2] at h1
        exact h1
      have HS1 : Hid (SRow w1 TB (mix k (txs nx kd) (List.replicate m []))) := by
        show SRow _ _ _
        rw [hw1]
        exact HSW.out.grown (grown_cell wr (TB + 1) 0 _) (by omega)
      obtain ⟨g, cap, rb, hv, hg1, hrb⟩ := HMR.out.nxw.read hkx
      have a1 := upC HB1.out (cell_of_row w bm 1 _ _ _ HMR.out.blk)
      rw [hv, ← HM.out.2] at a1
      have a1' : w1.cell? ⟨bm, 1, none⟩ = some (.slice (some ⟨g, 0, none⟩) m cap) := a1
      have a2 := upC HB1.out hg1
      have HRB : Hid (IRow w rb nx[k] ∧ nx[k].length = K) := ⟨hrb, HWD.out.1 _ (List.getElem_mem hkx)⟩
      clear hX hX0 hy0 hv hg1 hrb a1
      go_upto_region 7 with fail
      rw [← hw1]
      clear hw1 a0 b0 bf
      go_wp2
      clear a1' a2
      go_loopw [38] (fun x38 wq => ∃ (j : Nat), j ≤ K ∧ x38 = .int .i64 (j : Int) ∧ w1.grownBy wq (some (TB + 1)) ∧ IRow wq (TB + 1) (mix (1 + j) F row)) (fun x38 _ => K - (intOf x38).toNat)
      case atStart => exact ⟨0, by omega, rfl, grown_refl _ _, HI1.out⟩
      case round =>
        obtain ⟨j, hj, hx38, hgq, hiq⟩ := hrel
        subst hx38
        have HGQ : Hid (w1.grownBy wr (some (TB + 1))) := hgq
        have HIQ : Hid (IRow wr (TB + 1) (mix (1 + j) F row)) := hiq
        have HBQ : Hid (Below w.heap.size w wr) := HB1.out.grown hgq HB1.out.size (fun j e => by cases e; have := HT.out; omega)
        clear hgq hiq
        by_cases hjl : j < K
        · have hjr : j < nx[k].length := by rw [HRB.out.2]; exact hjl
          have a3 := upC HBQ.out (HRB.out.1.cell hjr)
          obtain ⟨s, hs⟩ : ∃ s, s = nx[k][j] := ⟨_, rfl⟩
          rw [← hs] at a3
          have hsl : s < kd.length := by
            have := HWD.out.2.1 k j
            rw [nxt_in hkx hjr] at this
            rw [hs, ← HM.out.1, HM.out.2]; exact this
          have hsi : (s : Int) < (m : Int) := by have := HM.out.1; omega
          have a4 := upC HBQ.out (HKR.out.cell hsl)
          obtain ⟨z, hz⟩ : ∃ z, z = kd[s] := ⟨_, rfl⟩
          rw [← hz] at a4
          have hjF : 1 + j < F.length := by rw [HF.out.2.1, HQ.out]; omega
          have hzF : z = F[1 + j] := by
            have : ∀ h, F[1 + j]'h = kd[s] := fun h => by
              have := HF.out.1
              subst this
              subst hs
              simp [keyR, Nat.add_comm 1 j, List.getD_eq_getElem?_getD, hkx, hsl]
            rw [hz, this]
          have hml : 1 + j < (mix (1 + j) F row).length := by rw [mix_len (by rw [HRQ.out, HF.out.2.1])]; exact hjF
          have c1 := HIQ.out.cell hml
          obtain ⟨x0, hx0⟩ : ∃ x0, x0 = (mix (1 + j) F row)[1 + j] := ⟨_, rfl⟩
          rw [← hx0] at c1
          have f1 := HIQ.out.frozen (1 + j)
          have hji : 1 + (j : Int) < (q : Int) := by have := HQ.out; omega
          obtain ⟨w2, hw2⟩ : ∃ w2, w2 = wr.setCell ⟨TB + 1, 1 + j, none⟩ (.int .i64 (z : Int)) := ⟨_, rfl⟩
          have HFF : Hid (w1.grownBy w2 (some (TB + 1)) ∧ IRow w2 (TB + 1) (mix (1 + (j + 1)) F row)) := by
            refine ⟨by rw [hw2]; exact grown_put _ HGQ.out, ?_⟩
            have h1 := HIQ.out.set (1 + j) z
            rw [← hw2] at h1
            have h2 := mix_set (F := F) (R := row) (n := 1 + j) (by rw [HRQ.out, HF.out.2.1]) hjF
            rw [← hzF] at h2
            rw [h2] at h1
            exact h1
          clear hs hsl hz hjF hzF hml hx0 hjr
          go_wp2_with fail
          rw [← hw2]
          clear hw2 c1 f1 a3 a4
          go_roundw
          case rel => exact ⟨j + 1, by omega, by go_num, HFF.out⟩
          case measure => simp [intOf]; omega
        · obtain rfl : j = K := by omega
          have hFl := HF.out.2.1
          have HIF : Hid (IRow wr (TB + 1) F) := by
            have h1 := HIQ.out
            have h2 : 1 + j = F.length := by rw [hFl, HQ.out]; omega
            rw [h2, mix_all (by rw [HRQ.out, hFl])] at h1
            exact h1
          have hrd := HIF.out.rd
          have HC : Hid (Calls Tryd.prog 60 #[.slice (some ⟨TB + 1, 0, none⟩) q q] wr fun e w' => e = .returned (.string (tS (tx F))) ∧ Below wr.heap.size wr w') := by
            have h1 := textOf_any F (some ⟨TB + 1, 0, none⟩) q wr hrd (by rw [hFl]; omega) (fun n hn => by have := HF.out.2.2 n hn; omega)
            rw [hFl] at h1
            exact h1
          have HSQ : Hid (SRow wr TB (mix k (txs nx kd) (List.replicate m []))) := HS1.out.grown HGQ.out (by omega)
          obtain ⟨TT, hTT⟩ : ∃ TT, TT = tS (tx F) := ⟨_, rfl⟩
          have HTT : Hid (TT = tS (tx F)) := hTT
          rw [← hTT] at HC
          clear hFl hrd hTT
          go_wp2_with fail
          refine HC.out.mono ?_
          rintro e w2 ⟨rfl, hb2⟩
          have HS2 : Hid (SRow w2 TB (mix k (txs nx kd) (List.replicate m []))) := HSQ.out.later hb2
          have hml : k < (mix k (txs nx kd) (List.replicate m [])).length := by rw [mix_len (by rw [HTL.out]; simp), HTL.out]; exact hlt
          have c1 := HS2.out.cell hml
          obtain ⟨x0, hx0⟩ : ∃ x0, x0 = tS (mix k (txs nx kd) (List.replicate m []))[k] := ⟨_, rfl⟩
          rw [← hx0] at c1
          have f1 := HS2.out.frozen k
          obtain ⟨w3, hw3⟩ : ∃ w3, w3 = w2.setCell ⟨TB, k, none⟩ (.string TT) := ⟨_, rfl⟩
          have HFF : Hid (F.length = q ∧ SRow w3 TB (mix (k + 1) (txs nx kd) (List.replicate m [])) ∧ IRow w3 (TB + 1) F ∧ Below w.heap.size w w3) := by
            refine ⟨HF.out.2.1, ?_, ?_, ?_⟩
            · have h1 := HS2.out.set k (tx F)
              rw [← HTT.out, ← hw3] at h1
              have h2 := mix_set (F := txs nx kd) (R := List.replicate m []) (n := k) (by rw [HTL.out]; simp) (by rw [HTL.out]; exact hlt)
              rw [show (txs nx kd)[k]'(by rw [HTL.out]; exact hlt) = tx F by rw [HF.out.1]; simp [txs]] at h2
              rw [h2] at h1
              exact h1
            · rw [hw3]
              exact (HIF.out.later hb2).grown (grown_cell w2 TB k _) (by omega)
            · rw [hw3]
              exact (HBQ.out.trans (hb2.mono HBQ.out.size)).setCell (p := ⟨TB, k, none⟩) (by show w.heap.size ≤ TB; have := HT.out; omega) _
          clear hb2 hml hx0 HC
          go_wp2_with fail
          rw [← hw3]
          clear hw3 c1 f1
          go_roundw
          case rel => exact ⟨k + 1, F, by omega, by go_num, HFF.out⟩
          case measure => simp [intOf]; omega
    · obtain rfl : k = m := by omega
      have HFF : Hid (SRow wr TB (txs nx kd) ∧ Below w.heap.size w wr) := by
        have h1 := HSW.out
        have h2 := mix_all (F := txs nx kd) (R := List.replicate k []) (by rw [HTL.out]; simp)
        rw [HTL.out] at h2
        rw [h2] at h1
        exact ⟨h1, HBW.out⟩
      go_wp2
      go_ret
      exact ⟨TB, rfl, HFF.out⟩
end Go.Proofs.YthdeadmnicmgfaaDoor

/- The walk of kinds: rounds of numbers. -/
namespace Go.Proofs.YthdeadmnicmgfaaDoor
open Go.RowKit Go.Shelf Go.Maps
set_option linter.unusedVariables false
set_option linter.unusedSimpArgs false

theorem met_cnt : (l : List Nat) → (m m' : Nat) → metRow m l = some m' → m' ≤ m + l.length
  | [], m, m', h => by simp only [metRow, Option.some.injEq] at h; simp; omega
  | x :: l, m, m', h => by
    simp only [metRow] at h
    split at h
    · have := met_cnt l m m' h; simp; omega
    · split at h
      · have := met_cnt l (m + 1) m' h; simp; omega
      · simp at h
theorem num_keys {K : Nat} {nx : List (List Nat)} {kd l : List Nat} {cnt : Nat} (hw : Wide K nx) (hb : ∀ s, kd.getD s 0 ≤ 2000) (h : NumOf (txs nx kd) l cnt) : NumOf ((List.range nx.length).map (keyR nx kd)) l cnt := by
  have hm : ∀ i, ∀ n ∈ keyR nx kd i, n < 2 ^ 64 := fun i n hn => by
    rcases List.mem_cons.1 hn with rfl | hn
    · have := hb i; omega
    · obtain ⟨s, _, rfl⟩ := List.mem_map.1 hn
      have := hb s; omega
  refine ⟨by rw [h.len]; simp [txs], h.met, fun i j hi hj => ?_⟩
  have hi' : i < nx.length := by simpa using hi
  have hj' : j < nx.length := by simpa using hj
  rw [h.same i j (by simpa [txs] using hi) (by simpa [txs] using hj)]
  simp only [txs, List.getElem_map, List.getElem_range]
  exact ⟨fun e => tx_inj _ _ (hm i) (hm j) (by rw [keyR_len hw kd hi', keyR_len hw kd hj']) e, fun e => by rw [e]⟩
/-- What each round keeps. -/
structure KndP (K : Nat) (nx : List (List Nat)) (ou kd : List Nat) (cnt : Nat) : Prop where
  len : kd.length = nx.length
  met : metRow 0 kd = some cnt
  out : ∀ i j, i < nx.length → j < nx.length → kd.getD i 0 = kd.getD j 0 → ou.getD i 0 = ou.getD j 0
  told : ToldBy K nx ou kd
theorem KndP.few {K : Nat} {nx : List (List Nat)} {ou kd : List Nat} {cnt : Nat} (h : KndP K nx ou kd cnt) : cnt ≤ nx.length := by have := met_cnt kd 0 cnt h.met; rw [h.len] at this; omega
theorem KndP.small {K : Nat} {nx : List (List Nat)} {ou kd : List Nat} {cnt : Nat} (h : KndP K nx ou kd cnt) : ∀ x ∈ kd, x < nx.length := fun x hx => Nat.lt_of_lt_of_le ((metRow_le kd 0 cnt h.met).2 x hx) h.few
theorem KndP.first {K : Nat} {nx : List (List Nat)} {ou kd : List Nat} {cnt : Nat} (hl : ou.length = nx.length) (h : NumOf ou kd cnt) : KndP K nx ou kd cnt := by
  refine ⟨h.len.trans hl, h.met, fun i j hi hj e => ?_, told_first hl h⟩
  have := (h.same i j (by omega) (by omega)).1 e
  simp [List.getD_eq_getElem?_getD, hl, hi, hj, this]
theorem KndP.round {K : Nat} {nx : List (List Nat)} {ou kd fd : List Nat} {cnt more : Nat} (hw : Wide K nx) (hn : ∀ i c, nxt nx i c < nx.length) (h : KndP K nx ou kd cnt) (hf : NumOf ((List.range nx.length).map (keyR nx kd)) fd more) : KndP K nx ou fd more ∧ cnt ≤ more := by
  have hfl : fd.length = nx.length := by have := hf.len; simpa using this
  refine ⟨⟨hfl, hf.met, fun i j hi hj e => h.out i j hi hj (round_finer hf hi hj e).1, told_round hw hn h.told hf⟩, ?_⟩
  obtain ⟨kc, hk⟩ := kc_of h.met
  obtain ⟨fc, hfc⟩ := kc_of hf.met
  have := finer_count hk hfc (by rw [h.len, hfl]) (fun i j hi hj e => (round_finer hf (by have := h.len; omega) (by have := h.len; omega) e).1) kd.length 0 (by omega)
  rw [hk.zero, hfc.zero] at this
  omega
theorem KndP.last {K : Nat} {nx : List (List Nat)} {ou kd fd : List Nat} {cnt : Nat} (hw : Wide K nx) (ha : AsMet nx) (hl : ou.length = nx.length) (h : KndP K nx ou kd cnt) (hf : NumOf ((List.range nx.length).map (keyR nx kd)) fd cnt) : Kinds K nx ou kd cnt :=
  ⟨hw, ha, hl, h.len, h.met, h.out, fun i j hi hj e => round_last h.len h.met hf hi hj e, h.told⟩
/-- What kinds leaves. -/
def KndQ (K : Nat) (nx : List (List Nat)) (ou : List Nat) (w : World) (e : Ending) (w' : World) : Prop :=
  ∃ kb kd cnt, e = .returned (.tuple #[.slice (some ⟨kb, 0, none⟩) nx.length nx.length, .int .i64 ((cnt : Nat) : Int)]) ∧ IRow w' kb kd ∧ Below w.heap.size w w' ∧ KndP K nx ou kd cnt ∧ (cnt ≤ 400 → Kinds K nx ou kd cnt)
set_option maxRecDepth 100000 in
set_option maxHeartbeats 8000000 in
theorem kinds_any (w : World) (K bm ob : Nat) (v9 : Value) (nx : List (List Nat)) (ou : List Nat) (hM : MchR w K bm v9 ob nx ou) (hl : ou.length = nx.length) (hw : Wide K nx) (ha : AsMet nx) (hK : K ≤ 24) (hL : nx.length ≤ 2000) (ho : ∀ x ∈ ou, x < 2 ^ 64) :
    Calls Tryd.prog 35 #[.pointer (some ⟨bm, 0, none⟩)] w (KndQ K nx ou w) := by
  obtain ⟨m, hm⟩ : ∃ m, m = nx.length := ⟨_, rfl⟩
  have HM : Hid (m = nx.length ∧ ou.length = m) := ⟨hm, hl.trans hm.symm⟩
  have hmi : (m : Int) ≤ 2000 := by omega
  have hn : ∀ i c, nxt nx i c < nx.length := fun i c => nxt_lt (K := K) ha (asMet_pos ha)
  have HMR : Hid (MchR w K bm v9 ob nx ou) := hM
  have HWD : Hid (Wide K nx ∧ (∀ i c, nxt nx i c < nx.length) ∧ AsMet nx ∧ nx.length ≤ 2000 ∧ K ≤ 24) := ⟨hw, hn, ha, hL, hK⟩
  have m2 : w.cell? ⟨bm, 2, none⟩ = some (.slice (some ⟨ob, 0, none⟩) ou.length ou.length) := cell_of_row w bm 2 _ _ _ hM.blk
  have HC : Hid (Calls Tryd.prog 61 #[.slice (some ⟨ob, 0, none⟩) m m] w fun e w' => ∃ b l cnt, e = .returned (.tuple #[.slice (some ⟨b, 0, none⟩) m m, .int .i64 ((cnt : Nat) : Int)]) ∧ IRow w' b l ∧ NumOf ou l cnt ∧ Below w.heap.size w w' ∧ w.heap.size ≤ b) := by
    have h1 := numsU ou (some ⟨ob, 0, none⟩) ou.length w hM.our.rd ho (by omega)
    rw [HM.out.2] at h1
    exact h1
  rw [HM.out.2] at m2
  clear hM hl hw ha hL ho hn hm
  go_enter Tryd.func35, Tryd.ntmps35
  go_wp2_with fail
  refine HC.out.mono ?_
  rintro e w1 ⟨b1, l1, c1, rfl, hi1, hnu1, hb1, _⟩
  have HI1 : Hid (IRow w1 b1 l1 ∧ KndP K nx ou l1 c1 ∧ Below w.heap.size w w1) := ⟨hi1, KndP.first (HM.out.2.trans HM.out.1) hnu1, hb1⟩
  clear hi1 hnu1 hb1 HC m2
  go_wp2_with fail
  go_loopw [4, 5, 6, 7] (fun x4 x5 x6 x7 wr => ∃ (kb : Nat) (kd : List Nat) (cnt : Nat), x4 = .slice (some ⟨kb, 0, none⟩) m m ∧ x5 = .int .i64 (cnt : Int) ∧ IRow wr kb kd ∧ KndP K nx ou kd cnt ∧ Below w.heap.size w wr) (fun _ x5 _ _ _ => 401 - (intOf x5).toNat)
  case atStart => exact ⟨b1, l1, c1, rfl, rfl, HI1.out⟩
  case round =>
    obtain ⟨kb, kd, cnt, hx4, hx5, hir, hkp, hbw⟩ := hrel
    subst hx4 hx5
    have HIW : Hid (IRow wr kb kd) := hir
    have HKP : Hid (KndP K nx ou kd cnt) := hkp
    have HBW : Hid (Below w.heap.size w wr) := hbw
    have HKL : Hid (kd.length = m) := hkp.len.trans HM.out.1.symm
    clear hir hkp hbw HI1
    by_cases hc : (cnt : Int) ≤ 400
    · have HC : Hid (Calls Tryd.prog 63 #[.pointer (some ⟨bm, 0, none⟩), .slice (some ⟨kb, 0, none⟩) m m] wr fun e w' => ∃ tb, e = .returned (.slice (some ⟨tb, 0, none⟩) m m) ∧ SRow w' tb (txs nx kd) ∧ Below wr.heap.size wr w') := by
        have h1 := apart_any wr K bm ob kb v9 nx ou kd (HMR.out.later HBW.out) HIW.out HKP.out.len HWD.out.1 HWD.out.2.1 HWD.out.2.2.2.2 HWD.out.2.2.2.1 (fun x hx => by have h1 := HKP.out.small x hx; have h2 := HWD.out.2.2.2.1; omega)
        rw [HKL.out] at h1
        exact h1
      go_wp2_with fail
      refine HC.out.mono ?_
      rintro e w2 ⟨tb, rfl, hs2, hb2⟩
      have hg : ∀ s, kd.getD s 0 ≤ 2000 := fun s => by
        rcases Nat.lt_or_ge s kd.length with h | h
        · have h1 := HKP.out.small _ (List.getElem_mem h)
          have h2 := HWD.out.2.2.2.1
          simp only [List.getD_eq_getElem?_getD, h, List.getElem?_eq_getElem, Option.getD_some]; omega
        · simp [List.getD_eq_getElem?_getD, h]
      have HC2 : Hid (Calls Tryd.prog 62 #[.slice (some ⟨tb, 0, none⟩) m m] w2 fun e w' => ∃ b l c, e = .returned (.tuple #[.slice (some ⟨b, 0, none⟩) m m, .int .i64 ((c : Nat) : Int)]) ∧ IRow w' b l ∧ NumOf (txs nx kd) l c ∧ Below w2.heap.size w2 w' ∧ w2.heap.size ≤ b) := by
        have htl : (txs nx kd).length = m := by rw [HM.out.1]; simp [txs]
        have h1 := numsS (txs nx kd) (some ⟨tb, 0, none⟩) m w2 tb ⟨rfl, fun i hi => hs2.cell hi⟩ (fun x hx => by
          obtain ⟨i, hi, rfl⟩ := List.mem_map.1 hx
          have hi' : i < nx.length := by simpa using hi
          refine ⟨?_, tx_rng _ fun n hn => ?_⟩
          · have h1 := tx_len (keyR nx kd i)
            rw [keyR_len HWD.out.1 kd hi'] at h1
            have h2 := HWD.out.2.2.2.2
            omega
          · rcases List.mem_cons.1 hn with rfl | hn
            · have := hg i; omega
            · obtain ⟨s, _, rfl⟩ := List.mem_map.1 hn
              have := hg s; omega) (by rw [htl]; omega)
        rw [htl] at h1
        exact h1
      have HB2 : Hid (Below w.heap.size w w2) := HBW.out.trans (hb2.mono HBW.out.size)
      have HB2' : Hid (IRow w2 kb kd) := HIW.out.later hb2
      have HG : Hid (∀ s, kd.getD s 0 ≤ 2000) := hg
      clear hs2 hb2 hg HC
      go_wp2_with fail
      refine HC2.out.mono ?_
      rintro e w3 ⟨b3, l3, c3, rfl, hi3, hnu3, hb3, _⟩
      have hnk := num_keys HWD.out.1 HG.out hnu3
      have HR : Hid (NumOf ((List.range nx.length).map (keyR nx kd)) l3 c3) := hnk
      obtain ⟨hk3, hle⟩ := HKP.out.round HWD.out.1 HWD.out.2.1 hnk
      have HK3 : Hid (KndP K nx ou l3 c3) := hk3
      have HB3 : Hid (Below w.heap.size w w3) := HB2.out.trans (hb3.mono HB2.out.size)
      have HI3 : Hid (IRow w3 b3 l3) := hi3
      have HI3' : Hid (IRow w3 kb kd) := HB2'.out.later hb3
      clear hi3 hnu3 hb3 hnk hk3 HC2
      by_cases he : (c3 : Int) = (cnt : Int)
      · have HE : Hid (Kinds K nx ou kd cnt) := by
          have h1 := HR.out
          rw [show c3 = cnt by omega] at h1
          exact HKP.out.last HWD.out.1 HWD.out.2.2.1 (HM.out.2.trans HM.out.1) h1
        obtain rfl : c3 = cnt := by omega
        clear he hle
        go_wp2_with fail
        go_ret2
        refine ⟨kb, kd, c3, ?_, HI3'.out, HB3.out, HKP.out, fun _ => HE.out⟩
        rw [HM.out.1]; rfl
      · go_wp2_with fail
        go_roundw
        case rel => exact ⟨b3, l3, c3, rfl, rfl, HI3.out, HK3.out, HB3.out⟩
        case measure => simp [intOf]; omega
    · go_wp2_with fail
      go_ret2
      refine ⟨kb, kd, cnt, ?_, HIW.out, HBW.out, HKP.out, fun h => (by omega)⟩
      rw [HM.out.1]; rfl
end Go.Proofs.YthdeadmnicmgfaaDoor

/- What merged keeps in memory, and what it makes of the lists. -/
namespace Go.Proofs.YthdeadmnicmgfaaDoor
open Go.RowKit Go.Shelf Go.Maps
set_option linter.unusedVariables false
set_option linter.unusedSimpArgs false

theorem zip_drop {β : Type} {kd : List Nat} {l : List β} {k : Nat} (hk : k < kd.length) (hl : k < l.length) : (kd.zip l).drop k = (kd[k], l[k]) :: (kd.zip l).drop (k + 1) := by
  rw [List.drop_eq_getElem_cons (by simp; omega), List.getElem_zip]
/-- What is made of the first states. -/
structure MgP (nx : List (List Nat)) (ou kd : List Nat) (k : Nat) (nN : List (List Nat)) (nO : List Nat) : Prop where
  len : nN.length = nO.length
  few : nO.length ≤ k
  next : mrgN nx kd = nN ++ mrgG (fun row : List Nat => row.map (kd.getD · 0)) nO.length ((kd.zip nx).drop k)
  out : mrgO ou kd = nO ++ mrgG id nO.length ((kd.zip ou).drop k)
theorem MgP.zero (nx : List (List Nat)) (ou kd : List Nat) : MgP nx ou kd 0 [] [] := ⟨rfl, Nat.le_refl _, rfl, rfl⟩
theorem MgP.skip {nx : List (List Nat)} {ou kd : List Nat} {k : Nat} {nN : List (List Nat)} {nO : List Nat} (h : MgP nx ou kd k nN nO) (h1 : k < kd.length) (h2 : k < nx.length) (h3 : k < ou.length) (hlt : kd[k] < nO.length) : MgP nx ou kd (k + 1) nN nO := by
  refine ⟨h.len, by have := h.few; omega, ?_, ?_⟩
  · rw [h.next, zip_drop h1 h2, mrgG, if_pos hlt]
  · rw [h.out, zip_drop h1 h3, mrgG, if_pos hlt]
theorem MgP.put {nx : List (List Nat)} {ou kd : List Nat} {k : Nat} {nN : List (List Nat)} {nO : List Nat} (h : MgP nx ou kd k nN nO) (h1 : k < kd.length) (h2 : k < nx.length) (h3 : k < ou.length) (hlt : ¬ kd[k] < nO.length) : MgP nx ou kd (k + 1) (nN ++ [nx[k].map (kd.getD · 0)]) (nO ++ [ou[k]]) := by
  refine ⟨by simp [h.len], by have := h.few; simp; omega, ?_, ?_⟩
  · rw [h.next, zip_drop h1 h2, mrgG, if_neg hlt]; simp
  · rw [h.out, zip_drop h1 h3, mrgG, if_neg hlt]; simp
theorem MgP.done {nx : List (List Nat)} {ou kd : List Nat} {k : Nat} {nN : List (List Nat)} {nO : List Nat} (h : MgP nx ou kd k nN nO) (hk : kd.length ≤ k) : mrgN nx kd = nN ∧ mrgO ou kd = nO := by
  rw [h.next, h.out, List.drop_eq_nil_of_le (by simp; omega), List.drop_eq_nil_of_le (by simp; omega)]
  simp [mrgG]
/-- The machine that is being made. -/
structure LstA (B0 : Nat) (w : World) (K LB X : Nat) (v9 v10 : Value) (nN : List (List Nat)) (nO : List Nat) : Prop where
  blk : w.heap[LB]? = some (.cells #[.int .i64 (K : Int), v9, v10] 81)
  nxt : NxAt B0 w K X v9 nN
  out : w.ownsRow B0 56 1 v10 nO.length (uv nO)
theorem LstA.later {B0 : Nat} {w w' : World} {K LB X : Nat} {v9 v10 : Value} {nN : List (List Nat)} {nO : List Nat} (h : LstA B0 w K LB X v9 v10 nN nO) (hb : Below w.heap.size w w') : LstA B0 w' K LB X v9 v10 nN nO :=
  ⟨(hb.block LB (Array.getElem?_eq_some_iff.1 h.blk).1).trans h.blk, h.nxt.later hb, own_later5 h.out hb⟩
theorem LstA.up {B0 : Nat} {w : World} {K LB X X' : Nat} {v9 v10 : Value} {nN : List (List Nat)} {nO : List Nat} (h : LstA B0 w K LB X v9 v10 nN nO) (hX : X ≤ X') : LstA B0 w K LB X' v9 v10 nN nO := ⟨h.blk, h.nxt.up hX, h.out⟩
theorem LstA.own9 {B0 : Nat} {w : World} {K LB X : Nat} {v9 v10 : Value} {nN : List (List Nat)} {nO : List Nat} (h : LstA B0 w K LB X v9 v10 nN nO) {g : Nat} (hg : v9.ownBlock = some g) : ∃ cur, w.heap[g]? = some (.cells cur 35 (0, 0)) := by
  obtain ⟨bs, _, h2, _⟩ := h.nxt
  exact (own_lt h2 hg).2.2
theorem LstA.own10 {B0 : Nat} {w : World} {K LB X : Nat} {v9 v10 : Value} {nN : List (List Nat)} {nO : List Nat} (h : LstA B0 w K LB X v9 v10 nN nO) {g : Nat} (hg : v10.ownBlock = some g) : ∃ cur, w.heap[g]? = some (.cells cur 56 (0, 0)) := (own_lt h.out hg).2.2
/-- The row that is being filled turns. -/
theorem LstA.row {B0 : Nat} {w w' : World} {K LB R : Nat} {v9 v10 : Value} {nN : List (List Nat)} {nO : List Nat} {r : List Nat} (h : LstA B0 w K LB R v9 v10 nN nO) (hR : IRow w R r) (hg : w.grownBy w' (some R)) : LstA B0 w' K LB R v9 v10 nN nO := by
  refine ⟨(hg.block LB (Array.getElem?_eq_some_iff.1 h.blk).1 (fun e => ne_ty h.blk hR (by decide) (Option.some.inj e))).trans h.blk, h.nxt.kept hg (fun e => ?_) (fun b q hb hlt e => by omega), h.out.kept hg (.inr fun e => ?_)⟩
  · obtain ⟨cur, hc⟩ := h.own9 e; exact ne_ty hc hR (by decide) rfl
  · obtain ⟨cur, hc⟩ := h.own10 e; exact ne_ty hc hR (by decide) rfl
/-- What stands in the machine's block is still there behind an append. -/
theorem LstA.blk9 {B0 : Nat} {w w' : World} {K LB X : Nat} {v9 v10 : Value} {nN : List (List Nat)} {nO : List Nat} (h : LstA B0 w K LB X v9 v10 nN nO) (hg : w.grownBy w' v9.ownBlock) : w'.heap[LB]? = some (.cells #[.int .i64 (K : Int), v9, v10] 81) := by
  refine (hg.block LB (Array.getElem?_eq_some_iff.1 h.blk).1 (fun e => ?_)).trans h.blk
  obtain ⟨cur, hc⟩ := h.own9 e.symm; exact ne_ty hc h.blk (by decide) rfl
theorem LstA.blk10 {B0 : Nat} {w w' : World} {K LB X : Nat} {v9 v10 : Value} {nN : List (List Nat)} {nO : List Nat} (h : LstA B0 w K LB X v9 v10 nN nO) (hg : w.grownBy w' v10.ownBlock) : w'.heap[LB]? = some (.cells #[.int .i64 (K : Int), v9, v10] 81) := by
  refine (hg.block LB (Array.getElem?_eq_some_iff.1 h.blk).1 (fun e => ?_)).trans h.blk
  obtain ⟨cur, hc⟩ := h.own10 e.symm; exact ne_ty hc h.blk (by decide) rfl
theorem LstA.putN {B0 : Nat} {w w' : World} {K LB X X' R : Nat} {v9 v10 v' : Value} {nN : List (List Nat)} {nO : List Nat} {F : List Nat} {bs : List Nat} (h : LstA B0 w K LB X v9 v10 nN nO) (h1 : bs.length = nN.length) (h2 : w.ownsRow B0 35 1 v9 nN.length (bs.map (rowV K))) (h3 : ∀ (i b : Nat) (r : List Nat), bs[i]? = some b → nN[i]? = some r → IRow w b r ∧ b < X) (hX : X ≤ X') (hR : IRow w R F) (hRX : R < X') (hg : w.grownBy w' v9.ownBlock)
    (ho : w'.ownsRow B0 35 1 v' (nN.length + 1) (bs.map (rowV K) ++ [rowV K R])) : LstA B0 (w'.setCell ⟨LB, 1, none⟩ v') K LB X' v' v10 (nN ++ [F]) nO := by
  have hb := h.blk9 hg
  have hn := nx_snoc h1 h2 h3 hX hR hRX hg ho
  have hg2 := grown_cell w' LB 1 v'
  refine ⟨?_, hn.kept hg2 (fun e => ?_) (fun b r hbr _ e => ne_ty hbr hb (by decide) e), ?_⟩
  · rw [heap_setCell_same w' LB 1 _ _ _ hb]; rfl
  · obtain ⟨_, _, cur, hc⟩ := own_lt ho e
    exact ne_ty hc hb (by decide) rfl
  · have ho2 : w'.ownsRow B0 56 1 v10 nO.length (uv nO) := h.out.kept hg (by
      cases hx : v10.ownBlock with
      | none => exact .inl rfl
      | some g =>
        refine .inr fun e => ?_
        obtain ⟨c1, hc1⟩ := h.own10 hx
        obtain ⟨c2, hc2⟩ := h.own9 e.symm
        exact ne_ty hc1 hc2 (by decide) rfl)
    refine ho2.kept hg2 (.inr fun e => ?_)
    obtain ⟨_, _, cur, hc⟩ := own_lt ho2 e
    exact ne_ty hc hb (by decide) rfl
theorem LstA.putO {B0 : Nat} {w w' : World} {K LB X : Nat} {v9 v10 v' : Value} {nN : List (List Nat)} {nO : List Nat} {y : Nat} (h : LstA B0 w K LB X v9 v10 nN nO) (hg : w.grownBy w' v10.ownBlock)
    (ho : w'.ownsRow B0 56 1 v' (nO.length + 1) (uv nO ++ [.int .u64 (y : Int)])) : LstA B0 (w'.setCell ⟨LB, 2, none⟩ v') K LB X v9 v' nN (nO ++ [y]) := by
  have hb := h.blk10 hg
  have hg2 := grown_cell w' LB 2 v'
  have hn : NxAt B0 w' K X v9 nN := by
    obtain ⟨bs, h1, h2, h3⟩ := h.nxt
    refine ⟨bs, h1, h2.kept hg ?_, fun i b r hi hr => ⟨?_, (h3 i b r hi hr).2⟩⟩
    · cases hx : v9.ownBlock with
      | none => exact .inl rfl
      | some g =>
        refine .inr fun e => ?_
        obtain ⟨c1, hc1⟩ := h.own9 hx
        obtain ⟨c2, hc2⟩ := h.own10 e.symm
        exact ne_ty hc1 hc2 (by decide) rfl
    · have hbb := (h3 i b r hi hr).1
      refine (hg.block b hbb.lt (fun e => ?_)).trans hbb
      obtain ⟨cur, hc⟩ := h.own10 e.symm
      exact ne_ty hc hbb (by decide) rfl
  refine ⟨?_, hn.kept hg2 (fun e => ?_) (fun b r hbr _ e => ne_ty hbr hb (by decide) e), ?_⟩
  · rw [heap_setCell_same w' LB 2 _ _ _ hb]; rfl
  · obtain ⟨bs, _, h2, _⟩ := hn
    obtain ⟨_, _, cur, hc⟩ := own_lt h2 e
    exact ne_ty hc hb (by decide) rfl
  · have ho2 : w'.ownsRow B0 56 1 v' (nO ++ [y]).length (uv (nO ++ [y])) := by
      rw [List.length_append]
      simpa [uv] using ho
    refine ho2.kept hg2 (.inr fun e => ?_)
    obtain ⟨_, _, cur, hc⟩ := own_lt ho2 e
    exact ne_ty hc hb (by decide) rfl
end Go.Proofs.YthdeadmnicmgfaaDoor
