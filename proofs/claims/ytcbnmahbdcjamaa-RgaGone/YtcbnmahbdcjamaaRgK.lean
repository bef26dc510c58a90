/- The walks of All, Alive, Has, Ahead, At. -/
import Derived.Test.YtcbnmahbdcjamaaRgJ
namespace Go.Proofs.Ytcbnmahbdcjamaa
open Go.RowKit Go.Shelf Go.Maps Go.Sort
set_option linter.unusedVariables false
set_option linter.unusedSimpArgs false

set_option maxHeartbeats 2000000 in
theorem all_rga {P B Q M : Nat} {ve vo vi : Value} {O : List Opn} (hl : O.length ≤ 99000) (w : World) (h : TxAt w P B ve vo vi Q M O) :
    Calls Try.prog 17 #[.pointer (some ⟨P, 0, none⟩)] w fun e w' => ∃ v, e = .returned v ∧ w'.ownsRow w.heap.size 32 2 v (idsOf (els O)).length (flatE (idsOf (els O))) ∧ Below w.heap.size w w' := by
  obtain ⟨i0, ji, jz0, jz1, jz2⟩ := info_parts info_ID
  have HJ : Hid (Try.prog.info? 32 = some i0 ∧ i0.zero = some (.agg #[.int .i64 0, .int .i64 0]) ∧ i0.size = 2 ∧ i0.bytes = 16) := ⟨ji, jz0, jz1, jz2⟩
  have hN : (els O).length ≤ 99000 := by rw [els_len]; exact Nat.le_trans (seqE_len O) hl
  obtain ⟨sa, cap, rfl, hcap, _⟩ := own_sl h.elm
  have HT : Hid (∀ w', Below w.heap.size w w' → w'.cell? ⟨P, 0, none⟩ = some (.slice sa (els O).length cap) ∧ ∀ k, k < (els O).length → ∃ g, sa = some ⟨g, 0, none⟩ ∧ w'.cell? ⟨g, k * 4, none⟩ = some (.int .i64 ((els O).getD k (0, 0, 0, false)).1) ∧ w'.cell? ⟨g, k * 4 + 1, none⟩ = some (.int .i64 ((els O).getD k (0, 0, 0, false)).2.1) ∧ w'.cell? ⟨g, k * 4 + 2, none⟩ = some (.int .i32 ((els O).getD k (0, 0, 0, false)).2.2.1) ∧ w'.cell? ⟨g, k * 4 + 3, none⟩ = some (.bool ((els O).getD k (0, 0, 0, false)).2.2.2)) := by
    intro w' hb
    have h' := h.later hb
    refine ⟨h'.cells.1, fun k hk => ?_⟩
    obtain ⟨g, cap', hv, _, _, c0, c1, c2, c3, _⟩ := own_el h'.elm k hk
    cases hv
    exact ⟨g, rfl, c0, c1, c2, c3⟩
  obtain ⟨wm, hrun, hown, hgrow⟩ := run_makeSlice_owned (P := Try.prog) (w := w) w.heap.size 39 32 i0 _ 2 Try.underlying39 ji jz0 jz1 .i64 .i64 (els O).length (by omega) (by rw [jz2]; omega) (by unfold maxLen; omega) (Nat.le_refl _)
  have hbm : Below w.heap.size w wm := (Below.refl _ w).grown hgrow (Nat.le_refl _) (fun k e => by cases e)
  have HST : Hid (∀ k, k < (els O).length → idsOf ((els O).take (k + 1)) = idsOf ((els O).take k) ++ [(((els O).getD k (0, 0, 0, false)).1, ((els O).getD k (0, 0, 0, false)).2.1)]) := fun k hk => (vis_snoc (els O) k hk).2.2
  have HLE : Hid (∀ k, k ≤ (els O).length → (idsOf ((els O).take k)).length = k) := fun k hk => by
    rw [(vis_len ((els O).take k)).2.2, List.length_take]
    omega
  have hal : idsOf ((els O).take (els O).length) = idsOf (els O) := by rw [List.take_length]
  have HAL : Hid (idsOf ((els O).take (els O).length) = idsOf (els O)) := hal
  clear hal
  have c0 := (HT.out w (Below.refl _ w)).1
  have d0 := (HT.out wm hbm).1
  have HA0 : Hid (wm.ownsRow w.heap.size 32 2 (.slice (some ⟨w.heap.size, 0, none⟩) 0 (els O).length) 0 (flatE (idsOf ((els O).take 0))) ∧ Below w.heap.size w wm) := ⟨hown, hbm⟩
  have HN9 : Hid ((els O).length ≤ 99000) := hN
  have HX : Hid (∀ l : List (Int × Int), ∀ p : Int × Int, flatE (l ++ [p]) = flatE l ++ [.int .i64 p.1, .int .i64 p.2]) := fun l p => by simp [flatE, encE]
  obtain ⟨N, hNe⟩ : ∃ N, N = (els O).length := ⟨_, rfl⟩
  rw [← hNe] at HT HST HAL HLE c0 d0 HA0 hcap hrun HN9
  generalize els O = E at *
  clear h hown hgrow hbm hNe hl hN ji jz0 jz1 jz2
  go_enter Try.func17, Try.ntmps17
  go_wp2
  go_loopw [17, 3] (fun x17 x3 wr => ∃ (k : Nat) (a : Option Addr) (c : Nat), x17 = .int .i64 (k : Int) ∧ x3 = .slice a k c ∧ k ≤ N ∧ wr.ownsRow w.heap.size 32 2 (.slice a k c) k (flatE (idsOf (E.take k))) ∧ Below w.heap.size w wr) (fun x17 _ _ => N - (RowKit.intOf x17).toNat)
  case atStart => exact ⟨0, _, _, rfl, rfl, by omega, HA0.out.1, HA0.out.2⟩
  case round =>
    obtain ⟨k, a, c, hx, hx3, hk, ho, hb⟩ := hrel
    subst hx hx3
    have HO : Hid (wr.ownsRow w.heap.size 32 2 (.slice a k c) k (flatE (idsOf (E.take k)))) := ho
    have HB : Hid (Below w.heap.size w wr) := hb
    clear ho hb c0 d0 HA0 hrun
    by_cases hlt : k < N
    · obtain ⟨g, hsa, d0, d1, d2, d3⟩ := (HT.out wr HB.out).2 k hlt
      subst hsa
      have hst := HST.out k hlt
      generalize E.getD k (0, 0, 0, false) = X at d0 d1 d2 d3 hst
      obtain ⟨x1, x2, x3, x4⟩ := X
      obtain ⟨W1, hW1⟩ : ∃ W1, W1 = wr.alloc (.cells #[.int .i64 x1, .int .i64 x2, .int .i32 x3, .bool x4] 104) := ⟨_, rfl⟩
      have hb1 : Below wr.heap.size wr W1 := by rw [hW1]; exact (gw_alloc wr _).below
      have hNb : W1.heap[wr.heap.size]? = some (.cells #[.int .i64 x1, .int .i64 x2, .int .i32 x3, .bool x4] 104) := by rw [hW1]; exact heap_alloc_new wr _
      have n0 : W1.cell? ⟨wr.heap.size, 0, none⟩ = some (.int .i64 x1) := cell_of_row W1 _ 0 _ _ _ hNb
      have n1 : W1.cell? ⟨wr.heap.size, 1, none⟩ = some (.int .i64 x2) := cell_of_row W1 _ 1 _ _ _ hNb
      have HOW : Hid (∀ V, Below W1.heap.size W1 V → V.ownsRow w.heap.size 32 2 (.slice a k c) k (flatE (idsOf (E.take k)))) := fun V hV => own_laterX HO.out (hb1.trans (hV.mono hb1.size))
      have HBS : Hid (w.heap.size ≤ W1.heap.size) := Nat.le_trans HB.out.size hb1.size
      have HFIN : Hid (∀ (V w' : World) (g c1 : Nat), Below W1.heap.size W1 V → w'.ownsRow w.heap.size 32 2 (.slice (some ⟨g, 0, none⟩) (k + 1) c1) (k + 1) (flatE (idsOf (E.take k)) ++ [.int .i64 x1, .int .i64 x2]) → V.grownBy w' (Value.slice a k c).ownBlock → w'.ownsRow w.heap.size 32 2 (.slice (some ⟨g, 0, none⟩) (k + 1) c1) (k + 1) (flatE (idsOf (E.take (k + 1)))) ∧ Below w.heap.size w w') := by
        intro V w' g c1 hV q1 q2
        refine ⟨by rw [hst, HX.out]; exact q1, ?_⟩
        have hall := HB.out.trans ((hb1.trans (hV.mono hb1.size)).mono HB.out.size)
        exact hall.grown q2 hall.size (fun j e => (own_cur (HOW.out V hV) e).1)
      obtain ⟨H, hH⟩ : ∃ H, H = wr.heap.size := ⟨_, rfl⟩
      rw [← hH] at n0 n1
      have HK : Hid (k ≤ 99000) := Nat.le_trans hk HN9.out
      generalize flatE (idsOf (E.take k)) = fl at *
      clear hst hb1 hNb HT HST HO HLE
      go_upto_region 5 with fail
      rw [← hH, ← hW1]
      clear hH hW1
      go_wp2_with (at_builtin; refine wpList_append_lies _ rfl _ _ 39 rfl w.heap.size 32 i0 _ 2 16 Try.underlying39 HJ.out.1 HJ.out.2.1 HJ.out.2.2.1 HJ.out.2.2.2 rfl (by decide) (.slice a k c) k fl rfl (HOW.out _ ((Below.refl _ W1).alloc (Nat.le_refl _) _)) ⟨W1.heap.size, 0, none⟩ 1 1 ([.int .i64 x1, .int .i64 x2]) rfl rfl (World.news_of_block (cs := #[.int .i64 x1, .int .i64 x2]) (t := 32) (fr := (0, 0)) (heap_alloc_new W1 _)) (by simp [Value.oneCell']) (by decide) (by have := HK.out; unfold maxLen; omega) (by have := HK.out; omega) (by have := HBS.out; simp; omega) _ rfl (fun g c1 w' q1 q2 q3 _ => ?_); have HZ : Hid _ := HFIN.out _ w' g c1 ((Below.refl _ W1).alloc (Nat.le_refl _) _) q1 q2; clear q1 q2 q3)
      go_roundw
      case rel => exact ⟨k + 1, _, _, (by go_num), rfl, (by omega), HZ.out.1, HZ.out.2⟩
      case measure => simp [RowKit.intOf]; omega
    · obtain rfl : k = N := by omega
      have HF : Hid (wr.ownsRow w.heap.size 32 2 (.slice a k c) (idsOf E).length (flatE (idsOf E))) := by
        have h1 := HLE.out k (Nat.le_refl _)
        have h2 := HO.out
        rw [HAL.out] at h1 h2
        rw [h1]; exact h2
      clear HT HST HAL HLE HO
      go_wp2
      go_ret
      exact ⟨_, rfl, HF.out, HB.out⟩
/-- Is there such an element, and is it alive? -/
def aliveE (O : List Opn) (i : Int × Int) : Bool := hasE O i && !deadE O i
theorem seen_alive (O : List Opn) (hv : Rv O) (i : Int × Int) : seenB (marks O) (fIx O i) = aliveE O i := by
  unfold aliveE
  cases h : hasE O i
  · rw [fIx_none O i h]; rfl
  · obtain ⟨n, h1, h2, h3⟩ := fIx_some O hv i h
    rw [h1]
    obtain ⟨e, he, hid⟩ := seq_eq h3
    unfold seenB marks
    have : ((seqE O).map fun e => !deadE O e.id).getD n false = !deadE O i := by
      rw [List.getD_eq_getElem?_getD, List.getElem?_map, he]
      simp [hid]
    show (decide ((0 : Int) ≤ (n : Int)) && ((seqE O).map fun e => !deadE O e.id).getD ((n : Int)).toNat false) = (true && !deadE O i)
    rw [Int.toNat_natCast, this]
    simp
set_option maxHeartbeats 1000000 in
theorem alive_rga {P B Q M : Nat} {ve vo vi : Value} {O : List Opn} (hv : Rv O) (hl : O.length ≤ 99000) (i : Int × Int) (hi : (Lit.int .i64 i.2).wf = true) (w : World) (h : TxAt w P B ve vo vi Q M O) :
    Calls Try.prog 23 #[.pointer (some ⟨P, 0, none⟩), .agg #[.int .i64 i.1, .int .i64 i.2]] w fun e w' => e = .returned (.bool (aliveE O i)) ∧ Gw w w' := by
  obtain ⟨i1, i2⟩ := i
  rw [← seen_alive O hv]
  have mixed : Try.prog.follows .mixedOrders = true := by kernel_rfl
  obtain ⟨W1, hW1⟩ : ∃ W1, W1 = w.alloc (.cells #[.int .i64 i1, .int .i64 i2] 32) := ⟨_, rfl⟩
  have hg1 : Gw w W1 := by rw [hW1]; exact gw_alloc w _
  have hN : W1.heap[w.heap.size]? = some (.cells #[.int .i64 i1, .int .i64 i2] 32) := by rw [hW1]; exact heap_alloc_new w _
  obtain ⟨n0, n1⟩ := box2 hN
  have h1 := h.later hg1.below
  have g0 := cell_g n0
  have g1 := cell_g n1
  have c1 := cell_g h1.cells.2.1
  have hgr : ∀ n os, Gw w (grow (W1.drewN n) os) := fun n os => hg1.trans ⟨n, os, rfl⟩
  have HFN : Hid (∀ n os, Calls Try.prog 57 #[.pointer (some ⟨P, 0, none⟩), .agg #[.int .i64 i1, .int .i64 i2]] (grow (W1.drewN n) os) fun e w' => e = .returned (.int .i64 (fIx O (i1, i2))) ∧ ∃ q os', w' = grow ((grow (W1.drewN n) os).drewN q) os') := fun n os => find_rga hv (by omega) (i1, i2) hi _ (h.later (hgr n os).below)
  have HSN : Hid (∀ n os, Calls Try.prog 66 #[.pointer (some ⟨Q, 0, none⟩), .int .i64 (fIx O (i1, i2))] (grow (W1.drewN n) os) fun e w' => e = .returned (.bool (seenB (marks O) (fIx O (i1, i2)))) ∧ w' = grow (W1.drewN n) os) := fun n os => seen_any Q B vi (marks O) _ _ (h.later (hgr n os).below).idx (by rw [marks_len]; have := seqE_len O; omega)
  have HGR : Hid (∀ n os, Gw w (grow (W1.drewN n) os)) := hgr
  show Calls _ _ _ _ fun e w' => e = .returned (.bool (seenB (marks O) (fIx O (i1, i2)))) ∧ Gw w w'
  generalize seenB (marks O) (fIx O (i1, i2)) = z at *
  generalize fIx O (i1, i2) = R at *
  obtain ⟨N, hNe⟩ : ∃ N, N = w.heap.size := ⟨_, rfl⟩
  rw [← hNe] at g0 g1 n0 n1
  clear h h1 hv hl hi hg1 hN hgr
  go_enter Try.func23, Try.ntmps23
  go_upto_region 1 with fail
  rw [← hNe, ← hW1]
  clear hNe hW1
  go_quiet_grown (first
    | (go_at_call 57; refine Calls.grown_of (HFN.out _ _))
    | (go_at_call 66; refine Calls.grown_of ((HSN.out _ _).mono (fun e w' hh => ⟨hh.1, 0, #[], by rw [hh.2, grow_empty]; rfl⟩))))
  go_wp2
  go_ret
  exact ⟨rfl, HGR.out _ _⟩
end Go.Proofs.Ytcbnmahbdcjamaa
