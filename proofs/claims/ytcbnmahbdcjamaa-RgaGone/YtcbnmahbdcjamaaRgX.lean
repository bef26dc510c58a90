/- The walk of Vector. -/
import Derived.Test.YtcbnmahbdcjamaaRgW
namespace Go.Proofs.Ytcbnmahbdcjamaa
open Go.RowKit Go.Shelf Go.Maps Go.Sort
set_option linter.unusedVariables false
set_option linter.unusedSimpArgs false

theorem own_ints {W : World} {B : Nat} {v : Value} {xs : List Int} (h : W.ownsRow B 3 1 v xs.length (xs.map encZ)) : ∃ a cap, v = .slice a xs.length cap ∧ ∀ k, k < xs.length → ∃ g, a = some ⟨g, 0, none⟩ ∧ W.cell? ⟨g, k, none⟩ = some (.int .i64 (xs.getD k 0)) := by
  rcases h.2 with ⟨rfl, h0⟩ | ⟨g, cap, cur, rfl, hb, hg, hn, hm, hs, ht⟩
  · exact ⟨none, 0, by rw [h0], fun k hk => by omega⟩
  · refine ⟨_, cap, rfl, fun k hk => ⟨g, rfl, ?_⟩⟩
    rw [cell_of_row W g _ _ _ _ hg]
    have h2 : (cur.toList.take (xs.length * 1))[k]? = (xs.map encZ)[k]? := by rw [ht]
    rw [List.getElem?_take, if_pos (by omega), List.getElem?_map, List.getElem?_eq_getElem hk] at h2
    have h3 : cur[k]? = some (encZ xs[k]) := by simpa using h2
    rw [h3]
    simp [encZ, hk]
theorem info_Ent : (Try.prog.info? 107).map (fun i => (i.zero, i.size, i.bytes)) = some (some (.agg #[.int .i64 0, .int .i64 0]), 2, 16) := by kernel_rfl
set_option maxHeartbeats 4000000 in
theorem vector_rga {P B Q M : Nat} {ve vo vi : Value} {O : List Opn} (hv : Rv O) (hl : O.length ≤ 99000) (w : World) (h : TxAt w P B ve vo vi Q M O) :
    Calls Try.prog 19 #[.pointer (some ⟨P, 0, none⟩)] w fun e w' => ∃ v, e = .returned v ∧ w'.ownsRow w.heap.size 107 2 v (vecO O).length (flatE (vecO O)) ∧ Below w.heap.size w w' := by
  obtain ⟨i0, ji, jz0, jz1, jz2⟩ := info_parts info_Ent
  have HJ : Hid (Try.prog.info? 107 = some i0 ∧ i0.zero = some (.agg #[.int .i64 0, .int .i64 0]) ∧ i0.size = 2 ∧ i0.bytes = 16) := ⟨ji, jz0, jz1, jz2⟩
  obtain ⟨S, hS⟩ : ∃ S, S = Maps.size (mD O) := ⟨_, rfl⟩
  have hSn : S ≤ 99000 := by rw [hS]; exact Nat.le_trans h.map.size_le hl
  have hlen := h.map.len Try.underlying91 3
  rw [← hS] at hlen
  obtain ⟨wm, hrun, hown, hgrow⟩ := run_makeSlice_owned (P := Try.prog) (w := w) w.heap.size 42 107 i0 _ 2 Try.underlying42 ji jz0 jz1 .i64 .i64 S (by omega) (by rw [jz2]; omega) (by unfold maxLen; omega) (Nat.le_refl _)
  have hbm : Below w.heap.size w wm := (Below.refl _ w).grown hgrow (Nat.le_refl _) (fun k e => by cases e)
  have c3 := h.cells.2.2.2.1
  have m3 := (h.later hbm).cells.2.2.2.1
  have HKY : Hid (Calls Try.prog 65 #[.map (some M)] wm fun e w' => e = .returned (.func (.func 112) #[] #[.pointer (some ⟨wm.heap.size, 0, none⟩)]) ∧ w' = wm.alloc (.cells #[.map (some M)] 91)) := keys_rga (some M) wm
  have HSD : Hid (Calls Try.prog 64 #[.func (.func 112) #[] #[.pointer (some ⟨wm.heap.size, 0, none⟩)]] (wm.alloc (.cells #[.map (some M)] 91)) fun e w' => ∃ (a : Option Addr) (c : Nat) (au : List Int), e = .returned (.slice a au.length c) ∧ au.map (fun a => (a, (lastO O a).s)) = vecO O ∧ (∀ b ∈ au, (Lit.int .i64 b).wf = true) ∧ Below w.heap.size w w' ∧ w'.ownsRow w.heap.size 107 2 (.slice (some ⟨w.heap.size, 0, none⟩) 0 S) 0 [] ∧ w'.ownsRow w.heap.size 3 1 (.slice a au.length c) au.length (au.map encZ)) := by
    have hm := (h.later hbm).map
    obtain ⟨k1, k2⟩ := keys_facts hm
    refine (sorted_rga wm hm (by rw [← hS]; omega)).mono fun e w' hh => ?_
    obtain ⟨v, ss, rfl, q1, q2, q3⟩ := hh
    obtain ⟨s1, s2⟩ := sorted_strict ss (q1.nodup_iff.2 k1)
    have hmem : ∀ x, x ∈ ss.mergeSort leI ↔ ∃ o ∈ O, o.a = x := fun x => by rw [s2 x, q1.mem_iff, k2 x, mD_has]
    have hsl : (ss.mergeSort leI).length = ss.length := (List.mergeSort_perm ss leI).length_eq
    rw [← hsl] at q2
    obtain ⟨a, c, rfl, q4⟩ := own_ints q2
    have hgA : Below wm.heap.size wm (wm.alloc (.cells #[.map (some M)] 91)) := (gw_alloc wm _).below
    have hmw : Below wm.heap.size wm w' := hgA.trans (q3.mono hgA.size)
    refine ⟨a, c, ss.mergeSort leI, rfl, vec_sorted hv _ s1 hmem, fun b hb => ?_, hbm.trans (hmw.mono hbm.size), own_laterX hown hmw, ownsRow_base_a q2 (Nat.le_trans hbm.size hgA.size)⟩
    · obtain ⟨o, ho, rfl⟩ := (hmem b).1 hb
      exact (wf_a (rv_op hv o ho)).1
  have HTL : Hid (∀ wr, Below w.heap.size w wr → ∀ a, (Lit.int .i64 a).wf = true → wr.cell? ⟨P, 3, none⟩ = some (.map (some M)) ∧ (Instr.lookup 91 (.map (some M)) (.int .i64 a) false).run Try.prog wr = .ok (.agg #[.int .i64 (lastO O a).c, .int .i64 (lastO O a).a, .int .i64 (lastO O a).s, .bool (lastO O a).ins, .int .i64 (lastO O a).rc, .int .i64 (lastO O a).ra, .int .i32 (lastO O a).ch]) wr) := fun wr hb a ha => ⟨(h.later hb).cells.2.2.2.1, TxAt.look (h.later hb) a ha⟩
  have HVL : Hid ((vecO O).length ≤ 99000) := Nat.le_trans (vecO_len O) hl
  have hfs := field_seq
  generalize vecO O = VO at *
  generalize lastO O = LO at *
  clear h hown hgrow hbm hl hv ji jz0 jz1 jz2 hS
  go_enter Try.func19, Try.ntmps19
  go_upto_region 2 with fail
  have HSZ : Hid (∀ p : Int × Int, ∀ l : List (Int × Int), flatE (l ++ [p]) = flatE l ++ [.int .i64 p.1, .int .i64 p.2]) := fun p l => by simp [flatE, encE]
  clear c3 hrun
  obtain ⟨Nm, hNm⟩ : ∃ Nm, Nm = wm.heap.size := ⟨_, rfl⟩
  obtain ⟨WK, hWK⟩ : ∃ WK, WK = wm.alloc (.cells #[.map (some M)] 91) := ⟨_, rfl⟩
  rw [← hNm, ← hWK] at HKY HSD
  clear hNm hWK hlen
  go_wp2_with (first
    | (go_at_call 65; refine HKY.out.mono ?_; rintro e w' ⟨rfl, hw⟩; have hw := hw.symm; subst hw)
    | (go_at_call 64; refine HSD.out.mono ?_; rintro e w2 ⟨a, c, au, rfl, hau, hwf, hb2, ho2, hcl⟩; have HAU : Hid (au.map (fun a => (a, (LO a).s)) = VO) := hau; have HWF : Hid (∀ b ∈ au, (Lit.int .i64 b).wf = true) := hwf; have HA0 : Hid (w2.ownsRow w.heap.size 107 2 (.slice (some ⟨w.heap.size, 0, none⟩) 0 S) 0 [] ∧ Below w.heap.size w w2) := ⟨ho2, hb2⟩; have HCL : Hid (w2.ownsRow w.heap.size 3 1 (.slice a au.length c) au.length (au.map encZ)) := hcl; clear hau hwf hb2 ho2 hcl))
  have HLE : Hid (au.length = VO.length) := by
    have := congrArg List.length HAU.out
    rw [List.length_map] at this
    exact this
  have HST : Hid (∀ k, k < au.length → (au.take (k + 1)).map (fun a => (a, (LO a).s)) = (au.take k).map (fun a => (a, (LO a).s)) ++ [(au.getD k 0, (LO (au.getD k 0)).s)]) := fun k hk => by
    rw [List.take_add_one, List.getElem?_eq_getElem hk, List.map_append]
    simp [hk]
  have HMB : Hid (∀ k, k < au.length → au.getD k 0 ∈ au) := fun k hk => by
    have : au.getD k 0 = au[k] := by simp [hk]
    rw [this]; exact List.getElem_mem hk
  clear m3 HKY HSD
  obtain ⟨N, hNe⟩ : ∃ N, N = au.length := ⟨_, rfl⟩
  have hN9 : N ≤ 99000 := by rw [hNe, HLE.out]; exact HVL.out
  have HRD : Hid (∀ V : World, V.ownsRow w.heap.size 3 1 (.slice a au.length c) au.length (au.map encZ) → ∀ k, k < au.length → ∃ g, a = some ⟨g, 0, none⟩ ∧ V.cell? ⟨g, k, none⟩ = some (.int .i64 (au.getD k 0))) := fun V hV k hk => by
    obtain ⟨a', c', he, hc⟩ := own_ints hV
    cases he
    exact hc k hk
  rw [← hNe] at HCL HST HMB HRD
  have HNA : Hid (N = au.length) := hNe
  try rw [← hNe]
  clear hNe
  go_loopw [19, 3] (fun x19 x3 wr => ∃ (k : Nat) (b : Option Addr) (d : Nat), x19 = .int .i64 (k : Int) ∧ x3 = .slice b k d ∧ k ≤ N ∧ wr.ownsRow w.heap.size 107 2 (.slice b k d) k (flatE ((au.take k).map (fun a => (a, (LO a).s)))) ∧ Below w.heap.size w wr ∧ wr.ownsRow w.heap.size 3 1 (.slice a N c) N (au.map encZ)) (fun x19 _ _ => N - (RowKit.intOf x19).toNat)
  case atStart => exact ⟨0, _, _, rfl, rfl, by omega, HA0.out.1, HA0.out.2, HCL.out⟩
  case round =>
    obtain ⟨k, b, d, hx, hx3, hk, ho, hb, hb2⟩ := hrel
    subst hx hx3
    have HO : Hid (wr.ownsRow w.heap.size 107 2 (.slice b k d) k (flatE ((au.take k).map (fun a => (a, (LO a).s))))) := ho
    have HB : Hid (Below w.heap.size w wr ∧ wr.ownsRow w.heap.size 3 1 (.slice a N c) N (au.map encZ)) := ⟨hb, hb2⟩
    clear ho hb hb2 HA0
    by_cases hlt : k < N
    · obtain ⟨g0, hsa, d0⟩ := HRD.out wr HB.out.2 k hlt
      subst hsa
      have hst := HST.out k hlt
      have hwf := HWF.out _ (HMB.out k hlt)
      generalize au.getD k 0 = X at d0 hst hwf
      obtain ⟨c3, hlk⟩ := HTL.out wr HB.out.1 X hwf
      have HBS : Hid (w.heap.size ≤ wr.heap.size) := HB.out.1.size
      have HFIN : Hid (∀ (V w' : World) (g c1 : Nat), Below wr.heap.size wr V → w'.ownsRow w.heap.size 107 2 (.slice (some ⟨g, 0, none⟩) (k + 1) c1) (k + 1) (flatE ((au.take k).map (fun a => (a, (LO a).s))) ++ [.int .i64 X, .int .i64 (LO X).s]) → V.grownBy w' (Value.slice b k d).ownBlock → w'.ownsRow w.heap.size 107 2 (.slice (some ⟨g, 0, none⟩) (k + 1) c1) (k + 1) (flatE ((au.take (k + 1)).map (fun a => (a, (LO a).s)))) ∧ Below w.heap.size w w' ∧ w'.ownsRow w.heap.size 3 1 (.slice (some ⟨g0, 0, none⟩) N c) N (au.map encZ)) := by
        intro V w' g c1 hV q1 q2
        refine ⟨by rw [hst, HSZ.out]; exact q1, ?_, ?_⟩
        · have hall := HB.out.1.trans (hV.mono HB.out.1.size)
          exact hall.grown q2 hall.size (fun j e => (own_cur (own_laterX HO.out hV) e).1)
        · refine cg_own (cg_gb q2) (own_laterX HB.out.2 hV) (fun j hj e => ?_)
          obtain ⟨_, cu1, h1⟩ := own_cur (own_laterX HB.out.2 hV) hj
          obtain ⟨_, cu2, h2⟩ := own_cur (own_laterX HO.out hV) e
          exact ne_tyX h1 h2 (by decide) rfl
      have HOW : Hid (∀ V, Below wr.heap.size wr V → V.ownsRow w.heap.size 107 2 (.slice b k d) k (flatE ((au.take k).map (fun a => (a, (LO a).s))))) := fun V hV => own_laterX HO.out hV
      have HK : Hid (k ≤ 99000) := Nat.le_trans hk hN9
      generalize flatE ((au.take k).map (fun a => (a, (LO a).s))) = fl at *
      generalize LO X = Y at hlk HFIN
      obtain ⟨lc, la, ls, li, lrc, lra, lch⟩ := Y
      clear hst HTL HST HO HLE hwf HRD HCL
      go_wp2_with (at_builtin; refine wpList_append_lies _ rfl _ _ 42 rfl w.heap.size 107 i0 _ 2 16 Try.underlying42 HJ.out.1 HJ.out.2.1 HJ.out.2.2.1 HJ.out.2.2.2 rfl (by decide) (.slice b k d) k fl rfl (HOW.out _ ((Below.refl _ wr).alloc (Nat.le_refl _) _)) ⟨wr.heap.size, 0, none⟩ 1 1 ([.int .i64 X, .int .i64 ls]) rfl rfl (World.news_of_block (cs := #[.int .i64 X, .int .i64 ls]) (t := 107) (fr := (0, 0)) (heap_alloc_new wr _)) (by simp [Value.oneCell']) (by decide) (by have := HK.out; unfold maxLen; omega) (by have := HK.out; omega) (by have := HBS.out; simp; omega) _ rfl (fun g1 c1 w' q1 q2 q3 _ => ?_); have HZ : Hid _ := HFIN.out _ w' g1 c1 ((Below.refl _ wr).alloc (Nat.le_refl _) _) q1 q2; clear q1 q2 q3)
      go_roundw
      case rel => exact ⟨k + 1, _, _, (by go_num), rfl, (by omega), HZ.out.1, HZ.out.2.1, HZ.out.2.2⟩
      case measure => simp [RowKit.intOf]; omega
    · obtain rfl : k = N := by omega
      have HF : Hid (wr.ownsRow w.heap.size 107 2 (.slice b k d) VO.length (flatE VO)) := by
        have h2 := HO.out
        rw [HNA.out, List.take_length, HAU.out, HLE.out] at h2
        rw [HNA.out, HLE.out]
        exact h2
      clear HTL HST HLE HO HNA
      go_wp2
      go_ret
      exact ⟨_, rfl, HF.out, HB.out.1⟩
end Go.Proofs.Ytcbnmahbdcjamaa
