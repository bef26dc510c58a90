/- The walks of waiting, Start, takes, Step, Accepts and Matches. -/
import Derived.Test.YtjbhfonokgkalaaNfaG
import Derived.Laws.EntriesVeiled
namespace Go.Proofs.Ytjbhfonokgkalaa
open Go.RowKit
set_option linter.unusedVariables false
set_option linter.unusedSimpArgs false

theorem made_one (v : Value) (n : Nat) : (madeCells #[v] n).toList = List.replicate n v := by
  apply List.ext_getElem
  · simp [size_madeCells]
  · intro i h1 h2
    simp [madeCells, Nat.mod_one]
set_option maxHeartbeats 4000000 in
theorem waiting_any (B U : Nat) (w : World) (bm : Nat) (M : List St) (st en : Nat) (ats : List Nat) (a : Option Addr) (c : Nat) (hm : MAt B U w bm M st en) (hw : WfL M) (hsz : szS M ≤ 1000000) (hrd : Rd .i64 w a ats.length (toI ats)) (hin : ∀ t, t ∈ ats → t < M.length) (hal : ats.length ≤ 1000000000) :
    Calls Try.prog 54 #[.pointer (some ⟨bm, 0, none⟩), .slice a ats.length c] w fun e w' => ∃ v L, e = .returned v ∧ w'.ownsRow w.heap.size 3 1 v L.length (L.map nI) ∧ IsW M en ats L ∧ Below w.heap.size w w' := by
  have hml := szS_len M
  obtain ⟨n, hn⟩ : ∃ n, n = M.length := ⟨_, rfl⟩
  obtain ⟨na, hna⟩ : ∃ na, na = ats.length := ⟨_, rfl⟩
  have hni : (n : Int) ≤ 1000000 := by omega
  obtain ⟨i0, hi, hz0, hz1, hz2⟩ := info_parts info_b
  obtain ⟨CB, hCB⟩ : ∃ CB, CB = madeCells (Value.bool false).cells (n * 1) := ⟨_, rfl⟩
  have hmb : ∀ W : World, (Instr.makeSlice 27 (.int .i64 (n : Int)) (.int .i64 (n : Int))).run Try.prog W = .ok (.slice (some ⟨W.heap.size, 0, none⟩) n n) (W.alloc (.cells CB 4)) := by
    intro W
    have := run_make (P := Try.prog) W 27 4 i0 _ Try.underlying27 hi hz0 .i64 .i64 (n : Int) (n : Int) (by omega) (by omega) (by rw [hz2]; omega) (by omega)
    rw [show ((n : Int)).toNat = n by omega, hz1, ← hCB] at this
    exact this
  obtain ⟨g, c9, hc0⟩ : ∃ g c, w.cell? ⟨bm, 0, none⟩ = some (.slice g n c) := by
    obtain ⟨_, _, _, v, h3, xs, cv, nv, h4⟩ := hm
    obtain ⟨g, c, rfl⟩ := own_sl1 h4.1
    exact ⟨g, c, by rw [hn]; exact cell_of_row w bm 0 _ _ _ h3⟩
  have hmf : ∀ (fn : Fn) (first cap : Array Value) (w : World), (Instr.makeFunc fn first cap).run Try.prog w = .ok (.func fn first cap) w := fun _ _ _ _ => rfl
  obtain ⟨H, hH⟩ : ∃ H, H = w.heap.size := ⟨_, rfl⟩
  obtain ⟨W1, hW1⟩ : ∃ W1, W1 = w.alloc (.cells #[.pointer (some ⟨bm, 0, none⟩)] 44) := ⟨_, rfl⟩
  have HB1 : Hid (Below w.heap.size w W1) := by rw [hW1]; exact (Below.refl _ w).alloc (Nat.le_refl _) _
  have h1b : W1.heap[H]? = some (.cells #[.pointer (some ⟨bm, 0, none⟩)] 44) := by rw [hW1, hH]; exact heap_alloc_new w _
  have hz1' : W1.heap.size = H + 1 := by rw [hW1, hH]; simp
  have hc1 : W1.cell? ⟨bm, 0, none⟩ = some (.slice g n c9) := upC HB1.out hc0
  have hc2 : W1.cell? ⟨H, 0, none⟩ = some (.pointer (some ⟨bm, 0, none⟩)) := cell_of_row W1 H 0 _ _ _ h1b
  have HN : Hid (n = M.length ∧ na = ats.length ∧ na ≤ 1000000000 ∧ H = w.heap.size ∧ W1.heap.size = H + 1) := ⟨hn, hna, by omega, hH, hz1'⟩
  have HMM : Hid (MAt B U w bm M st en) := hm
  have HWF : Hid (WfL M ∧ szS M ≤ 1000000 ∧ ∀ t, t ∈ ats → t < M.length) := ⟨hw, hsz, hin⟩
  have HRD : Hid (Rd .i64 w a na (toI ats)) := by rw [hna]; exact hrd
  have HCB : Hid (CB.toList = List.replicate n (.bool false)) := by show CB.toList = _; rw [hCB, Nat.mul_one]; exact made_one _ _
  have H1B : Hid (W1.heap[H]? = some (.cells #[.pointer (some ⟨bm, 0, none⟩)] 44)) := h1b
  have hnai : (na : Int) ≤ 1000000000 := by omega
  rw [← hna]
  clear hi hz0 hz1 hz2 hn hna hCB hm hw hsz hrd hin hal hml h1b
  go_enter Try.func54, Try.ntmps54
  go_upto_region 1 with fail
  rw [← hH, ← hW1]
  clear hH hW1 hc0
  obtain ⟨W3, hW3⟩ : ∃ W3, W3 = ((W1.alloc (.cells CB 4)).alloc (.cells #[.slice (some ⟨H + 1, 0, none⟩) n n] 27)).alloc (.cells #[Value.nilFunc] 95) := ⟨_, rfl⟩
  have HB3 : Hid (Below W1.heap.size W1 W3) := by rw [hW3]; exact (((Below.refl _ W1).alloc (Nat.le_refl _) _).alloc (by simp) _).alloc (by simp; omega) _
  have q1 : W3.heap[H + 1]? = some (.cells CB 4) := by
    rw [hW3]
    have h1 := heap_alloc_new W1 (.cells CB 4)
    rw [hz1'] at h1
    exact (((Below.refl _ (W1.alloc (.cells CB 4))).alloc (Nat.le_refl _) (.cells #[.slice (some ⟨H + 1, 0, none⟩) n n] 27)).alloc (by simp) (.cells #[Value.nilFunc] 95)).block (H + 1) (by simp [hz1']) |>.trans h1
  have q2 : W3.heap[H + 1 + 1]? = some (.cells #[.slice (some ⟨H + 1, 0, none⟩) n n] 27) := by
    rw [hW3]
    have h1 := heap_alloc_new (W1.alloc (.cells CB 4)) (.cells #[.slice (some ⟨H + 1, 0, none⟩) n n] 27)
    rw [show (W1.alloc (.cells CB 4)).heap.size = H + 1 + 1 by simp [hz1']] at h1
    exact ((Below.refl _ ((W1.alloc (.cells CB 4)).alloc (.cells #[.slice (some ⟨H + 1, 0, none⟩) n n] 27))).alloc (Nat.le_refl _) (.cells #[Value.nilFunc] 95)).block (H + 1 + 1) (by simp [hz1']) |>.trans h1
  have q3 : W3.heap[H + 1 + 1 + 1]? = some (.cells #[Value.nilFunc] 95) := by
    rw [hW3]
    have h1 := heap_alloc_new ((W1.alloc (.cells CB 4)).alloc (.cells #[.slice (some ⟨H + 1, 0, none⟩) n n] 27)) (.cells #[Value.nilFunc] 95)
    rw [show ((W1.alloc (.cells CB 4)).alloc (.cells #[.slice (some ⟨H + 1, 0, none⟩) n n] 27)).heap.size = H + 1 + 1 + 1 by simp [hz1']] at h1
    exact h1
  obtain ⟨W4, hW4⟩ : ∃ W4, W4 = W3.setCell ⟨H + 1 + 1 + 1, 0, none⟩ (.func (.func 74) #[] #[.pointer (some ⟨H + 1 + 1, 0, none⟩), .pointer (some ⟨H, 0, none⟩), .pointer (some ⟨H + 1 + 1 + 1, 0, none⟩)]) := ⟨_, rfl⟩
  have HG4 : Hid (W3.grownBy W4 (some (H + 1 + 1 + 1))) := by rw [hW4]; exact grown_cell W3 _ 0 _
  have r3 : W4.heap[H + 1 + 1 + 1]? = some (.cells #[.func (.func 74) #[] #[.pointer (some ⟨H + 1 + 1, 0, none⟩), .pointer (some ⟨H, 0, none⟩), .pointer (some ⟨H + 1 + 1 + 1, 0, none⟩)]] 95) := by rw [hW4, heap_setCell_same W3 _ 0 _ _ _ q3]; rfl
  have hl3 := (Array.getElem?_eq_some_iff.1 q3).1
  have r2 := (HG4.out.block (H + 1 + 1) (by omega) (by simp)).trans q2
  have r1 := (HG4.out.block (H + 1) (by omega) (by simp)).trans q1
  have r0 : W4.heap[H]? = some (.cells #[.pointer (some ⟨bm, 0, none⟩)] 44) := (HG4.out.block H (by omega) (by simp; omega)).trans ((HB3.out.block H (by omega)).trans H1B.out)
  have HENV : Hid (VEnv W4 (H + 1 + 1) H (H + 1 + 1 + 1) (H + 1) bm M.length) := ⟨⟨n, by rw [← HN.out.1]; exact r2⟩, r0, r3⟩
  have HMK : Hid (Marks W4 (H + 1) (List.replicate n false)) := by
    show W4.heap[H + 1]? = _
    rw [r1, show CB = (List.replicate n (Value.bool false)).toArray by rw [← HCB.out]]
    simp
  have HBW : Hid (Below w.heap.size w W4) := (HB1.out.trans (HB3.out.mono HB1.out.size)).grown HG4.out (by have := HN.out; have := HB1.out.size; have := HB3.out.size; omega) (fun k hk => by cases hk; have := HN.out; omega)
  have d3 : W3.cell? ⟨H + 1 + 1 + 1, 0, none⟩ = some Value.nilFunc := cell_of_row W3 _ 0 _ _ _ q3
  have f3 : W3.frozen? ⟨H + 1 + 1 + 1, 0, none⟩ = false := Lib.frozen_of_heap q3 0
  have HR2 : Hid (W4.heap[H + 1 + 1]? = some (.cells #[.slice (some ⟨H + 1, 0, none⟩) n n] 27)) := r2
  clear q1 q2 q3 r0 r1 r2 r3 hl3
  go_upto_region 3 with fail
  rw [← hW3]
  clear hW3
  go_upto_region 4 with fail
  rw [← hW4]
  clear hW4 d3 f3 hc1 hc2 hz1'
  have HK4 : Hid (MAt B U W4 bm M st en) := HMM.out.later HBW.out
  have HFIX : Hid (∀ V : World, W4.grownBy V (some (H + 1)) → V.cell? ⟨H + 1 + 1, 0, none⟩ = some (.slice (some ⟨H + 1, 0, none⟩) n n) ∧ V.cell? ⟨H, 0, none⟩ = some (.pointer (some ⟨bm, 0, none⟩)) ∧ V.cell? ⟨H + 1 + 1 + 1, 0, none⟩ = some (.func (.func 74) #[] #[.pointer (some ⟨H + 1 + 1, 0, none⟩), .pointer (some ⟨H, 0, none⟩), .pointer (some ⟨H + 1 + 1 + 1, 0, none⟩)]) ∧ Rd .i64 V a na (toI ats) ∧ Below w.heap.size w V) := by
    intro V hV
    have hbV : Below w.heap.size w V := HBW.out.grown hV HBW.out.size (fun k hk => by cases hk; have := HN.out; omega)
    have hup := HMK.out
    obtain ⟨_, e2, e3⟩ := HENV.out.kept hup hV
    exact ⟨cell_of_row V _ 0 _ _ _ ((hV.block (H + 1 + 1) (Array.getElem?_eq_some_iff.1 HR2.out).1 (by simp)).trans HR2.out), cell_of_row V _ 0 _ _ _ e2, cell_of_row V _ 0 _ _ _ e3, HRD.out.later hbV, hbV⟩
  obtain ⟨y1, y2, y3, _, _⟩ := HFIX.out W4 ⟨rfl, rfl, rfl, Nat.le_refl _, fun _ _ _ => rfl⟩
  go_wp2
  go_loopw [21] (fun x21 wr => ∃ j : Nat, j ≤ na ∧ x21 = .int .i64 j ∧ W4.grownBy wr (some (H + 1)) ∧ ∃ sj, Viss M (ats.take j) (List.replicate n false) sj ∧ Marks wr (H + 1) sj) (fun x21 _ => na - (intOf x21).toNat)
  case atStart => exact ⟨0, by omega, rfl, ⟨rfl, rfl, rfl, Nat.le_refl _, fun _ _ _ => rfl⟩, _, Viss.nil _ _, HMK.out⟩
  case round =>
    obtain ⟨j, hj, hx21, hg, sj, hvj, hmj⟩ := hrel
    subst hx21
    have HGJ : Hid (W4.grownBy wr (some (H + 1))) := hg
    have HVJ : Hid (Viss M (ats.take j) (List.replicate n false) sj) := hvj
    have HMJ : Hid (Marks wr (H + 1) sj) := hmj
    clear hg hvj hmj y1 y2 y3
    obtain ⟨y1, y2, y3, y4, y5⟩ := HFIX.out wr HGJ.out
    have HBR : Hid (Below w.heap.size w wr) := y5
    have HKJ : Hid (MAt B U wr bm M st en) := HK4.out.kp (Kp.of_grown HGJ.out HMK.out (by decide) (by decide) (by decide)) HGJ.out.size
    by_cases hlt : j < na
    · have hja : j < ats.length := by rw [← HN.out.2.1]; exact hlt
      obtain ⟨ab, aoff, rfl, hcl⟩ := y4.2 (by omega)
      have hcj := hcl j hlt
      rw [show (toI ats).getD j 0 = ((ats[j] : Nat) : Int) by simp [toI, hja]] at hcj
      obtain ⟨t, ht⟩ : ∃ t, t = ats[j] := ⟨_, rfl⟩
      rw [← ht] at hcj
      have HC : Hid (Calls Try.prog 74 #[nI t, .pointer (some ⟨H + 1 + 1, 0, none⟩), .pointer (some ⟨H, 0, none⟩), .pointer (some ⟨H + 1 + 1 + 1, 0, none⟩)] wr (VPost M t sj (H + 1) wr)) := by
        refine vis_any M HWF.out.1 HWF.out.2.1 bm (H + 1 + 1) H (H + 1 + 1 + 1) (H + 1) (unseen sj) t sj B U st en wr (by rw [ht]; exact HWF.out.2.2 _ (List.getElem_mem hja)) (by rw [HVJ.out.1, ← HN.out.1]; simp) (Nat.le_refl _) HKJ.out (HENV.out.kept HMK.out HGJ.out) HMJ.out
      have HT : Hid (ats.take (j + 1) = ats.take j ++ [t]) := by rw [ht]; exact take_snoc _ j hja
      clear hcl y4 y5 ht
      unfold nI at HC
      go_wp2_with fail
      refine HC.out.mono ?_
      rintro e w2 ⟨rfl, hg2, s2, hv2, hm2⟩
      have HG2 : Hid (W4.grownBy w2 (some (H + 1))) := grown_all HGJ.out hg2
      have HV2 : Hid (Viss M (ats.take (j + 1)) (List.replicate n false) s2) := by
        show Viss _ _ _ _
        rw [HT.out]; exact HVJ.out.snoc hv2
      have HM2 : Hid (Marks w2 (H + 1) s2) := hm2
      clear hg2 hv2 hm2 hcj y1 y2 y3 HC
      go_wp2
      go_roundw
      case rel => exact ⟨j + 1, by omega, by go_num, HG2.out, s2, HV2.out, HM2.out⟩
      case measure => simp [intOf]; omega
    · have hjn : ats.take j = ats := List.take_of_length_le (by have := HN.out.2.1; omega)
      have hvis := HVJ.out
      rw [hjn] at hvis
      have hsl : sj.length = n := by rw [hvis.1]; simp
      have HREACH : Hid (∀ u, sj.getD u false = true ↔ ∃ a, a ∈ ats ∧ Reach M a u) := viss_reach hvis (fun i => by rw [List.getD_eq_getElem?_getD, List.getElem?_replicate]; split <;> rfl)
      obtain ⟨sel, hsel⟩ : ∃ sel : Nat → Bool, sel = fun q => sj.getD q false && ((M.getD q st0).reads || decide (q = en)) := ⟨_, rfl⟩
      have HSEL : Hid (∀ q, sel q = (sj.getD q false && ((M.getD q st0).reads || decide (q = en)))) := fun q => by rw [hsel]
      have HSL : Hid (sj.length = n) := hsl
      have HISW : Hid (IsW M en ats ((List.range n).filter sel)) := by
        refine ⟨List.Pairwise.filter _ List.pairwise_lt_range, fun q => ?_⟩
        rw [List.mem_filter, List.mem_range, HSEL.out, HN.out.1]
        simp only [Bool.and_eq_true, Bool.or_eq_true, decide_eq_true_eq]
        rw [HREACH.out]
        constructor
        · rintro ⟨h1, h2, h3⟩
          refine ⟨h1, h2, h3.imp (fun h => ⟨M[q], List.getElem?_eq_getElem h1, ?_⟩) id⟩
          rw [List.getD_eq_getElem?_getD, List.getElem?_eq_getElem h1] at h
          exact h
        · rintro ⟨h1, h2, h3⟩
          refine ⟨h1, h2, h3.imp (fun ⟨s, h4, h5⟩ => ?_) id⟩
          rw [List.getD_eq_getElem?_getD, h4]
          exact h5
      clear hjn hvis hsl hsel y4 y5
      obtain ⟨W5, hW5⟩ : ∃ W5, W5 = wr := ⟨_, rfl⟩
      rw [← hW5] at y1 y2 y3 HMJ HBR HKJ ⊢
      clear hW5
      have HI : Hid (∀ V : World, Below W5.heap.size W5 V → V.cell? ⟨H, 0, none⟩ = some (.pointer (some ⟨bm, 0, none⟩)) ∧ V.cell? ⟨bm, 2, none⟩ = some (nI en) ∧ (∀ q, q < n → V.cell? ⟨H + 1, q, none⟩ = some (.bool (sj.getD q false)))) := by
        intro V hV
        exact ⟨upC hV y2, upC hV HKJ.out.cells.2.1, fun q hq => upC hV (HMJ.out.cell q (by rw [HSL.out]; exact hq)).1⟩
      have HVIEW : Hid (∀ q, q < n → ∃ g0 c0, ∀ V : World, Below W5.heap.size W5 V → V.cell? ⟨bm, 0, none⟩ = some (.slice (some ⟨g0, 0, none⟩) n c0) ∧ V.cell? ⟨g0, q * 3, none⟩ = some (.bool (M.getD q st0).reads)) := by
        intro q hq
        have hqm : q < M.length := by rw [← HN.out.1]; exact hq
        obtain ⟨g0, c0, ca, cc, na, nc, hv, _⟩ := HKJ.out.view q M[q] (List.getElem?_eq_getElem hqm)
        refine ⟨g0, c0, fun V hV => ?_⟩
        obtain ⟨v0, v1, _⟩ := hv V (Kp.of_below hV)
        rw [HN.out.1]
        refine ⟨v0, ?_⟩
        rw [List.getD_eq_getElem?_getD, List.getElem?_eq_getElem hqm]
        exact v1
      obtain ⟨i0, ji, jz0, jz1, jz2⟩ := info_parts info_i
      have HJ : Hid (Try.prog.info? 3 = some i0 ∧ i0.zero = some (.int .i64 0) ∧ i0.size = 1 ∧ i0.bytes = 8) := ⟨ji, jz0, jz1, jz2⟩
      clear ji jz0 jz1 jz2 y2 y3
      go_wp2
      go_loopw [9, 31] (fun x9 x31 wr => ∃ k : Nat, k ≤ n ∧ x31 = .int .i64 k ∧ wr.ownsRow W5.heap.size 3 1 x9 ((List.range k).filter sel).length (((List.range k).filter sel).map nI) ∧ Below W5.heap.size W5 wr) (fun _ x31 _ => n - (intOf x31).toNat)
      case atStart => exact ⟨0, by omega, rfl, World.ownsRow_nil _ _ _ _, Below.refl _ _⟩
      case round =>
        rename_i wr
        obtain ⟨k, hk, hx31, ho, hb⟩ := hrel
        subst hx31
        obtain ⟨av, cv, rfl⟩ := own_sl1 ho
        obtain ⟨nl, hnl⟩ : ∃ nl, nl = ((List.range k).filter sel).length := ⟨_, rfl⟩
        rw [← hnl] at ho ⊢
        have HO : Hid (wr.ownsRow W5.heap.size 3 1 (.slice av nl cv) nl (((List.range k).filter sel).map nI)) := ho
        have HB : Hid (Below W5.heap.size W5 wr) := hb
        have hnlk : nl ≤ k := by rw [hnl]; have := List.length_filter_le sel (List.range k); simp at this; exact this
        have HNL : Hid (nl = ((List.range k).filter sel).length) := hnl
        clear ho hb hnl y1
        by_cases hlt : k < n
        · obtain ⟨g0, c0, hvw⟩ := HVIEW.out k hlt
          obtain ⟨v0, v1⟩ := hvw wr HB.out
          obtain ⟨x1, x2, x3⟩ := HI.out wr HB.out
          have x4 := x3 k hlt
          obtain ⟨b, hbq⟩ : ∃ b, b = sj.getD k false := ⟨_, rfl⟩
          obtain ⟨r, hrq⟩ : ∃ r, r = (M.getD k st0).reads := ⟨_, rfl⟩
          rw [← hbq] at x4
          rw [← hrq] at v1
          have hsl : sel k = (b && (r || decide (k = en))) := by rw [HSEL.out, ← hbq, ← hrq]
          have hrange : (List.range (k + 1)).filter sel = (List.range k).filter sel ++ (if sel k then [k] else []) := by
            rw [List.range_succ, List.filter_append]
            congr 1
            simp only [List.filter_cons, List.filter_nil]
          have hki : (k : Int) < (n : Int) := by omega
          have hk0 : (0 : Int) ≤ (k : Int) := by omega
          unfold nI at x2
          have HSAME : Hid (sel k = false → wr.ownsRow W5.heap.size 3 1 (.slice av nl cv) ((List.range (k + 1)).filter sel).length (((List.range (k + 1)).filter sel).map nI)) := fun h => by
            rw [hrange, h]
            simp only [Bool.false_eq_true, if_false, List.append_nil]
            rw [← HNL.out]
            exact HO.out
          have HMORE : Hid (sel k = true → ∀ (g cap : Nat) (w4 : World), w4.ownsRow W5.heap.size 3 1 (.slice (some ⟨g, 0, none⟩) (nl + 1) cap) (nl + 1) (((List.range k).filter sel).map nI ++ [.int .i64 (k : Int)]) → w4.ownsRow W5.heap.size 3 1 (.slice (some ⟨g, 0, none⟩) (nl + 1) cap) ((List.range (k + 1)).filter sel).length (((List.range (k + 1)).filter sel).map nI)) := fun h g cap w4 q1 => by
            rw [hrange, h]
            simp only [if_true, List.length_append, List.length_singleton, List.map_append, List.map_cons, List.map_nil]
            rw [← HNL.out]
            exact q1
          have HBW5 : Hid (W5.heap.size ≤ wr.heap.size) := HB.out.size
          clear hbq hrq hrange x3 hvw
          cases b with
          | false =>
            have HS := HSAME.out (by rw [hsl]; rfl)
            have HSS : Hid (wr.ownsRow W5.heap.size 3 1 (.slice av nl cv) ((List.range (k + 1)).filter sel).length (((List.range (k + 1)).filter sel).map nI)) := HS
            clear hsl HS
            go_wp2
            go_roundw
            case rel => exact ⟨k + 1, by omega, by go_num, HSS.out, HB.out⟩
            case measure => simp [intOf]; omega
          | true =>
            by_cases hpick : r = true ∨ k = en
            · have HM := HMORE.out (by rw [hsl]; rcases hpick with h | h <;> simp [h])
              have HMM2 : Hid (∀ (g cap : Nat) (w4 : World), w4.ownsRow W5.heap.size 3 1 (.slice (some ⟨g, 0, none⟩) (nl + 1) cap) (nl + 1) (((List.range k).filter sel).map nI ++ [.int .i64 (k : Int)]) → w4.ownsRow W5.heap.size 3 1 (.slice (some ⟨g, 0, none⟩) (nl + 1) cap) ((List.range (k + 1)).filter sel).length (((List.range (k + 1)).filter sel).map nI)) := HM
              clear HM HMORE HSAME hsl
              have hke : r = false → ((k : Int) == (en : Int)) = true := fun h => by
                rcases hpick with h2 | h2
                · rw [h] at h2; cases h2
                · rw [h2]; simp
              clear hpick
              cases r with
              | true =>
                clear hke
                go_wp2_with (at_builtin; refine wpList_append_lies _ rfl _ _ 23 rfl W5.heap.size 3 i0 _ 1 8 Try.underlying23 HJ.out.1 HJ.out.2.1 HJ.out.2.2.1 HJ.out.2.2.2 rfl (by decide) (.slice av nl cv) nl (((List.range k).filter sel).map nI) rfl (own_later5 HO.out ((Below.refl _ wr).alloc (Nat.le_refl _) _)) ⟨wr.heap.size, 0, none⟩ 1 1 [.int .i64 (k : Int)] rfl rfl (World.news_of_block (cs := #[.int .i64 (k : Int)]) (t := 3) (fr := (0, 0)) (heap_alloc_new wr _)) (by simp [Value.oneCell']) (by omega) (by unfold maxLen; omega) (by omega) (by have := HBW5.out; simp; omega) _ rfl (fun g cap w4 q1 q2 q3 q4 => ?_); have HO4 : Hid (w4.ownsRow W5.heap.size 3 1 (.slice (some ⟨g, 0, none⟩) (nl + 1) cap) ((List.range (k + 1)).filter sel).length (((List.range (k + 1)).filter sel).map nI)) := HMM2.out g cap w4 q1; have HB4 : Hid (Below W5.heap.size W5 w4) := (HB.out.alloc HBW5.out _).grown q2 (by have := HBW5.out; simp; omega) (fun y hy => (HO.out.lt y hy).1); clear q1 q2 q3 q4)
                go_roundw
                case rel => exact ⟨k + 1, by omega, by go_num, HO4.out, HB4.out⟩
                case measure => simp [intOf]; omega
              | false =>
                have hke2 := hke rfl
                clear hke
                go_wp2_with (at_builtin; refine wpList_append_lies _ rfl _ _ 23 rfl W5.heap.size 3 i0 _ 1 8 Try.underlying23 HJ.out.1 HJ.out.2.1 HJ.out.2.2.1 HJ.out.2.2.2 rfl (by decide) (.slice av nl cv) nl (((List.range k).filter sel).map nI) rfl (own_later5 HO.out ((Below.refl _ wr).alloc (Nat.le_refl _) _)) ⟨wr.heap.size, 0, none⟩ 1 1 [.int .i64 (k : Int)] rfl rfl (World.news_of_block (cs := #[.int .i64 (k : Int)]) (t := 3) (fr := (0, 0)) (heap_alloc_new wr _)) (by simp [Value.oneCell']) (by omega) (by unfold maxLen; omega) (by omega) (by have := HBW5.out; simp; omega) _ rfl (fun g cap w4 q1 q2 q3 q4 => ?_); have HO4 : Hid (w4.ownsRow W5.heap.size 3 1 (.slice (some ⟨g, 0, none⟩) (nl + 1) cap) ((List.range (k + 1)).filter sel).length (((List.range (k + 1)).filter sel).map nI)) := HMM2.out g cap w4 q1; have HB4 : Hid (Below W5.heap.size W5 w4) := (HB.out.alloc HBW5.out _).grown q2 (by have := HBW5.out; simp; omega) (fun y hy => (HO.out.lt y hy).1); clear q1 q2 q3 q4)
                go_roundw
                case rel => exact ⟨k + 1, by omega, by go_num, HO4.out, HB4.out⟩
                case measure => simp [intOf]; omega
            · have hr : r = false := by cases r with
                | true => exact absurd (.inl rfl) hpick
                | false => rfl
              have hke : ((k : Int) == (en : Int)) = false := by
                rw [beq_eq_false_iff_ne]
                intro h
                exact hpick (.inr (by omega))
              have hne : ¬ k = en := fun h => hpick (.inr h)
              have HS := HSAME.out (by rw [hsl, hr]; simp [hne])
              have HSS : Hid (wr.ownsRow W5.heap.size 3 1 (.slice av nl cv) ((List.range (k + 1)).filter sel).length (((List.range (k + 1)).filter sel).map nI)) := HS
              subst hr
              clear hsl HS HSAME HMORE hpick hne
              go_wp2
              go_roundw
              case rel => exact ⟨k + 1, by omega, by go_num, HSS.out, HB.out⟩
              case measure => simp [intOf]; omega
        · obtain rfl : k = n := by omega
          have HF : Hid (∃ v L, Ending.returned (.slice av nl cv) = .returned v ∧ wr.ownsRow w.heap.size 3 1 v L.length (L.map nI) ∧ IsW M en ats L ∧ Below w.heap.size w wr) :=
            ⟨_, (List.range k).filter sel, rfl, by rw [← HNL.out]; exact own_up HO.out HBR.out.size, HISW.out, HBR.out.trans (HB.out.mono HBR.out.size)⟩
          go_wp2
          go_ret
          exact HF.out
end Go.Proofs.Ytjbhfonokgkalaa
