/- The walk of NfaNone. -/
import Derived.Test.YtodaoelkljaflaaNfaJ
namespace Go.Proofs.Ytodaoelkljaflaa
open Go.RowKit
set_option linter.unusedVariables false
set_option linter.unusedSimpArgs false

theorem isW_none {M : List St} {fin : Nat} {L : List Nat} (h : IsW M fin [] L) : L = [] := by
  cases L with
  | nil => rfl
  | cons x r =>
    obtain ⟨_, ⟨a, ha, _⟩, _⟩ := (h.2 x).1 (by simp)
    simp at ha
theorem stepAt_strange {M : List St} (hw : WfL M) (S : List Int) (c : Int) (hc : c < 0 ∨ 23 < c) : stepAt M S c = [] := by
  apply List.eq_nil_iff_forall_not_mem.2
  intro t ht
  obtain ⟨q, s, _, h2, h3, _⟩ := (mem_stepAt M S c t).1 ht
  have := (hw q s h2).2.2.1 c h3
  omega
theorem below_drewN {B : Nat} {w w' : World} (h : Below B w w') (n : Nat) : Below B w (w'.drewN n) := ⟨h.os, h.tape, h.output, h.size, h.block⟩
/-- A step to nowhere. -/
theorem stepNone_any (B : Nat) (w : World) (bm : Nat) (M : List St) (st en : Nat) (xs : List Int) (c : Int) (a : Option Addr) (len cap : Nat) (hm : Mach B w bm M st en) (hrd : Rd .i64 w a len xs) (hl : len ≤ 100000) (h0 : stepAt M xs c = []) : Calls Try.prog 24 #[.pointer (some ⟨bm, 0, none⟩), .slice a len cap, .int .i64 c] w fun e w' => ∃ a' c', e = .returned (.slice a' 0 c') ∧ Below w.heap.size w w' := by
  refine (step_any B w bm M st en xs c a len cap hm hrd hl).mono ?_
  rintro e w' ⟨v, L, rfl, ho, hi, hb⟩
  rw [h0] at hi
  have hL := isW_none hi
  subst hL
  obtain ⟨a', c', rfl⟩ := own_sl1 ho
  exact ⟨a', c', rfl, hb⟩
set_option maxRecDepth 100000 in
set_option maxHeartbeats 8000000 in
theorem nfaNone_walk (D : Nat) (n : Nd) (ca pa : Option Addr) (cc pc : Nat) (xs : List Int) (a : Option Addr) (len cap : Nat) (w : World) (hin : InV w.heap.size w D n [.int .i64 n.op, .slice ca n.cl.length cc, .slice pa (toL n.kids).length pc]) (hrd : Rd .i64 w a len xs) (hcap : len ≤ cap) (hcm : cap ≤ 9223372036854775807) (hnone : a = none → cap = 0) :
    Calls Try.prog 8 #[.agg #[.int .i64 n.op, .slice ca n.cl.length cc, .slice pa (toL n.kids).length pc], .slice a len cap] w fun e w' => e = .returned (.bool true) ∧ Below w.heap.size w w' := by
  obtain ⟨op, hop⟩ : ∃ op, op = n.op := ⟨_, rfl⟩
  obtain ⟨cn, hcn⟩ : ∃ cn, cn = n.cl.length := ⟨_, rfl⟩
  obtain ⟨K, hK⟩ : ∃ K, K = (toL n.kids).length := ⟨_, rfl⟩
  obtain ⟨W0, hW0⟩ : ∃ W0, W0 = w.alloc (.cells #[.int .i64 op, .slice ca cn cc, .slice pa K pc] 25) := ⟨_, rfl⟩
  obtain ⟨H, hH⟩ : ∃ H, H = w.heap.size := ⟨_, rfl⟩
  have HB0 : Hid (Below w.heap.size w W0) := by rw [hW0]; exact (Below.refl _ w).alloc (Nat.le_refl _) _
  have hax : W0.heap[H]? = some (.cells #[.int .i64 op, .slice ca cn cc, .slice pa K pc] 25) := by rw [hW0, hH]; exact heap_alloc_new w _
  have HAX : Hid (∀ V : World, Below W0.heap.size W0 V → V.cell? ⟨H, 0, none⟩ = some (.int .i64 op) ∧ V.cell? ⟨H, 1, none⟩ = some (.slice ca cn cc) ∧ V.cell? ⟨H, 2, none⟩ = some (.slice pa K pc)) := fun V hV =>
    ⟨upC hV (cell_of_row W0 H 0 _ _ _ hax), upC hV (cell_of_row W0 H 1 _ _ _ hax), upC hV (cell_of_row W0 H 2 _ _ _ hax)⟩
  have HNEW : Hid (∀ V : World, Below w.heap.size w V → Calls Try.prog 15 #[.agg #[.int .i64 op, .slice ca cn cc, .slice pa K pc]] V (NewPost n V)) := by
    intro V hV
    rw [hop, hcn, hK]
    exact new_any D n ca pa cc pc V ((hin.later hV D).base hV.size D)
  have HRD : Hid (Rd .i64 w a len xs) := hrd
  have hlm : (len : Int) ≤ 9223372036854775807 := by omega
  rw [← hop, ← hcn, ← hK]
  clear hin hop hcn hK hax hrd hcap hcm hnone
  go_enter Try.func8, Try.ntmps8
  go_upto_region 1 with fail
  rw [← hH, ← hW0]
  clear hH hW0
  go_wp2_with fail
  refine (shown_any W0).mono ?_
  rintro e w1 ⟨rfl, hb1⟩
  obtain ⟨e0, e1, e2⟩ := HAX.out w1 hb1
  have HB1 : Hid (Below w.heap.size w w1) := HB0.out.trans (hb1.mono HB0.out.size)
  clear hb1
  go_wp2_with fail
  refine (HNEW.out w1 HB1.out).mono ?_
  rintro e w2 ⟨hb2, hcase⟩
  have HB2 : Hid (Below w.heap.size w w2) := HB1.out.trans (hb2.mono HB1.out.size)
  clear e0 e1 e2 HNEW HAX hb2
  rcases hcase with ⟨hok, bm, rfl, hm⟩ | ⟨hok, rfl⟩
  · have HM2 : Hid (NMach w1.heap.size w2 bm n) := NMach.of hok hm
    clear hm hok
    obtain ⟨M, hM⟩ : ∃ M, M = (n.piece []).1 := ⟨_, rfl⟩
    obtain ⟨st, hst⟩ : ∃ st, st = (n.piece []).2.1 := ⟨_, rfl⟩
    obtain ⟨en, hen⟩ : ∃ en, en = (n.piece []).2.2 := ⟨_, rfl⟩
    have HMC : Hid (∀ V : World, Below w2.heap.size w2 V → Mach w1.heap.size V bm M st en) := by
      intro V hV
      rw [hM, hst, hen]
      exact HM2.out.2.later hV
    have HWF : Hid (WfL M ∧ M.length ≤ 4000) := by
      obtain ⟨U, q1, q2, q3, _⟩ := HMC.out w2 (Below.refl _ _)
      exact ⟨q2, by have := szS_len M; omega⟩
    clear hM hst hen HM2
    go_wp2_with fail
    refine (start_any w1.heap.size w2 bm M st en (HMC.out w2 (Below.refl _ _))).mono ?_
    rintro e w3 ⟨v3, L3, rfl, ho3, hi3, hb3⟩
    have HO3 : Hid (w3.ownsRow w2.heap.size 3 1 v3 L3.length (L3.map nI) ∧ IsW M en [st] L3 ∧ Below w2.heap.size w2 w3) := ⟨ho3, hi3, hb3⟩
    clear ho3 hi3 hb3
    go_wp2_with fail
    refine (start_any w1.heap.size w3 bm M st en (HMC.out w3 HO3.out.2.2)).mono ?_
    rintro e w4 ⟨v4, L4, rfl, ho4, hi4, hb4⟩
    have HO4 : Hid (w4.ownsRow w2.heap.size 3 1 v3 L3.length (L3.map nI) ∧ w4.ownsRow w2.heap.size 3 1 v4 L3.length (L3.map nI) ∧ IsW M en [st] L3 ∧ Below w2.heap.size w2 w4) := by
      obtain ⟨q1, q2, q3⟩ := HO3.out
      have e := isW_same q2 hi4
      refine ⟨own_later5 q1 hb4, ?_, q2, q3.trans (hb4.mono q3.size)⟩
      rw [e]
      exact own_up ho4 q3.size
    clear ho4 hi4 hb4 HO3
    go_wp2
    go_loopw [8, 9, 10, 11] (fun x8 x9 x10 _ wr => ∃ k : Nat, k ≤ len ∧ x10 = .int .i64 k ∧ ∃ L ats, wr.ownsRow w2.heap.size 3 1 x8 L.length (L.map nI) ∧ wr.ownsRow w2.heap.size 3 1 x9 L.length (L.map nI) ∧ IsW M en ats L ∧ Below w2.heap.size w2 wr) (fun _ _ x10 _ _ => len - (intOf x10).toNat)
    case atStart => exact ⟨0, by omega, rfl, L3, [st], HO4.out.1, HO4.out.2.1, HO4.out.2.2.1, HO4.out.2.2.2⟩
    case round =>
      obtain ⟨k, hk, hx10, L, ats, ho, hp, hi, hb⟩ := hrel
      subst hx10
      obtain ⟨sa, sc, hsa, hrs⟩ := set_rd ho
      obtain ⟨ta, tc, hta, hrt⟩ := set_rd hp
      subst hsa hta
      obtain ⟨nl, hnl⟩ : ∃ nl, nl = L.length := ⟨_, rfl⟩
      have hnb : nl ≤ 4000 := by rw [hnl]; have := isW_len hi; have := HWF.out.2; omega
      rw [← hnl] at hrs hrt ⊢
      have HI : Hid (IsW M en ats L) := hi
      have HB : Hid (Below w2.heap.size w2 wr) := hb
      have HRS : Hid (∀ V : World, Below wr.heap.size wr V → Rd .i64 V sa nl (toI L) ∧ Rd .i64 V ta nl (toI L)) := fun V hV => ⟨hrs.later hV, hrt.later hV⟩
      clear ho hp hi hb hrs hrt hnl HO4
      have HNIL : Hid (∀ V : World, Below w2.heap.size w2 V → Calls Try.prog 22 #[.pointer (some ⟨bm, 0, none⟩), .slice none 0 0] V fun e w' => e = .returned (.bool false) ∧ w' = V) := by
        intro V hV
        have h1 := accepts_any w1.heap.size V bm M st en [] none 0 0 (HMC.out V hV) (rd_nil _ _) (by omega)
        simpa using h1
      by_cases hlt : k < len ∧ k < 30
      · obtain ⟨hlt, hlt3⟩ := hlt
        have hlt3i : (k : Int) < 30 := by omega
        have hlti : (k : Int) < (len : Int) := by omega
        obtain ⟨b, off, rfl, hcl⟩ := (HRD.out.later (HB2.out.trans (HB.out.mono HB2.out.size))).2 (by omega)
        have hck := hcl k hlt
        obtain ⟨x, hx⟩ : ∃ x, x = xs.getD k 0 := ⟨_, rfl⟩
        rw [← hx] at hck
        have HCK : Hid (∀ V : World, Below wr.heap.size wr V → V.cell? ⟨b, off + k, none⟩ = some (.int .i64 x)) := fun V hV => upC hV hck
        clear hcl hx
        go_wp2_with fail
        refine (stepNone_any w1.heap.size wr bm M st en [] x none 0 0 (HMC.out wr HB.out) (rd_nil _ _) (by omega) rfl).mono ?_
        rintro e w5 ⟨a5, c5, rfl, hb5⟩
        have HB5 : Hid (Below wr.heap.size wr w5) := hb5
        clear hb5 hck
        go_wp2_with fail
        refine (stepNone_any w1.heap.size w5 bm M st en (toI L) (-1) sa nl sc (HMC.out w5 (HB.out.trans (HB5.out.mono HB.out.size))) (HRS.out w5 HB5.out).1 (by omega) (stepAt_strange HWF.out.1 _ _ (by omega))).mono ?_
        rintro e w6 ⟨a6, c6, rfl, hb6⟩
        have HB6 : Hid (Below wr.heap.size wr w6) := HB5.out.trans (hb6.mono HB5.out.size)
        clear hb6
        go_wp2_with fail
        refine (stepNone_any w1.heap.size w6 bm M st en (toI L) 24 sa nl sc (HMC.out w6 (HB.out.trans (HB6.out.mono HB.out.size))) (HRS.out w6 HB6.out).1 (by omega) (stepAt_strange HWF.out.1 _ _ (by omega))).mono ?_
        rintro e w7 ⟨a7, c7, rfl, hb7⟩
        have HB7 : Hid (Below wr.heap.size wr w7) := HB6.out.trans (hb7.mono HB6.out.size)
        have hck7 := HCK.out w7 HB7.out
        clear hb7
        go_wp2_with fail
        refine (step_any w1.heap.size w7 bm M st en (toI L) x sa nl sc (HMC.out w7 (HB.out.trans (HB7.out.mono HB.out.size))) (HRS.out w7 HB7.out).1 (by omega)).mono ?_
        rintro e w8 ⟨v8, L8, rfl, ho8, hi8, hb8⟩
        have HB8 : Hid (Below wr.heap.size wr w8) := HB7.out.trans (hb8.mono HB7.out.size)
        have HO8 : Hid (w8.ownsRow w2.heap.size 3 1 v8 L8.length (L8.map nI) ∧ IsW M en (stepAt M (toI L) x) L8) := ⟨own_up ho8 (Nat.le_trans HB.out.size HB7.out.size), hi8⟩
        have hck8 := HCK.out w8 HB8.out
        clear ho8 hi8 hb8 hck7
        go_wp2_with fail
        refine (step_any w1.heap.size w8 bm M st en (toI L) x ta nl tc (HMC.out w8 (HB.out.trans (HB8.out.mono HB.out.size))) (HRS.out w8 HB8.out).2 (by omega)).mono ?_
        rintro e w9 ⟨v9, L9, rfl, ho9, hi9, hb9⟩
        have HB9 : Hid (Below wr.heap.size wr w9) := HB8.out.trans (hb9.mono HB8.out.size)
        have HB29 : Hid (Below w2.heap.size w2 w9) := HB.out.trans (HB9.out.mono HB.out.size)
        have HO9 : Hid (w9.ownsRow w2.heap.size 3 1 v8 L8.length (L8.map nI) ∧ w9.ownsRow w2.heap.size 3 1 v9 L8.length (L8.map nI) ∧ IsW M en (stepAt M (toI L) x) L8) := by
          obtain ⟨q1, q2⟩ := HO8.out
          have e := isW_same q2 hi9
          refine ⟨own_later5 q1 hb9, ?_, q2⟩
          rw [e]
          exact own_up ho9 (Nat.le_trans HB.out.size HB8.out.size)
        clear ho9 hi9 hb9 hck8 HO8
        obtain ⟨za, zc, hza, hrz⟩ := set_rd HO9.out.1
        obtain ⟨ya, yc, hya, hry⟩ := set_rd HO9.out.2.1
        subst hza hya
        obtain ⟨ml, hml⟩ : ∃ ml, ml = L8.length := ⟨_, rfl⟩
        have hmb : ml ≤ 4000 := by rw [hml]; have := isW_len HO9.out.2.2; have := HWF.out.2; omega
        have HML : Hid (ml = L8.length) := hml
        rw [← hml] at hrz hry
        have HRZ : Hid (∀ V : World, Below w9.heap.size w9 V → Rd .i64 V za ml (toI L8) ∧ Rd .i64 V ya ml (toI L8)) := fun V hV => ⟨hrz.later hV, hry.later hV⟩
        rw [← hml]
        clear hml hrz hry
        have hmm : ((ml : Int) == (ml : Int)) = true := by simp
        by_cases hz : ml = 0
        · have HACC : Hid (Calls Try.prog 22 #[.pointer (some ⟨bm, 0, none⟩), .slice za ml zc] w9 fun e w' => e = .returned (.bool false) ∧ w' = w9) := by
            have h1 := accepts_any w1.heap.size w9 bm M st en (toI L8) za ml zc (HMC.out w9 HB29.out) (HRZ.out w9 (Below.refl _ _)).1 (by omega)
            have h2 : L8 = [] := List.eq_nil_of_length_eq_zero (by rw [← HML.out]; exact hz)
            rw [h2] at h1
            have h3 : Calls Try.prog 22 #[.pointer (some ⟨bm, 0, none⟩), .slice za ml zc] w9 fun e w' => e = .returned (.bool false) ∧ w' = w9 := by simpa [toI] using h1
            exact h3
          have hzb : ((ml : Int) == 0) = true := by rw [beq_iff_eq]; omega
          have hmi : (ml : Int) ≤ 4000 := by omega
          clear hz
          go_wp2_with fail
          refine HACC.out.mono ?_
          rintro e w10 ⟨rfl, hw10⟩
          obtain rfl : w9 = w10 := hw10.symm
          clear HACC
          go_wp2
          go_loopw [11] (fun x11 wr => ∃ j : Nat, j ≤ ml ∧ x11 = .int .i64 j ∧ Below w9.heap.size w9 wr) (fun x11 _ => ml - (intOf x11).toNat)
          case atStart => exact ⟨0, by omega, rfl, Below.refl _ _⟩
          case round =>
            obtain ⟨j, hj, hx11, hbi⟩ := hrel
            subst hx11
            have HBI : Hid (Below w9.heap.size w9 wr) := hbi
            clear hbi
            by_cases hltj : j < ml
            · have hltji : (j : Int) < (ml : Int) := by omega
              have hj0 : (0 : Int) ≤ (j : Int) := by omega
              obtain ⟨hz1, hy1⟩ := HRZ.out wr HBI.out
              obtain ⟨zb, zoff, rfl, hzc⟩ := hz1.2 (by omega)
              obtain ⟨yb, yoff, rfl, hyc⟩ := hy1.2 (by omega)
              have z1 := hzc j hltj
              have y1 := hyc j hltj
              obtain ⟨q, hq⟩ : ∃ q, q = (toI L8).getD j 0 := ⟨_, rfl⟩
              rw [← hq] at z1 y1
              clear hz1 hy1 hzc hyc hq
              go_wp2_with fail
              go_quiet (fail)
              go_wp2
              go_roundw
              case rel => exact ⟨j + 1, by omega, by go_num, below_drewN HBI.out _⟩
              case measure => simp [intOf]; omega
            · have HB2I : Hid (Below w2.heap.size w2 wr) := HB29.out.trans (HBI.out.mono HB29.out.size)
              have HOI : Hid (wr.ownsRow w2.heap.size 3 1 (.slice za ml zc) L8.length (L8.map nI) ∧ wr.ownsRow w2.heap.size 3 1 (.slice ya ml yc) L8.length (L8.map nI)) := by
                rw [HML.out]
                exact ⟨own_later5 HO9.out.1 HBI.out, own_later5 HO9.out.2.1 HBI.out⟩
              go_wp2
              go_roundw
              case rel => exact ⟨k + 1, by omega, by go_num, L8, _, HOI.out.1, HOI.out.2, HO9.out.2.2, HB2I.out⟩
              case measure => simp [intOf]; omega
        · have hzb : ((ml : Int) == 0) = false := by rw [beq_eq_false_iff_ne]; omega
          have hmi : (ml : Int) ≤ 4000 := by omega
          go_wp2
          go_loopw [11] (fun x11 wr => ∃ j : Nat, j ≤ ml ∧ x11 = .int .i64 j ∧ Below w9.heap.size w9 wr) (fun x11 _ => ml - (intOf x11).toNat)
          case atStart => exact ⟨0, by omega, rfl, Below.refl _ _⟩
          case round =>
            obtain ⟨j, hj, hx11, hbi⟩ := hrel
            subst hx11
            have HBI : Hid (Below w9.heap.size w9 wr) := hbi
            clear hbi
            by_cases hltj : j < ml
            · have hltji : (j : Int) < (ml : Int) := by omega
              have hj0 : (0 : Int) ≤ (j : Int) := by omega
              obtain ⟨hz1, hy1⟩ := HRZ.out wr HBI.out
              obtain ⟨zb, zoff, rfl, hzc⟩ := hz1.2 (by omega)
              obtain ⟨yb, yoff, rfl, hyc⟩ := hy1.2 (by omega)
              have z1 := hzc j hltj
              have y1 := hyc j hltj
              obtain ⟨q, hq⟩ : ∃ q, q = (toI L8).getD j 0 := ⟨_, rfl⟩
              rw [← hq] at z1 y1
              clear hz1 hy1 hzc hyc hq
              go_wp2_with fail
              go_quiet (fail)
              go_wp2
              go_roundw
              case rel => exact ⟨j + 1, by omega, by go_num, below_drewN HBI.out _⟩
              case measure => simp [intOf]; omega
            · have HB2I : Hid (Below w2.heap.size w2 wr) := HB29.out.trans (HBI.out.mono HB29.out.size)
              have HOI : Hid (wr.ownsRow w2.heap.size 3 1 (.slice za ml zc) L8.length (L8.map nI) ∧ wr.ownsRow w2.heap.size 3 1 (.slice ya ml yc) L8.length (L8.map nI)) := by
                rw [HML.out]
                exact ⟨own_later5 HO9.out.1 HBI.out, own_later5 HO9.out.2.1 HBI.out⟩
              go_wp2
              go_roundw
              case rel => exact ⟨k + 1, by omega, by go_num, L8, _, HOI.out.1, HOI.out.2, HO9.out.2.2, HB2I.out⟩
              case measure => simp [intOf]; omega
      · have hno : (¬ (k : Int) < (len : Int)) ∨ ((k : Int) < (len : Int) ∧ ¬ (k : Int) < 30) := by omega
        have HBZ : Hid (Below w.heap.size w wr) := HB2.out.trans (HB.out.mono HB2.out.size)
        clear hlt
        rcases hno with h1 | ⟨h1, h2⟩
        all_goals
          go_wp2_with fail
          refine (HNIL.out wr HB.out).mono ?_
          rintro e w5 ⟨rfl, hw5⟩
          obtain rfl : wr = w5 := hw5.symm
          go_wp2
          go_ret
          exact ⟨rfl, HBZ.out⟩
  · clear hok
    go_wp2
    go_ret
    exact ⟨rfl, HB2.out⟩
end Go.Proofs.Ytodaoelkljaflaa
