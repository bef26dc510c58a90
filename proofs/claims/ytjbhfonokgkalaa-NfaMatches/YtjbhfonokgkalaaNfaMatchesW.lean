/- The walk of NfaMatches. -/
import Derived.Test.YtjbhfonokgkalaaNfaEd
namespace Go.Proofs.Ytjbhfonokgkalaa
open Go.RowKit
set_option linter.unusedVariables false
set_option linter.unusedSimpArgs false

theorem toI_at (L : List Nat) (j : Nat) (hj : j < L.length) : (toI L).getD j 0 = ((L[j] : Nat) : Int) := by
  unfold toI
  rw [List.getD_eq_getElem?_getD, List.getElem?_map, List.getElem?_eq_getElem hj]
  rfl
theorem rises {L : List Nat} (h : L.Pairwise (· < ·)) (j : Nat) (h0 : 1 ≤ j) (hj : j < L.length) : ¬ (toI L).getD j 0 ≤ (toI L).getD (j - 1) 0 := by
  rw [toI_at L j hj, toI_at L (j - 1) (by omega)]
  have := List.pairwise_iff_getElem.1 h (j - 1) j (by omega) hj (by omega)
  omega
set_option maxRecDepth 100000 in
set_option maxHeartbeats 16000000 in
theorem nfaMatches_walk (D : Nat) (n : Nd) (ca pa : Option Addr) (cc pc : Nat) (xs0 : List Int) (a : Option Addr) (len0 cap : Nat) (w : World) (hin : InV w.heap.size w D n [.int .i64 n.op, .slice ca n.cl.length cc, .slice pa (toL n.kids).length pc]) (hrd : Rd .i64 w a len0 xs0) (hcap : len0 ≤ cap) (hcm : cap ≤ 9223372036854775807) (hnone : a = none → cap = 0) :
    Calls Try.prog 8 #[.agg #[.int .i64 n.op, .slice ca n.cl.length cc, .slice pa (toL n.kids).length pc], .slice a len0 cap] w fun e w' => e = .returned (.bool true) ∧ Below w.heap.size w w' := by
  obtain ⟨len, hlen⟩ : ∃ len : Nat, (len : Int) = min (len0 : Int) 30 := ⟨min len0 30, by omega⟩
  have hmin := min_run len0 len 30 hlen
  have hcut0 := cutI a len0 cap len (by omega)
  have HCUT : Hid (∀ (k : Nat), k ≤ len → ∀ W : World, (Instr.slice 23 (.slice a len cap) none (some (.int .i64 k)) none).run Try.prog W = .ok (.slice a k cap) W) := fun k hk W => cutI a len cap k (by omega) W
  obtain ⟨xs, hxs⟩ : ∃ xs, xs = xs0.take len := ⟨_, rfl⟩
  have HRD : Hid (Rd .i64 w a len xs) := by rw [hxs]; exact hrd.take len (by omega)
  have HL : Hid (xs.length = len) := HRD.out.1
  have hl30 : len ≤ 30 := by omega
  obtain ⟨op, hop⟩ : ∃ op, op = n.op := ⟨_, rfl⟩
  obtain ⟨cn, hcn⟩ : ∃ cn, cn = n.cl.length := ⟨_, rfl⟩
  obtain ⟨K, hK⟩ : ∃ K, K = (toL n.kids).length := ⟨_, rfl⟩
  obtain ⟨W0, hW0⟩ : ∃ W0, W0 = w.alloc (.cells #[.int .i64 op, .slice ca cn cc, .slice pa K pc] 33) := ⟨_, rfl⟩
  obtain ⟨H, hH⟩ : ∃ H, H = w.heap.size := ⟨_, rfl⟩
  have HB0 : Hid (Below w.heap.size w W0) := by rw [hW0]; exact (Below.refl _ w).alloc (Nat.le_refl _) _
  have hax : W0.heap[H]? = some (.cells #[.int .i64 op, .slice ca cn cc, .slice pa K pc] 33) := by rw [hW0, hH]; exact heap_alloc_new w _
  have HAX : Hid (∀ V : World, Below W0.heap.size W0 V → V.cell? ⟨H, 0, none⟩ = some (.int .i64 op) ∧ V.cell? ⟨H, 1, none⟩ = some (.slice ca cn cc) ∧ V.cell? ⟨H, 2, none⟩ = some (.slice pa K pc)) := fun V hV =>
    ⟨upC hV (cell_of_row W0 H 0 _ _ _ hax), upC hV (cell_of_row W0 H 1 _ _ _ hax), upC hV (cell_of_row W0 H 2 _ _ _ hax)⟩
  have HNEW : Hid (∀ V : World, Below w.heap.size w V → Calls Try.prog 24 #[.agg #[.int .i64 op, .slice ca cn cc, .slice pa K pc]] V (NewPost n V)) := by
    intro V hV
    rw [hop, hcn, hK]
    exact new_any D n ca pa cc pc V ((hin.later hV D).base hV.size D)
  have HRI : Hid (∀ V : World, Below w.heap.size w V → Calls Try.prog 27 #[.agg #[.int .i64 op, .slice ca cn cc, .slice pa K pc]] V fun e w' => e = .returned (.bool n.ok) ∧ Below V.heap.size V w') := by
    intro V hV
    rw [hop, hcn, hK]
    exact right_any D n ca pa cc pc V ((hin.later hV D).base hV.size D)
  have HSTA : Hid (∀ V : World, Below w.heap.size w V → okN 32 n = true → Calls Try.prog 28 #[.agg #[.int .i64 op, .slice ca cn cc, .slice pa K pc]] V fun e w' => ∃ t : Nat, t ≤ 32 ∧ e = .returned (.int .i64 (t : Int)) ∧ Below V.heap.size V w') := by
    intro V hV hok
    rw [hop, hcn, hK]
    exact stars_any D n 32 ca pa cc pc _ V (hin.later hV D) hok (by omega)
  have HWHO : Hid (∀ V : World, Below w.heap.size w V → okN 32 n = true → Calls Try.prog 29 #[.agg #[.int .i64 op, .slice ca cn cc, .slice pa K pc], .slice a len cap] V (EnPost n.fits xs (fromB len) (len + 1) V)) := by
    intro V hV hok
    rw [hop, hcn, hK]
    exact whole_any D n 32 ca pa cc pc V xs a len cap ((hin.later hV D).base hV.size D) hok (HRD.out.later hV) (by omega)
  rw [← hop, ← hcn, ← hK]
  clear hrd hcap hcm hnone hxs hin hop hcn hK hax hlen
  go_enter Try.func8, Try.ntmps8
  go_upto_region 1 with fail
  rw [← hH, ← hW0]
  clear hH hW0
  go_wp2_with fail
  refine (shown_any W0).mono ?_
  rintro e w1 ⟨rfl, hb1⟩
  obtain ⟨e0, e1, e2⟩ := HAX.out w1 hb1
  have HW1 : Hid (Below W0.heap.size W0 w1) := hb1
  have HB1 : Hid (Below w.heap.size w w1) := HB0.out.trans (hb1.mono HB0.out.size)
  clear hb1
  go_wp2_with fail
  refine (HNEW.out w1 HB1.out).mono ?_
  rintro e w2 ⟨hb2, hcase⟩
  have HB2 : Hid (Below w.heap.size w w2) := HB1.out.trans (hb2.mono HB1.out.size)
  have HW2 : Hid (Below W0.heap.size W0 w2) := HW1.out.trans (hb2.mono HW1.out.size)
  clear e0 e1 e2 HNEW hb2 hmin hcut0
  obtain ⟨e0, e1, e2⟩ := HAX.out w2 HW2.out
  rcases hcase with ⟨hok, bm, rfl, hm⟩ | ⟨hok, rfl⟩
  · have HM2 : Hid (NMach w1.heap.size w2 bm n) := NMach.of hok hm
    have HOK : Hid (okN 32 n = true) := by
      unfold Nd.ok at hok
      simp only [Bool.and_eq_true] at hok
      exact hok.1
    have HFA : Hid (∀ X, AccS (n.piece []).1 (n.piece []).2.2 [(n.piece []).2.1] X ↔ n.fits X) := fun X => accS_fits n hok X
    clear hm hok
    go_wp2_with fail
    refine (HSTA.out w2 HB2.out HOK.out).mono ?_
    rintro e w3 ⟨t, ht, rfl, hb3⟩
    have HB3 : Hid (Below w2.heap.size w2 w3) := hb3
    have HBW3 : Hid (Below w.heap.size w w3) := HB2.out.trans (hb3.mono HB2.out.size)
    clear e0 e1 e2
    obtain ⟨e0, e1, e2⟩ := HAX.out w3 (HW2.out.trans (hb3.mono HW2.out.size))
    clear hb3 HSTA
    by_cases ht3 : (3 : Int) < (t : Int)
    · go_wp2
      go_ret
      exact ⟨rfl, HBW3.out⟩
    · go_wp2_with fail
      refine (HWHO.out w3 HBW3.out HOK.out).mono ?_
      rintro e w4 ⟨v4, G, rfl, ho4, hen4, hb4⟩
      have HB4 : Hid (Below w2.heap.size w2 w4) := HB3.out.trans (hb4.mono HB3.out.size)
      obtain ⟨ga, gc, rfl, _, _, hrg⟩ := rdB_own ho4
      obtain ⟨m, hm⟩ : ∃ m, m = len + 1 := ⟨_, rfl⟩
      rw [← hm] at hrg ⊢
      obtain ⟨gb, go, rfl, hgc⟩ := hrg.2 (by omega)
      have HGC : Hid (∀ (V : World) (k : Nat), Below w4.heap.size w4 V → k ≤ len → V.cell? ⟨gb, go + k, none⟩ = some (.bool (G.getD k false))) := fun V k hV hk => upC hV (hgc k (by omega))
      have HGF : Hid (∀ k, k ≤ len → (G.getD k false = true ↔ n.fits (xs.take k))) := by
        intro k hk
        have h1 := HL.out
        rw [← h1] at hen4
        rw [← ends_whole hen4 k (by omega), List.getD_eq_getElem?_getD]
        cases G[k]? <;> simp
      have hmi : (m : Int) = (len : Int) + 1 := by omega
      have HMI : Hid ((m : Int) = (len : Int) + 1) := hmi
      have hmu : (m : Int) ≤ 31 := by omega
      clear ho4 hen4 hb4 hrg hgc hm hmi e0 e1 e2 HWHO HAX HRI
      obtain ⟨M, hM⟩ : ∃ M, M = (n.piece []).1 := ⟨_, rfl⟩
      obtain ⟨st, hst⟩ : ∃ st, st = (n.piece []).2.1 := ⟨_, rfl⟩
      obtain ⟨en, hen⟩ : ∃ en, en = (n.piece []).2.2 := ⟨_, rfl⟩
      have HMC : Hid (∀ V : World, Below w2.heap.size w2 V → Mach w1.heap.size V bm M st en) := by
        intro V hV
        rw [hM, hst, hen]
        exact HM2.out.2.later hV
      rw [← hM, ← hst, ← hen] at HFA
      have HWF : Hid (WfL M ∧ M.length ≤ 4000 ∧ en < M.length) := by
        obtain ⟨U, q1, q2, q3, q4, q5⟩ := HMC.out w2 (Below.refl _ _)
        exact ⟨q2, by have := szS_len M; omega, q5⟩
      clear hM hst hen
      go_wp2_with fail
      refine (start_any w1.heap.size w4 bm M st en (HMC.out w4 HB4.out)).mono ?_
      rintro e w5 ⟨v5, L5, rfl, ho5, hi5, hb5⟩
      have HO5 : Hid (w5.ownsRow w4.heap.size 3 1 v5 L5.length (L5.map nI) ∧ IsW M en [st] L5 ∧ Below w4.heap.size w4 w5) := ⟨ho5, hi5, hb5⟩
      clear ho5 hi5 hb5
      have hli : (len : Int) ≤ 30 := by omega
      go_wp2
      go_loopw [9, 10, 11] (fun x9 x10 _ wr => ∃ k : Nat, k ≤ len + 1 ∧ x10 = .int .i64 k ∧ Below w4.heap.size w4 wr ∧ (k ≤ len → ∃ L ats, wr.ownsRow w4.heap.size 3 1 x9 L.length (L.map nI) ∧ IsW M en ats L ∧ ∀ u, AccS M en [st] (xs.take k ++ u) ↔ AccS M en ats u)) (fun _ x10 _ _ => len + 1 - (intOf x10).toNat)
      case atStart => exact ⟨0, by omega, rfl, HO5.out.2.2, fun _ => ⟨L5, [st], HO5.out.1, HO5.out.2.1, fun u => Iff.rfl⟩⟩
      case round =>
        obtain ⟨wo, hwo⟩ : ∃ W : World, W = wr := ⟨_, rfl⟩
        subst hwo
        obtain ⟨k, hk, hx10, hbl, hrest⟩ := hrel
        subst hx10
        have HBL : Hid (Below w4.heap.size w4 wo) := hbl
        have HB2L : Hid (Below w2.heap.size w2 wo) := HB4.out.trans (hbl.mono HB4.out.size)
        have HBWL : Hid (Below w.heap.size w wo) := HB2.out.trans (HB2L.out.mono HB2.out.size)
        clear hbl HO5
        by_cases hlt : k ≤ len
        · obtain ⟨L, ats, ho, hi, hacc⟩ := hrest hlt
          obtain ⟨av, cv, hav, hrk⟩ := set_rd ho
          subst hav
          obtain ⟨nl, hnl⟩ : ∃ nl, nl = L.length := ⟨_, rfl⟩
          have hnb : nl ≤ 4000 := by rw [hnl]; have := isW_len hi; have := HWF.out.2.1; omega
          rw [← hnl] at hrk ⊢
          obtain ⟨b, hb⟩ : ∃ b, b = G.getD k false := ⟨_, rfl⟩
          have hben : decide ((en : Int) ∈ toI L) = b := by
            rw [Bool.eq_iff_iff, decide_eq_true_eq, toI_mem, isW_nil hi HWF.out.2.2, hb, HGF.out k hlt, ← HFA.out, ← hacc, List.append_nil]
          have HACC : Hid (∀ V : World, Below wo.heap.size wo V → Calls Try.prog 31 #[.pointer (some ⟨bm, 0, none⟩), .slice av nl cv] V fun e w' => e = .returned (.bool b) ∧ Below wo.heap.size wo w') := by
            intro V hV
            rw [← hben]
            refine (accepts_any w1.heap.size V bm M st en (toI L) av nl cv (HMC.out V (HB2L.out.trans (hV.mono HB2L.out.size))) (hrk.later hV) (by omega)).mono ?_
            rintro e w' ⟨h1, h2⟩
            exact ⟨h1, by rw [h2]; exact hV⟩
          have HMAT : Hid (∀ V : World, Below wo.heap.size wo V → Calls Try.prog 32 #[.pointer (some ⟨bm, 0, none⟩), .slice a k cap] V fun e w' => e = .returned (.bool b) ∧ Below wo.heap.size wo w') := by
            intro V hV
            refine (matchT_any w1.heap.size V bm n (xs.take k) a k cap (HM2.out.later (HB2L.out.trans (hV.mono HB2L.out.size))) ((HRD.out.later (HBWL.out.trans (hV.mono HBWL.out.size))).take k hlt) (by omega) b (by rw [hb]; exact HGF.out k hlt)).mono ?_
            rintro e w' ⟨h1, h2⟩
            exact ⟨h1, hV.trans (h2.mono hV.size)⟩
          have HKP : Hid (∀ V : World, Below wo.heap.size wo V → V.cell? ⟨gb, go + k, none⟩ = some (.bool b)) := fun V hV => by rw [hb]; exact HGC.out V k (HBL.out.trans (hV.mono HBL.out.size)) hlt
          have hcutk := HCUT.out k hlt
          have HI : Hid (IsW M en ats L) := hi
          have HAC : Hid (∀ u, AccS M en [st] (xs.take k ++ u) ↔ AccS M en ats u) := hacc
          have HRK : Hid (∀ V : World, Below wo.heap.size wo V → Rd .i64 V av nl (toI L)) := fun V hV => hrk.later hV
          have HNL : Hid (nl = L.length) := hnl
          have HDW : Hid (Below wo.heap.size wo wo.drew) := (Below.refl _ _).drew
          have hkm : (k : Int) < (m : Int) := by have := HMI.out; omega
          have hk0 : (0 : Int) ≤ (k : Int) := by omega
          have hkl : (k : Int) ≤ (len : Int) := by omega
          clear hrest ho hi hacc hrk hnl hb hben
          have hbb : (b != b) = false := by simp
          go_upto_region 13 with fail
          go_cut [69] (fun x69 wx => x69 = .bool false ∧ Below wo.heap.size wo wx)
          case first =>
            go_region_held3 (fun w' => w'.cell? ⟨gb, go + k, none⟩ = some (.bool b))
              (first | exact HKP.out _ HDW.out | exact HKP.out _ (Below.refl _ _) | exact HKP.out _ HB6.out | exact HKP.out _ HB7.out)
              (first
                | (go_at_call 31; refine (HACC.out _ (by first | exact HDW.out | exact Below.refl _ _)).mono ?_; rintro e w6 ⟨rfl, hb6⟩; have HB6 : Hid (Below wo.heap.size wo w6) := hb6; clear hb6)
                | (go_at_call 32; refine (HMAT.out _ (by exact HB6.out)).mono ?_; rintro e w7 ⟨rfl, hb7⟩; have HB7 : Hid (Below wo.heap.size wo w7) := hb7; clear hb7))
            all_goals
              go_wp2
              go_meet
              exact ⟨rfl, HB7.out⟩
          case rest =>
            obtain ⟨h69, hbc⟩ := hcut
            subst h69
            obtain ⟨w7, hw7⟩ : ∃ W, W = wc := ⟨_, rfl⟩
            rw [← hw7] at hbc ⊢
            clear hw7
            have HB7 : Hid (Below wo.heap.size wo w7) := hbc
            clear hbc HACC HMAT HKP hbb hcutk
            have hnbi : (nl : Int) ≤ 4000 := by omega
            go_wp2
            go_loopw [11] (fun x11 wr => ∃ j : Nat, 1 ≤ j ∧ (j ≤ nl ∨ j = 1) ∧ x11 = .int .i64 j ∧ Below wo.heap.size wo wr) (fun x11 _ => nl - (intOf x11).toNat)
            case atStart => exact ⟨1, by omega, .inr rfl, rfl, HB7.out⟩
            case round =>
              obtain ⟨j, hj1, hj2, hx11, hbj⟩ := hrel
              subst hx11
              have HBJ : Hid (Below wo.heap.size wo wr) := hbj
              clear hbj
              by_cases hjl : j < nl
              · obtain ⟨bb, oo, rfl, hcc⟩ := (HRK.out wr HBJ.out).2 (by omega)
                have z1 := hcc j hjl
                have z0 := hcc (j - 1) (by omega)
                obtain ⟨p, hp⟩ : ∃ p : Nat, j = p + 1 := ⟨j - 1, by omega⟩
                obtain ⟨x, hx⟩ : ∃ x, x = (toI L).getD j 0 := ⟨_, rfl⟩
                obtain ⟨y, hy⟩ : ∃ y, y = (toI L).getD (j - 1) 0 := ⟨_, rfl⟩
                have hxy : decide (x ≤ y) = false := by
                  rw [decide_eq_false_iff_not, hx, hy]
                  exact rises HI.out.1 j hj1 (by rw [← HNL.out]; exact hjl)
                rw [← hx] at z1
                rw [← hy] at z0
                have hji : (j : Int) < (nl : Int) := by omega
                have hj0 : (0 : Int) ≤ (j : Int) := by omega
                have hpj : (j : Int) - 1 = (p : Int) := by omega
                have hpw : IntKind.i64.wrap ((j : Int) - 1) = (p : Int) := by rw [IntKind.wrap_i64]; omega
                have hp0 : (0 : Int) ≤ (p : Int) := by omega
                have hpl : (p : Int) < (nl : Int) := by omega
                rw [show j - 1 = p by omega] at z0
                clear hx hy hp hcc
                go_wp2_with fail
                go_quiet (fail)
                go_wp2
                go_roundw
                case rel => exact ⟨j + 1, by omega, by omega, by go_num, bdN HBJ.out _⟩
                case measure => simp [intOf]; omega
              · have hjni : ¬ (j : Int) < (nl : Int) := by omega
                have HB4J : Hid (Below w4.heap.size w4 wr) := HBL.out.trans (HBJ.out.mono HBL.out.size)
                by_cases hkl2 : k < len
                · have hkx : k < xs.length := by rw [HL.out]; exact hkl2
                  have HBWJ : Hid (Below w.heap.size w wr) := HBWL.out.trans (HBJ.out.mono HBWL.out.size)
                  obtain ⟨bb, oo, rfl, hcc⟩ := (HRD.out.later HBWJ.out).2 (by omega)
                  have z1 := hcc k hkl2
                  obtain ⟨x, hx⟩ : ∃ x, x = xs.getD k 0 := ⟨_, rfl⟩
                  have hxk : x = xs[k] := by rw [hx]; simp [hkx]
                  rw [← hx] at z1
                  have hki : (k : Int) < (len : Int) := by omega
                  have HNA : Hid (∀ u, AccS M en [st] (xs.take (k + 1) ++ u) ↔ AccS M en (stepAt M (toI L) x) u) := by
                    intro u
                    rw [take_snoc xs k hkx, ← hxk, List.append_assoc, HAC.out]
                    exact isW_cons HWF.out.1 HI.out x u
                  have HC : Hid (Calls Try.prog 33 #[.pointer (some ⟨bm, 0, none⟩), .slice av nl cv, .int .i64 x] wr (SetPost M en (stepAt M (toI L) x) wr)) := step_any w1.heap.size wr bm M st en (toI L) x av nl cv (HMC.out wr (HB4.out.trans (HB4J.out.mono HB4.out.size))) (HRK.out wr HBJ.out) (by omega)
                  clear hcc hx hxk
                  go_wp2_with fail
                  refine HC.out.mono ?_
                  rintro e w8 ⟨v8, L8, rfl, ho8, hi8, hb8⟩
                  have HN : Hid (w8.ownsRow w4.heap.size 3 1 v8 L8.length (L8.map nI) ∧ IsW M en (stepAt M (toI L) x) L8 ∧ Below w4.heap.size w4 w8) := ⟨own_up ho8 HB4J.out.size, hi8, HB4J.out.trans (hb8.mono HB4J.out.size)⟩
                  clear ho8 hi8 hb8 HC z1
                  go_wp2
                  go_roundw
                  case rel => exact ⟨k + 1, by omega, by go_num, HN.out.2.2, fun _ => ⟨L8, _, HN.out.1, HN.out.2.1, HNA.out⟩⟩
                  case measure => simp [intOf]; omega
                · have hki : ¬ (k : Int) < (len : Int) := by omega
                  go_wp2
                  go_roundw
                  case rel => exact ⟨k + 1, by omega, by go_num, HB4J.out, fun h => absurd h (by omega)⟩
                  case measure => simp [intOf]; omega
        · have hki : ¬ (k : Int) ≤ (len : Int) := by omega
          clear hrest
          go_wp2
          go_ret
          exact ⟨rfl, HBWL.out⟩
  · go_wp2_with fail
    refine (HRI.out w2 HB2.out).mono ?_
    rintro e w3 ⟨rfl, hb3⟩
    have HB3 : Hid (Below w.heap.size w w3) := HB2.out.trans (hb3.mono HB2.out.size)
    rw [hok]
    clear hb3 e0 e1 e2
    go_wp2
    go_ret
    exact ⟨rfl, HB3.out⟩
end Go.Proofs.Ytjbhfonokgkalaa
