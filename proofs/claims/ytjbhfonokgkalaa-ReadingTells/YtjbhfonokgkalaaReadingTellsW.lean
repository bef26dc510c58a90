/- The walk of ReadingTells. -/
import Derived.Test.YtjbhfonokgkalaaReaRd
namespace Go.Proofs.Ytjbhfonokgkalaa
open Go.RowKit
set_option linter.unusedVariables false
set_option linter.unusedSimpArgs false

set_option maxRecDepth 100000 in
set_option maxHeartbeats 16000000 in
theorem readingTells_walk (D : Nat) (l : List Rl) (xs : List Int) (al a : Option Addr) (n c len cap : Nat) (p : Int) (w : World) (hrow : RowR w D al n l) (hn : n ≤ 140737488355328) (hrd : Rd .i64 w a len xs) (hcap : len ≤ cap) (hcm : cap ≤ 9223372036854775807) (hnone : a = none → cap = 0) :
    Calls Try.prog 3 #[.slice al n c, .slice a len cap, .int .i64 p] w fun e w' => e = .returned (.bool true) ∧ Below w.heap.size w w' := by
  obtain ⟨i0, hi, hz0, hz1, hz2⟩ := info_parts info_i
  have HI : Hid (Try.prog.info? 3 = some i0 ∧ i0.zero = some (.int .i64 0) ∧ i0.size = 1 ∧ i0.bytes = 8) := ⟨hi, hz0, hz1, hz2⟩
  have HF : Hid (∀ W, Below w.heap.size w W → Calls Try.prog 10 #[.slice al n c, .slice a len cap] W (FewPost l xs W)) := fun W hW => few_any D l xs al a n c len cap W (hrow.later hW) hn (hrd.later hW) hcap hcm hnone
  clear hi hz0 hz1 hz2 hrow hn hrd hcap hcm hnone
  go_enter Try.func3, Try.ntmps3
  go_wp2_with fail
  refine (shown_any w).mono ?_
  rintro e w1 ⟨rfl, hb1⟩
  have B1 : Hid (Below w.heap.size w w1) := hb1
  clear hb1
  go_wp2_with fail
  refine (HF.out w1 B1.out).mono ?_
  rintro e w2 ⟨v1, a2, c2, rfl, hou, hox, hb2⟩
  have B2 : Hid (Below w.heap.size w w2) := B1.out.trans (hb2.mono B1.out.size)
  obtain ⟨L, hL⟩ : ∃ L, L = fewR l := ⟨_, rfl⟩
  obtain ⟨X, hX⟩ : ∃ X, X = xs.take 16 := ⟨_, rfl⟩
  obtain ⟨m, hm⟩ : ∃ m, m = X.length := ⟨_, rfl⟩
  have hL10 : L.length ≤ 10 := by rw [hL]; exact fewR_len l
  have hm16 : m ≤ 16 := by rw [hm, hX]; simp; omega
  rw [← hX, ← hm] at hox ⊢
  rw [← hL] at hou
  obtain ⟨a2', c2', he, hc2, hc2m, hrdx, hn2⟩ := rd_own2 hox
  cases he
  obtain ⟨al2, cl2, rfl, hrowl⟩ := hou.row
  obtain ⟨N, hN⟩ : ∃ N, N = L.length := ⟨_, rfl⟩
  rw [← hN] at hrowl ⊢
  have HRX : Hid (Rd .i64 w2 a2 m X ∧ m ≤ c2 ∧ (a2 = none → c2 = 0)) := ⟨hrdx, hc2, hn2⟩
  have HRW : Hid (RowR w2 12 al2 N L) := hrowl
  have hN10 : N ≤ 10 := by omega
  have HN : Hid (N = L.length ∧ m = X.length) := ⟨hN, hm⟩
  have hmi : (m : Int) ≤ 16 := by omega
  have hNi : (N : Int) ≤ 10 := by omega
  have HO0 : Hid ((w2.alloc (.cells #[] 3)).ownsRow w2.heap.size 3 1 (.slice (some ⟨w2.heap.size, 0, none⟩) 0 0) 0 []) := World.ownsRow_made w2 #[] 0 (Nat.le_refl _) (by simp [maxLen]) rfl
  have HRA : Hid (Rd .i64 (w2.alloc (.cells #[] 3)) a2 m X) := hrdx.later ((Below.refl _ w2).alloc (Nat.le_refl _) _)
  have HNE : Hid (a2 = none → c2 = 0) := hn2
  clear hou hox hb2 hL hX hm hL10 hc2 hc2m hrdx hn2 hrowl hN HF
  go_wp2_with (at_builtin; refine wpList_append_rd rfl _ _ 23 rfl w2.heap.size 3 i0 _ 8 Try.underlying23 HI.out.1 HI.out.2.1 HI.out.2.2.1 HI.out.2.2.2 rfl _ 0 [] rfl HO0.out a2 m c2 .i64 X rfl HRA.out HNE.out (by unfold maxLen; omega) (by omega) (by simp) (fun v' w3 q1 q2 => ?_); rw [Nat.zero_add, List.nil_append] at q1; obtain ⟨a3, c3, rfl, hc3, _, hr3, hn3⟩ := rd_own2 q1; have HR3 : Hid (Rd .i64 w3 a3 m X ∧ m ≤ c3 ∧ (a3 = none → c3 = 0)) := ⟨hr3, hc3, hn3⟩; have B23 : Hid (Below w2.heap.size w2 w3) := ((Below.refl _ w2).alloc (Nat.le_refl _) _).grown q2 (by simp) (fun k hk => by cases hk; exact Nat.le_refl _); clear q1 q2 hc3 hr3 hn3)
  have HBX : Hid (Calls Try.prog 11 #[.slice al2 N cl2, .slice a3 m c3] w3 (RowPost (boundL L X) w3)) := boundaries_any 12 L X al2 a3 N cl2 m c3 w3 (HRW.out.later B23.out) (by omega) (by omega) HR3.out.1 HR3.out.2.1 HR3.out.2.2 (by omega)
  refine HBX.out.mono ?_
  rintro e w4 ⟨v4, rfl, ho4, hb4⟩
  have B24 : Hid (Below w2.heap.size w2 w4) := B23.out.trans (hb4.mono B23.out.size)
  have B34 : Hid (Below w3.heap.size w3 w4) := hb4
  rw [boundL_len, ← HN.out.2] at ho4
  obtain ⟨a4, c4, rfl, _, _, hr4⟩ := rdT_own ho4
  have HR4 : Hid (RdT w4 a4 (m + 1) (boundL L X)) := hr4
  have HBR : Hid (Calls Try.prog 13 #[.slice al2 N cl2, .slice a2 m c2] w4 (BoPost (boundL L X) (m + 1) w4)) := boundR_any 12 L X al2 a2 N cl2 m c2 w4 (HRW.out.later B24.out) (by omega) (HRX.out.1.later B24.out) (by omega)
  clear ho4 hb4 hr4 HBX
  go_wp2_with fail
  refine HBR.out.mono ?_
  rintro e w5 ⟨v5, rfl, ho5, hb5⟩
  have B25 : Hid (Below w2.heap.size w2 w5) := B24.out.trans (hb5.mono B24.out.size)
  have B35 : Hid (Below w3.heap.size w3 w5) := B34.out.trans (hb5.mono B34.out.size)
  obtain ⟨a5, c5, rfl, _, _, hr5⟩ := rdT_own ho5
  have HSM : Hid (Calls Try.prog 12 #[.slice a4 (m + 1) c4, .slice a5 (m + 1) c5] w5 fun e w' => e = .returned (.bool true) ∧ Below w5.heap.size w5 w') := by
    have h1 := sameL_any (boundL L X) (boundL L X) a4 a5 (m + 1) c4 c5 w5 (HR4.out.later hb5) hr5 (by omega)
    have h2 : Calls Try.prog 12 #[.slice a4 (m + 1) c4, .slice a5 (m + 1) c5] w5 fun e w' => e = .returned (.bool true) ∧ Below w5.heap.size w5 w' := by simpa using h1
    exact h2
  clear ho5 hb5 hr5 HBR
  go_wp2_with fail
  refine HSM.out.mono ?_
  rintro e w6 ⟨rfl, hb6⟩
  have B26 : Hid (Below w2.heap.size w2 w6) := B25.out.trans (hb6.mono B25.out.size)
  have B36 : Hid (Below w3.heap.size w3 w6) := B35.out.trans (hb6.mono B35.out.size)
  clear hb6 HSM
  have HX3 : Hid (∀ V : World, Below w6.heap.size w6 V → Rd .i64 V a3 m X ∧ Rd .i64 V a2 m X) := fun V hV => ⟨(HR3.out.1.later B36.out).later hV, (HRX.out.1.later B26.out).later hV⟩
  have HRV : Hid (∀ V : World, Below w6.heap.size w6 V → RowR V 12 al2 N L) := fun V hV => (HRW.out.later B26.out).later hV
  have HFT : Hid (∀ (V : World) (r : Rl) (q : RlP) (P : Int), Below w6.heap.size w6 V → RlAt V 12 r q → Calls Try.prog 14 #[.agg (r.vals q), .slice a3 m c3, .int .i64 P] V fun e w' => e = .returned (.bool (fitI r X P)) ∧ Below w6.heap.size w6 w') := by
    intro V r q P hV hr
    refine (fits_any 12 r q X a3 m c3 P V hr (by omega) (HX3.out V hV).1 HR3.out.2.1 HR3.out.2.2 (by omega)).mono ?_
    rintro e w' ⟨h1, h2⟩
    exact ⟨h1, hV.trans (h2.mono hV.size)⟩
  have HFR : Hid (∀ (V : World) (r : Rl) (q : RlP) (P : Int), Below w6.heap.size w6 V → RlAt V 12 r q → Calls Try.prog 15 #[.agg (r.vals q), .slice a2 m c2, .int .i64 P] V fun e w' => e = .returned (.bool (fitI r X P)) ∧ Below w6.heap.size w6 w') := by
    intro V r q P hV hr
    refine (fitsR_any 12 r q X a2 m c2 P V hr (HX3.out V hV).2 (by omega)).mono ?_
    rintro e w' ⟨h1, h2⟩
    exact ⟨h1, hV.trans (h2.mono hV.size)⟩
  have HWA : Hid (∀ (V : World) (P : Int), Below w6.heap.size w6 V → Calls Try.prog 16 #[.slice al2 N cl2, .slice a3 m c3, .int .i64 P] V fun e w' => e = .returned (.int .i64 (firstI (fun r => fitI r X P) L)) ∧ Below w6.heap.size w6 w') := by
    intro V P hV
    refine (which_any 12 L X al2 a3 N cl2 m c3 P V (HRV.out V hV) (by omega) (by omega) (HX3.out V hV).1 HR3.out.2.1 HR3.out.2.2 (by omega)).mono ?_
    rintro e w' ⟨h1, h2⟩
    exact ⟨h1, hV.trans (h2.mono hV.size)⟩
  have HWB : Hid (∀ (V : World) (P : Int), Below w6.heap.size w6 V → Calls Try.prog 17 #[.slice al2 N cl2, .slice a2 m c2, .int .i64 P] V fun e w' => e = .returned (.int .i64 (firstI (fun r => fitI r X P) L)) ∧ Below w6.heap.size w6 w') := by
    intro V P hV
    refine (whichR_any 12 L X al2 a2 N cl2 m c2 P V (HRV.out V hV) (by omega) (HX3.out V hV).2 (by omega)).mono ?_
    rintro e w' ⟨h1, h2⟩
    exact ⟨h1, hV.trans (h2.mono hV.size)⟩
  have BW6 : Hid (Below w.heap.size w w6) := B2.out.trans (B26.out.mono B2.out.size)
  have hand : bits .and .i64 p 15 = p % 16 := by rw [and_low p 15 4 (by omega) (by decide)]; rfl
  clear HR4
  obtain ⟨P, hP⟩ : ∃ P : Int, P = if p < -1 ∨ 17 < p then p % 16 else p := ⟨_, rfl⟩
  have hsplit : (p < -1 ∧ bits .and .i64 p 15 = P) ∨ (¬ p < -1 ∧ 17 < p ∧ bits .and .i64 p 15 = P) ∨ (¬ p < -1 ∧ ¬ 17 < p ∧ p = P) := by
    rw [hP, hand]
    by_cases h1 : p < -1
    · exact .inl ⟨h1, by rw [if_pos (.inl h1)]⟩
    · by_cases h2 : 17 < p
      · exact .inr (.inl ⟨h1, h2, by rw [if_pos (.inr h2)]⟩)
      · exact .inr (.inr ⟨h1, h2, by rw [if_neg (by omega)]⟩)
  clear hP hand
  rcases hsplit with ⟨hq1, hq2⟩ | ⟨hq1, hq2, hq3⟩ | ⟨hq1, hq2, hq3⟩
  rotate_left
  rotate_left
  · obtain rfl : P = p := hq3.symm
    go_upto_region 8 with fail
    clear hq1 hq2
    go_wp2
    go_loopw [11] (fun x11 wr => ∃ k : Nat, k ≤ N ∧ x11 = .int .i64 k ∧ Below w6.heap.size w6 wr) (fun x11 _ => N - (intOf x11).toNat)
    case atStart => exact ⟨0, by omega, rfl, Below.refl _ _⟩
    case round =>
      obtain ⟨wo, hwo⟩ : ∃ W : World, W = wr := ⟨_, rfl⟩
      subst hwo
      obtain ⟨k, hk, hx11, hbl⟩ := hrel
      subst hx11
      have HBL : Hid (Below w6.heap.size w6 wo) := hbl
      clear hbl
      by_cases hlt : k < N
      · have hkl : k < L.length := by rw [← HN.out.1]; exact hlt
        have hki : (k : Int) < (N : Int) := by omega
        have hk0 : (0 : Int) ≤ (k : Int) := by omega
        obtain ⟨b, off, q, rfl, hr, t0, t1, t2, t3, t4, t5, t6, t7⟩ := (HRV.out wo HBL.out).cells k hkl
        obtain ⟨F, hF⟩ : ∃ F, F = fitI L[k] X P := ⟨_, rfl⟩
        have HCA : Hid (∀ V : World, Below wo.heap.size wo V → Calls Try.prog 14 #[.agg (L[k].vals q), .slice a3 m c3, .int .i64 P] V fun e w' => e = .returned (.bool F) ∧ Below wo.heap.size wo w') := by
          intro V hV
          rw [hF]
          have hV6 := HBL.out.trans (hV.mono HBL.out.size)
          refine (fits_any 12 L[k] q X a3 m c3 P V (hr.later hV) (by omega) (HX3.out V hV6).1 HR3.out.2.1 HR3.out.2.2 (by omega)).mono ?_
          rintro e w' ⟨h1, h2⟩
          exact ⟨h1, hV.trans (h2.mono hV.size)⟩
        have HCB : Hid (∀ V : World, Below wo.heap.size wo V → Calls Try.prog 15 #[.agg (L[k].vals q), .slice a2 m c2, .int .i64 P] V fun e w' => e = .returned (.bool F) ∧ Below wo.heap.size wo w') := by
          intro V hV
          rw [hF]
          have hV6 := HBL.out.trans (hV.mono HBL.out.size)
          refine (fitsR_any 12 L[k] q X a2 m c2 P V (hr.later hV) (HX3.out V hV6).2 (by omega)).mono ?_
          rintro e w' ⟨h1, h2⟩
          exact ⟨h1, hV.trans (h2.mono hV.size)⟩
        obtain ⟨r, hrr⟩ : ∃ r, r = L[k] := ⟨_, rfl⟩
        rw [← hrr] at t0 t1 t2 t3 t4 t5 t6 t7 HCA HCB
        obtain ⟨la, lc, lp, lpc, ra, rc, rp, rpc⟩ := q
        obtain ⟨lo, hlo⟩ : ∃ lo, lo = r.left.op := ⟨_, rfl⟩
        obtain ⟨ln, hln⟩ : ∃ ln, ln = r.left.cl.length := ⟨_, rfl⟩
        obtain ⟨lk, hlk⟩ : ∃ lk, lk = (toL r.left.kids).length := ⟨_, rfl⟩
        obtain ⟨ro, hro⟩ : ∃ ro, ro = r.right.op := ⟨_, rfl⟩
        obtain ⟨rn, hrn⟩ : ∃ rn, rn = r.right.cl.length := ⟨_, rfl⟩
        obtain ⟨rk, hrk⟩ : ∃ rk, rk = (toL r.right.kids).length := ⟨_, rfl⟩
        obtain ⟨st, hst⟩ : ∃ st, st = r.start := ⟨_, rfl⟩
        obtain ⟨br, hbr⟩ : ∃ br, br = r.brk := ⟨_, rfl⟩
        simp only [Rl.vals, ← hlo, ← hln, ← hlk, ← hro, ← hrn, ← hrk, ← hst, ← hbr] at HCA HCB t0 t1 t2 t3 t4 t5 t6 t7
        have HSS : Hid (∀ w' : World, Below wo.heap.size wo w' → w'.cell? ⟨b, off + k * 8, none⟩ = some (.int .i64 lo) ∧ w'.cell? ⟨b, off + k * 8 + 1, none⟩ = some (.slice la ln lc) ∧ w'.cell? ⟨b, off + k * 8 + 2, none⟩ = some (.slice lp lk lpc) ∧ w'.cell? ⟨b, off + k * 8 + 3, none⟩ = some (.int .i64 ro) ∧ w'.cell? ⟨b, off + k * 8 + 4, none⟩ = some (.slice ra rn rc) ∧ w'.cell? ⟨b, off + k * 8 + 5, none⟩ = some (.slice rp rk rpc) ∧ w'.cell? ⟨b, off + k * 8 + 6, none⟩ = some (.bool br) ∧ w'.cell? ⟨b, off + k * 8 + 7, none⟩ = some (.bool st)) := fun V hV => ⟨upC hV t0, upC hV t1, upC hV t2, upC hV t3, upC hV t4, upC hV t5, upC hV t6, upC hV t7⟩
        have HDW : Hid (Below wo.heap.size wo wo.drew) := (Below.refl _ _).drew
        have hbb : (F != F) = false := by simp
        clear hr hrr hF hlo hln hlk hro hrn hrk hst hbr t0 t1 t2 t3 t4 t5 t6 t7
        go_upto_region 11 with fail
        go_cut [59] (fun x59 wx => x59 = .bool false ∧ Below wo.heap.size wo wx)
        case first =>
          go_region_held3 (fun w' => w'.cell? ⟨b, off + k * 8, none⟩ = some (.int .i64 lo) ∧ w'.cell? ⟨b, off + k * 8 + 1, none⟩ = some (.slice la ln lc) ∧ w'.cell? ⟨b, off + k * 8 + 2, none⟩ = some (.slice lp lk lpc) ∧ w'.cell? ⟨b, off + k * 8 + 3, none⟩ = some (.int .i64 ro) ∧ w'.cell? ⟨b, off + k * 8 + 4, none⟩ = some (.slice ra rn rc) ∧ w'.cell? ⟨b, off + k * 8 + 5, none⟩ = some (.slice rp rk rpc) ∧ w'.cell? ⟨b, off + k * 8 + 6, none⟩ = some (.bool br) ∧ w'.cell? ⟨b, off + k * 8 + 7, none⟩ = some (.bool st))
            (first | exact HSS.out _ HDW.out | exact HSS.out _ (Below.refl _ _) | exact HSS.out _ H7.out | exact HSS.out _ H8.out)
            (first
              | (go_at_call 14; refine (HCA.out _ (by first | exact HDW.out | exact H8.out)).mono ?_; rintro e w7 ⟨rfl, hb7⟩; have H7 : Hid (Below wo.heap.size wo w7) := hb7; clear hb7)
              | (go_at_call 15; refine (HCB.out _ (by first | exact H7.out | exact HDW.out)).mono ?_; rintro e w8 ⟨rfl, hb8⟩; have H8 : Hid (Below wo.heap.size wo w8) := hb8; clear hb8))
          all_goals
            go_wp2
            go_meet
            first | exact ⟨rfl, H8.out⟩ | exact ⟨rfl, H7.out⟩
        case rest =>
          obtain ⟨hx59, hbc⟩ := hcut
          subst hx59
          have HBC : Hid (Below w6.heap.size w6 wc) := HBL.out.trans (hbc.mono HBL.out.size)
          clear hbc
          go_wp2
          go_roundw
          case rel => exact ⟨k + 1, by omega, by go_num, HBC.out⟩
          case measure => simp [intOf]; omega
      · obtain rfl : k = N := by omega
        have hki : ¬ (k : Int) < (k : Int) := by omega
        clear hki
        go_wp2
        go_loopw [12] (fun x12 wr => ∃ j : Nat, j ≤ m ∧ x12 = .int .i64 j ∧ Below w6.heap.size w6 wr) (fun x12 _ => m - (intOf x12).toNat)
        case atStart => exact ⟨0, by omega, rfl, HBL.out⟩
        case round =>
          obtain ⟨j, hj, hx12, hbj⟩ := hrel
          subst hx12
          have HBJ : Hid (Below w6.heap.size w6 wr) := hbj
          clear hbj
          by_cases hjm : j < m
          · obtain ⟨z1, z2⟩ := HX3.out wr HBJ.out
            obtain ⟨b1, o1, he1, e1⟩ := z1.2 (by omega)
            obtain ⟨b2, o2, he2, e2⟩ := z2.2 (by omega)
            have u1 := e1 j hjm
            have u2 := e2 j hjm
            obtain ⟨x, hx⟩ : ∃ x, x = X.getD j 0 := ⟨_, rfl⟩
            rw [← hx] at u1 u2
            subst he1 he2
            have hji : (j : Int) < (m : Int) := by omega
            have hj0 : (0 : Int) ≤ (j : Int) := by omega
            have hxx : (x != x) = false := by simp
            clear z1 z2 e1 e2 hx
            go_wp2_with fail
            go_quiet (fail)
            go_wp2
            go_roundw
            case rel => exact ⟨j + 1, by omega, by go_num, below_drewN HBJ.out _⟩
            case measure => simp [intOf]; omega
          · have hji : ¬ (j : Int) < (m : Int) := by omega
            obtain ⟨J, hJ⟩ : ∃ J, J = firstI (fun r => fitI r X P) L := ⟨_, rfl⟩
            have HCA : Hid (Calls Try.prog 16 #[.slice al2 k cl2, .slice a3 m c3, .int .i64 P] wr fun e w' => e = .returned (.int .i64 J) ∧ Below w6.heap.size w6 w') := by rw [hJ]; exact HWA.out wr P HBJ.out
            have HCB : Hid (∀ V : World, Below w6.heap.size w6 V → Calls Try.prog 17 #[.slice al2 k cl2, .slice a2 m c2, .int .i64 P] V fun e w' => e = .returned (.int .i64 J) ∧ Below w6.heap.size w6 w') := fun V hV => by rw [hJ]; exact HWB.out V P hV
            have hJJ : (J == J) = true := by simp
            clear hJ
            go_wp2_with fail
            refine HCA.out.mono ?_
            rintro e w7 ⟨rfl, hb7⟩
            have H7 : Hid (Below w6.heap.size w6 w7) := hb7
            clear hb7 HCA
            go_wp2_with fail
            refine (HCB.out w7 H7.out).mono ?_
            rintro e w8 ⟨rfl, hb8⟩
            have H8 : Hid (Below w.heap.size w w8) := BW6.out.trans (hb8.mono BW6.out.size)
            clear hb8 HCB
            go_wp2
            go_ret
            exact ⟨rfl, H8.out⟩
  · go_upto_region 8 with fail
    clear hq1 hq2
    go_wp2
    go_loopw [11] (fun x11 wr => ∃ k : Nat, k ≤ N ∧ x11 = .int .i64 k ∧ Below w6.heap.size w6 wr) (fun x11 _ => N - (intOf x11).toNat)
    case atStart => exact ⟨0, by omega, rfl, Below.refl _ _⟩
    case round =>
      obtain ⟨wo, hwo⟩ : ∃ W : World, W = wr := ⟨_, rfl⟩
      subst hwo
      obtain ⟨k, hk, hx11, hbl⟩ := hrel
      subst hx11
      have HBL : Hid (Below w6.heap.size w6 wo) := hbl
      clear hbl
      by_cases hlt : k < N
      · have hkl : k < L.length := by rw [← HN.out.1]; exact hlt
        have hki : (k : Int) < (N : Int) := by omega
        have hk0 : (0 : Int) ≤ (k : Int) := by omega
        obtain ⟨b, off, q, rfl, hr, t0, t1, t2, t3, t4, t5, t6, t7⟩ := (HRV.out wo HBL.out).cells k hkl
        obtain ⟨F, hF⟩ : ∃ F, F = fitI L[k] X P := ⟨_, rfl⟩
        have HCA : Hid (∀ V : World, Below wo.heap.size wo V → Calls Try.prog 14 #[.agg (L[k].vals q), .slice a3 m c3, .int .i64 P] V fun e w' => e = .returned (.bool F) ∧ Below wo.heap.size wo w') := by
          intro V hV
          rw [hF]
          have hV6 := HBL.out.trans (hV.mono HBL.out.size)
          refine (fits_any 12 L[k] q X a3 m c3 P V (hr.later hV) (by omega) (HX3.out V hV6).1 HR3.out.2.1 HR3.out.2.2 (by omega)).mono ?_
          rintro e w' ⟨h1, h2⟩
          exact ⟨h1, hV.trans (h2.mono hV.size)⟩
        have HCB : Hid (∀ V : World, Below wo.heap.size wo V → Calls Try.prog 15 #[.agg (L[k].vals q), .slice a2 m c2, .int .i64 P] V fun e w' => e = .returned (.bool F) ∧ Below wo.heap.size wo w') := by
          intro V hV
          rw [hF]
          have hV6 := HBL.out.trans (hV.mono HBL.out.size)
          refine (fitsR_any 12 L[k] q X a2 m c2 P V (hr.later hV) (HX3.out V hV6).2 (by omega)).mono ?_
          rintro e w' ⟨h1, h2⟩
          exact ⟨h1, hV.trans (h2.mono hV.size)⟩
        obtain ⟨r, hrr⟩ : ∃ r, r = L[k] := ⟨_, rfl⟩
        rw [← hrr] at t0 t1 t2 t3 t4 t5 t6 t7 HCA HCB
        obtain ⟨la, lc, lp, lpc, ra, rc, rp, rpc⟩ := q
        obtain ⟨lo, hlo⟩ : ∃ lo, lo = r.left.op := ⟨_, rfl⟩
        obtain ⟨ln, hln⟩ : ∃ ln, ln = r.left.cl.length := ⟨_, rfl⟩
        obtain ⟨lk, hlk⟩ : ∃ lk, lk = (toL r.left.kids).length := ⟨_, rfl⟩
        obtain ⟨ro, hro⟩ : ∃ ro, ro = r.right.op := ⟨_, rfl⟩
        obtain ⟨rn, hrn⟩ : ∃ rn, rn = r.right.cl.length := ⟨_, rfl⟩
        obtain ⟨rk, hrk⟩ : ∃ rk, rk = (toL r.right.kids).length := ⟨_, rfl⟩
        obtain ⟨st, hst⟩ : ∃ st, st = r.start := ⟨_, rfl⟩
        obtain ⟨br, hbr⟩ : ∃ br, br = r.brk := ⟨_, rfl⟩
        simp only [Rl.vals, ← hlo, ← hln, ← hlk, ← hro, ← hrn, ← hrk, ← hst, ← hbr] at HCA HCB t0 t1 t2 t3 t4 t5 t6 t7
        have HSS : Hid (∀ w' : World, Below wo.heap.size wo w' → w'.cell? ⟨b, off + k * 8, none⟩ = some (.int .i64 lo) ∧ w'.cell? ⟨b, off + k * 8 + 1, none⟩ = some (.slice la ln lc) ∧ w'.cell? ⟨b, off + k * 8 + 2, none⟩ = some (.slice lp lk lpc) ∧ w'.cell? ⟨b, off + k * 8 + 3, none⟩ = some (.int .i64 ro) ∧ w'.cell? ⟨b, off + k * 8 + 4, none⟩ = some (.slice ra rn rc) ∧ w'.cell? ⟨b, off + k * 8 + 5, none⟩ = some (.slice rp rk rpc) ∧ w'.cell? ⟨b, off + k * 8 + 6, none⟩ = some (.bool br) ∧ w'.cell? ⟨b, off + k * 8 + 7, none⟩ = some (.bool st)) := fun V hV => ⟨upC hV t0, upC hV t1, upC hV t2, upC hV t3, upC hV t4, upC hV t5, upC hV t6, upC hV t7⟩
        have HDW : Hid (Below wo.heap.size wo wo.drew) := (Below.refl _ _).drew
        have hbb : (F != F) = false := by simp
        clear hr hrr hF hlo hln hlk hro hrn hrk hst hbr t0 t1 t2 t3 t4 t5 t6 t7
        go_upto_region 11 with fail
        go_cut [59] (fun x59 wx => x59 = .bool false ∧ Below wo.heap.size wo wx)
        case first =>
          go_region_held3 (fun w' => w'.cell? ⟨b, off + k * 8, none⟩ = some (.int .i64 lo) ∧ w'.cell? ⟨b, off + k * 8 + 1, none⟩ = some (.slice la ln lc) ∧ w'.cell? ⟨b, off + k * 8 + 2, none⟩ = some (.slice lp lk lpc) ∧ w'.cell? ⟨b, off + k * 8 + 3, none⟩ = some (.int .i64 ro) ∧ w'.cell? ⟨b, off + k * 8 + 4, none⟩ = some (.slice ra rn rc) ∧ w'.cell? ⟨b, off + k * 8 + 5, none⟩ = some (.slice rp rk rpc) ∧ w'.cell? ⟨b, off + k * 8 + 6, none⟩ = some (.bool br) ∧ w'.cell? ⟨b, off + k * 8 + 7, none⟩ = some (.bool st))
            (first | exact HSS.out _ HDW.out | exact HSS.out _ (Below.refl _ _) | exact HSS.out _ H7.out | exact HSS.out _ H8.out)
            (first
              | (go_at_call 14; refine (HCA.out _ (by first | exact HDW.out | exact H8.out)).mono ?_; rintro e w7 ⟨rfl, hb7⟩; have H7 : Hid (Below wo.heap.size wo w7) := hb7; clear hb7)
              | (go_at_call 15; refine (HCB.out _ (by first | exact H7.out | exact HDW.out)).mono ?_; rintro e w8 ⟨rfl, hb8⟩; have H8 : Hid (Below wo.heap.size wo w8) := hb8; clear hb8))
          all_goals
            go_wp2
            go_meet
            first | exact ⟨rfl, H8.out⟩ | exact ⟨rfl, H7.out⟩
        case rest =>
          obtain ⟨hx59, hbc⟩ := hcut
          subst hx59
          have HBC : Hid (Below w6.heap.size w6 wc) := HBL.out.trans (hbc.mono HBL.out.size)
          clear hbc
          go_wp2
          go_roundw
          case rel => exact ⟨k + 1, by omega, by go_num, HBC.out⟩
          case measure => simp [intOf]; omega
      · obtain rfl : k = N := by omega
        have hki : ¬ (k : Int) < (k : Int) := by omega
        clear hki
        go_wp2
        go_loopw [12] (fun x12 wr => ∃ j : Nat, j ≤ m ∧ x12 = .int .i64 j ∧ Below w6.heap.size w6 wr) (fun x12 _ => m - (intOf x12).toNat)
        case atStart => exact ⟨0, by omega, rfl, HBL.out⟩
        case round =>
          obtain ⟨j, hj, hx12, hbj⟩ := hrel
          subst hx12
          have HBJ : Hid (Below w6.heap.size w6 wr) := hbj
          clear hbj
          by_cases hjm : j < m
          · obtain ⟨z1, z2⟩ := HX3.out wr HBJ.out
            obtain ⟨b1, o1, he1, e1⟩ := z1.2 (by omega)
            obtain ⟨b2, o2, he2, e2⟩ := z2.2 (by omega)
            have u1 := e1 j hjm
            have u2 := e2 j hjm
            obtain ⟨x, hx⟩ : ∃ x, x = X.getD j 0 := ⟨_, rfl⟩
            rw [← hx] at u1 u2
            subst he1 he2
            have hji : (j : Int) < (m : Int) := by omega
            have hj0 : (0 : Int) ≤ (j : Int) := by omega
            have hxx : (x != x) = false := by simp
            clear z1 z2 e1 e2 hx
            go_wp2_with fail
            go_quiet (fail)
            go_wp2
            go_roundw
            case rel => exact ⟨j + 1, by omega, by go_num, below_drewN HBJ.out _⟩
            case measure => simp [intOf]; omega
          · have hji : ¬ (j : Int) < (m : Int) := by omega
            obtain ⟨J, hJ⟩ : ∃ J, J = firstI (fun r => fitI r X P) L := ⟨_, rfl⟩
            have HCA : Hid (Calls Try.prog 16 #[.slice al2 k cl2, .slice a3 m c3, .int .i64 P] wr fun e w' => e = .returned (.int .i64 J) ∧ Below w6.heap.size w6 w') := by rw [hJ]; exact HWA.out wr P HBJ.out
            have HCB : Hid (∀ V : World, Below w6.heap.size w6 V → Calls Try.prog 17 #[.slice al2 k cl2, .slice a2 m c2, .int .i64 P] V fun e w' => e = .returned (.int .i64 J) ∧ Below w6.heap.size w6 w') := fun V hV => by rw [hJ]; exact HWB.out V P hV
            have hJJ : (J == J) = true := by simp
            clear hJ
            go_wp2_with fail
            refine HCA.out.mono ?_
            rintro e w7 ⟨rfl, hb7⟩
            have H7 : Hid (Below w6.heap.size w6 w7) := hb7
            clear hb7 HCA
            go_wp2_with fail
            refine (HCB.out w7 H7.out).mono ?_
            rintro e w8 ⟨rfl, hb8⟩
            have H8 : Hid (Below w.heap.size w w8) := BW6.out.trans (hb8.mono BW6.out.size)
            clear hb8 HCB
            go_wp2
            go_ret
            exact ⟨rfl, H8.out⟩
  · go_upto_region 8 with fail
    clear hq1 hq2 hq3
    go_wp2
    go_loopw [11] (fun x11 wr => ∃ k : Nat, k ≤ N ∧ x11 = .int .i64 k ∧ Below w6.heap.size w6 wr) (fun x11 _ => N - (intOf x11).toNat)
    case atStart => exact ⟨0, by omega, rfl, Below.refl _ _⟩
    case round =>
      obtain ⟨wo, hwo⟩ : ∃ W : World, W = wr := ⟨_, rfl⟩
      subst hwo
      obtain ⟨k, hk, hx11, hbl⟩ := hrel
      subst hx11
      have HBL : Hid (Below w6.heap.size w6 wo) := hbl
      clear hbl
      by_cases hlt : k < N
      · have hkl : k < L.length := by rw [← HN.out.1]; exact hlt
        have hki : (k : Int) < (N : Int) := by omega
        have hk0 : (0 : Int) ≤ (k : Int) := by omega
        obtain ⟨b, off, q, rfl, hr, t0, t1, t2, t3, t4, t5, t6, t7⟩ := (HRV.out wo HBL.out).cells k hkl
        obtain ⟨F, hF⟩ : ∃ F, F = fitI L[k] X P := ⟨_, rfl⟩
        have HCA : Hid (∀ V : World, Below wo.heap.size wo V → Calls Try.prog 14 #[.agg (L[k].vals q), .slice a3 m c3, .int .i64 P] V fun e w' => e = .returned (.bool F) ∧ Below wo.heap.size wo w') := by
          intro V hV
          rw [hF]
          have hV6 := HBL.out.trans (hV.mono HBL.out.size)
          refine (fits_any 12 L[k] q X a3 m c3 P V (hr.later hV) (by omega) (HX3.out V hV6).1 HR3.out.2.1 HR3.out.2.2 (by omega)).mono ?_
          rintro e w' ⟨h1, h2⟩
          exact ⟨h1, hV.trans (h2.mono hV.size)⟩
        have HCB : Hid (∀ V : World, Below wo.heap.size wo V → Calls Try.prog 15 #[.agg (L[k].vals q), .slice a2 m c2, .int .i64 P] V fun e w' => e = .returned (.bool F) ∧ Below wo.heap.size wo w') := by
          intro V hV
          rw [hF]
          have hV6 := HBL.out.trans (hV.mono HBL.out.size)
          refine (fitsR_any 12 L[k] q X a2 m c2 P V (hr.later hV) (HX3.out V hV6).2 (by omega)).mono ?_
          rintro e w' ⟨h1, h2⟩
          exact ⟨h1, hV.trans (h2.mono hV.size)⟩
        obtain ⟨r, hrr⟩ : ∃ r, r = L[k] := ⟨_, rfl⟩
        rw [← hrr] at t0 t1 t2 t3 t4 t5 t6 t7 HCA HCB
        obtain ⟨la, lc, lp, lpc, ra, rc, rp, rpc⟩ := q
        obtain ⟨lo, hlo⟩ : ∃ lo, lo = r.left.op := ⟨_, rfl⟩
        obtain ⟨ln, hln⟩ : ∃ ln, ln = r.left.cl.length := ⟨_, rfl⟩
        obtain ⟨lk, hlk⟩ : ∃ lk, lk = (toL r.left.kids).length := ⟨_, rfl⟩
        obtain ⟨ro, hro⟩ : ∃ ro, ro = r.right.op := ⟨_, rfl⟩
        obtain ⟨rn, hrn⟩ : ∃ rn, rn = r.right.cl.length := ⟨_, rfl⟩
        obtain ⟨rk, hrk⟩ : ∃ rk, rk = (toL r.right.kids).length := ⟨_, rfl⟩
        obtain ⟨st, hst⟩ : ∃ st, st = r.start := ⟨_, rfl⟩
        obtain ⟨br, hbr⟩ : ∃ br, br = r.brk := ⟨_, rfl⟩
        simp only [Rl.vals, ← hlo, ← hln, ← hlk, ← hro, ← hrn, ← hrk, ← hst, ← hbr] at HCA HCB t0 t1 t2 t3 t4 t5 t6 t7
        have HSS : Hid (∀ w' : World, Below wo.heap.size wo w' → w'.cell? ⟨b, off + k * 8, none⟩ = some (.int .i64 lo) ∧ w'.cell? ⟨b, off + k * 8 + 1, none⟩ = some (.slice la ln lc) ∧ w'.cell? ⟨b, off + k * 8 + 2, none⟩ = some (.slice lp lk lpc) ∧ w'.cell? ⟨b, off + k * 8 + 3, none⟩ = some (.int .i64 ro) ∧ w'.cell? ⟨b, off + k * 8 + 4, none⟩ = some (.slice ra rn rc) ∧ w'.cell? ⟨b, off + k * 8 + 5, none⟩ = some (.slice rp rk rpc) ∧ w'.cell? ⟨b, off + k * 8 + 6, none⟩ = some (.bool br) ∧ w'.cell? ⟨b, off + k * 8 + 7, none⟩ = some (.bool st)) := fun V hV => ⟨upC hV t0, upC hV t1, upC hV t2, upC hV t3, upC hV t4, upC hV t5, upC hV t6, upC hV t7⟩
        have HDW : Hid (Below wo.heap.size wo wo.drew) := (Below.refl _ _).drew
        have hbb : (F != F) = false := by simp
        clear hr hrr hF hlo hln hlk hro hrn hrk hst hbr t0 t1 t2 t3 t4 t5 t6 t7
        go_upto_region 11 with fail
        go_cut [59] (fun x59 wx => x59 = .bool false ∧ Below wo.heap.size wo wx)
        case first =>
          go_region_held3 (fun w' => w'.cell? ⟨b, off + k * 8, none⟩ = some (.int .i64 lo) ∧ w'.cell? ⟨b, off + k * 8 + 1, none⟩ = some (.slice la ln lc) ∧ w'.cell? ⟨b, off + k * 8 + 2, none⟩ = some (.slice lp lk lpc) ∧ w'.cell? ⟨b, off + k * 8 + 3, none⟩ = some (.int .i64 ro) ∧ w'.cell? ⟨b, off + k * 8 + 4, none⟩ = some (.slice ra rn rc) ∧ w'.cell? ⟨b, off + k * 8 + 5, none⟩ = some (.slice rp rk rpc) ∧ w'.cell? ⟨b, off + k * 8 + 6, none⟩ = some (.bool br) ∧ w'.cell? ⟨b, off + k * 8 + 7, none⟩ = some (.bool st))
            (first | exact HSS.out _ HDW.out | exact HSS.out _ (Below.refl _ _) | exact HSS.out _ H7.out | exact HSS.out _ H8.out)
            (first
              | (go_at_call 14; refine (HCA.out _ (by first | exact HDW.out | exact H8.out)).mono ?_; rintro e w7 ⟨rfl, hb7⟩; have H7 : Hid (Below wo.heap.size wo w7) := hb7; clear hb7)
              | (go_at_call 15; refine (HCB.out _ (by first | exact H7.out | exact HDW.out)).mono ?_; rintro e w8 ⟨rfl, hb8⟩; have H8 : Hid (Below wo.heap.size wo w8) := hb8; clear hb8))
          all_goals
            go_wp2
            go_meet
            first | exact ⟨rfl, H8.out⟩ | exact ⟨rfl, H7.out⟩
        case rest =>
          obtain ⟨hx59, hbc⟩ := hcut
          subst hx59
          have HBC : Hid (Below w6.heap.size w6 wc) := HBL.out.trans (hbc.mono HBL.out.size)
          clear hbc
          go_wp2
          go_roundw
          case rel => exact ⟨k + 1, by omega, by go_num, HBC.out⟩
          case measure => simp [intOf]; omega
      · obtain rfl : k = N := by omega
        have hki : ¬ (k : Int) < (k : Int) := by omega
        clear hki
        go_wp2
        go_loopw [12] (fun x12 wr => ∃ j : Nat, j ≤ m ∧ x12 = .int .i64 j ∧ Below w6.heap.size w6 wr) (fun x12 _ => m - (intOf x12).toNat)
        case atStart => exact ⟨0, by omega, rfl, HBL.out⟩
        case round =>
          obtain ⟨j, hj, hx12, hbj⟩ := hrel
          subst hx12
          have HBJ : Hid (Below w6.heap.size w6 wr) := hbj
          clear hbj
          by_cases hjm : j < m
          · obtain ⟨z1, z2⟩ := HX3.out wr HBJ.out
            obtain ⟨b1, o1, he1, e1⟩ := z1.2 (by omega)
            obtain ⟨b2, o2, he2, e2⟩ := z2.2 (by omega)
            have u1 := e1 j hjm
            have u2 := e2 j hjm
            obtain ⟨x, hx⟩ : ∃ x, x = X.getD j 0 := ⟨_, rfl⟩
            rw [← hx] at u1 u2
            subst he1 he2
            have hji : (j : Int) < (m : Int) := by omega
            have hj0 : (0 : Int) ≤ (j : Int) := by omega
            have hxx : (x != x) = false := by simp
            clear z1 z2 e1 e2 hx
            go_wp2_with fail
            go_quiet (fail)
            go_wp2
            go_roundw
            case rel => exact ⟨j + 1, by omega, by go_num, below_drewN HBJ.out _⟩
            case measure => simp [intOf]; omega
          · have hji : ¬ (j : Int) < (m : Int) := by omega
            obtain ⟨J, hJ⟩ : ∃ J, J = firstI (fun r => fitI r X P) L := ⟨_, rfl⟩
            have HCA : Hid (Calls Try.prog 16 #[.slice al2 k cl2, .slice a3 m c3, .int .i64 P] wr fun e w' => e = .returned (.int .i64 J) ∧ Below w6.heap.size w6 w') := by rw [hJ]; exact HWA.out wr P HBJ.out
            have HCB : Hid (∀ V : World, Below w6.heap.size w6 V → Calls Try.prog 17 #[.slice al2 k cl2, .slice a2 m c2, .int .i64 P] V fun e w' => e = .returned (.int .i64 J) ∧ Below w6.heap.size w6 w') := fun V hV => by rw [hJ]; exact HWB.out V P hV
            have hJJ : (J == J) = true := by simp
            clear hJ
            go_wp2_with fail
            refine HCA.out.mono ?_
            rintro e w7 ⟨rfl, hb7⟩
            have H7 : Hid (Below w6.heap.size w6 w7) := hb7
            clear hb7 HCA
            go_wp2_with fail
            refine (HCB.out w7 H7.out).mono ?_
            rintro e w8 ⟨rfl, hb8⟩
            have H8 : Hid (Below w.heap.size w w8) := BW6.out.trans (hb8.mono BW6.out.size)
            clear hb8 HCB
            go_wp2
            go_ret
            exact ⟨rfl, H8.out⟩
end Go.Proofs.Ytjbhfonokgkalaa
