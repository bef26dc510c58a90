/- The walk of NfaJoins. -/
import Derived.Test.YtodaoelkljaflaaNfaNoneW
import Derived.Deep.CutBlock
namespace Go.Proofs.Ytodaoelkljaflaa
open Go.RowKit
set_option linter.unusedVariables false
set_option linter.unusedSimpArgs false

/-- A list that holds of all states just those of two sets. -/
def Both (Ls Lt : List Nat) (ys : List Int) : Prop := ∀ q : Nat, q ≤ 1048576 → ((q : Int) ∈ ys ↔ q ∈ Ls ∨ q ∈ Lt)
theorem both_step {M : List St} {en : Nat} {as_ at_ : List Nat} {Ls Lt L1 L2 L3 : List Nat} {ys : List Int} {c : Int} (hM : M.length ≤ 4000) (hb : Both Ls Lt ys) (h1 : IsW M en (stepAt M (toI Ls) c) L1) (h2 : IsW M en (stepAt M (toI Lt) c) L2) (h3 : IsW M en (stepAt M ys c) L3) : Both L1 L2 (toI L3) := by
  intro q _
  rw [toI_mem, h1.2, h2.2, h3.2]
  have key : ∀ t, t ∈ stepAt M ys c ↔ t ∈ stepAt M (toI Ls) c ∨ t ∈ stepAt M (toI Lt) c := by
    intro t
    rw [mem_stepAt, mem_stepAt, mem_stepAt]
    constructor
    · rintro ⟨p, s, g1, g2, g3, g4⟩
      have hp := (List.getElem?_eq_some_iff.1 g2).1
      rcases (hb p (by omega)).1 g1 with g | g
      · exact .inl ⟨p, s, (toI_mem _ _).2 g, g2, g3, g4⟩
      · exact .inr ⟨p, s, (toI_mem _ _).2 g, g2, g3, g4⟩
    · rintro (⟨p, s, g1, g2, g3, g4⟩ | ⟨p, s, g1, g2, g3, g4⟩)
      · have hp := (List.getElem?_eq_some_iff.1 g2).1
        exact ⟨p, s, (hb p (by omega)).2 (.inl ((toI_mem _ _).1 g1)), g2, g3, g4⟩
      · have hp := (List.getElem?_eq_some_iff.1 g2).1
        exact ⟨p, s, (hb p (by omega)).2 (.inr ((toI_mem _ _).1 g1)), g2, g3, g4⟩
  constructor
  · rintro ⟨g1, ⟨a, g2, g3⟩, g4⟩
    rcases (key a).1 g2 with g | g
    · exact .inl ⟨g1, ⟨a, g, g3⟩, g4⟩
    · exact .inr ⟨g1, ⟨a, g, g3⟩, g4⟩
  · rintro (⟨g1, ⟨a, g2, g3⟩, g4⟩ | ⟨g1, ⟨a, g2, g3⟩, g4⟩)
    · exact ⟨g1, ⟨a, (key a).2 (.inl g2), g3⟩, g4⟩
    · exact ⟨g1, ⟨a, (key a).2 (.inr g2), g3⟩, g4⟩
theorem both_start (Ls Lt : List Nat) : Both Ls Lt (toI Ls ++ toI Lt) := by
  intro q _
  rw [List.mem_append, toI_mem, toI_mem]
theorem both_noise {Ls Lt : List Nat} {ys : List Int} (h : Both Ls Lt ys) (x : Int) (hx : x < 0 ∨ 1048576 < x) : Both Ls Lt (ys ++ [x]) := by
  intro q hq
  rw [List.mem_append, h q hq]
  constructor
  · rintro (g | g)
    · exact g
    · simp at g; omega
  · exact .inl
theorem own_rd2 {w : World} {B : Nat} {v : Value} {ys : List Int} (h : w.ownsRow B 3 1 v ys.length (ys.map (Value.int .i64))) : ∃ a c, v = .slice a ys.length c ∧ Rd .i64 w a ys.length ys ∧ (a = none → c = 0) := by
  obtain ⟨a, c, rfl, _, _, h2, h3⟩ := rd_own2 h
  exact ⟨a, c, rfl, h2, h3⟩
set_option maxRecDepth 100000 in
set_option maxHeartbeats 16000000 in
theorem nfaJoins_walk (D : Nat) (n : Nd) (ca pa : Option Addr) (cc pc : Nat) (as0 : List Int) (aa : Option Addr) (alen acap : Nat) (bs0 : List Int) (ba : Option Addr) (blen bcap : Nat) (ms0 : List Int) (ma : Option Addr) (mlen mcap : Nat) (ns0 : List Int) (na : Option Addr) (nlen ncap : Nat) (w : World)
    (hin : InV w.heap.size w D n [.int .i64 n.op, .slice ca n.cl.length cc, .slice pa (toL n.kids).length pc]) (hra : Rd .i64 w aa alen as0) (hac : alen ≤ acap) (ham : acap ≤ 9223372036854775807) (han : aa = none → acap = 0) (hrb : Rd .i64 w ba blen bs0) (hbc : blen ≤ bcap) (hbm : bcap ≤ 9223372036854775807) (hbn : ba = none → bcap = 0) (hrm : Rd .i64 w ma mlen ms0) (hmc : mlen ≤ mcap) (hmm : mcap ≤ 9223372036854775807) (hmn : ma = none → mcap = 0) (hrn : Rd .i64 w na nlen ns0) (hnc : nlen ≤ ncap) (hnm : ncap ≤ 9223372036854775807) (hnn : na = none → ncap = 0) :
    Calls Try.prog 6 #[.agg #[.int .i64 n.op, .slice ca n.cl.length cc, .slice pa (toL n.kids).length pc], .slice aa alen acap, .slice ba blen bcap, .slice ma mlen mcap, .slice na nlen ncap] w fun e w' => e = .returned (.bool true) ∧ Below w.heap.size w w' := by
  obtain ⟨op, hop⟩ : ∃ op, op = n.op := ⟨_, rfl⟩
  obtain ⟨cn, hcn⟩ : ∃ cn, cn = n.cl.length := ⟨_, rfl⟩
  obtain ⟨K, hK⟩ : ∃ K, K = (toL n.kids).length := ⟨_, rfl⟩
  obtain ⟨W0, hW0⟩ : ∃ W0, W0 = w.alloc (.cells #[.int .i64 op, .slice ca cn cc, .slice pa K pc] 25) := ⟨_, rfl⟩
  obtain ⟨H, hH⟩ : ∃ H, H = w.heap.size := ⟨_, rfl⟩
  have HB0 : Hid (Below w.heap.size w W0) := by rw [hW0]; exact (Below.refl _ w).alloc (Nat.le_refl _) _
  have hax : W0.heap[H]? = some (.cells #[.int .i64 op, .slice ca cn cc, .slice pa K pc] 25) := by rw [hW0, hH]; exact heap_alloc_new w _
  have HAX : Hid (∀ V : World, Below W0.heap.size W0 V → V.cell? ⟨H, 0, none⟩ = some (.int .i64 op) ∧ V.cell? ⟨H, 1, none⟩ = some (.slice ca cn cc) ∧ V.cell? ⟨H, 2, none⟩ = some (.slice pa K pc)) := fun V hV =>
    ⟨upC hV (cell_of_row W0 H 0 _ _ _ hax), upC hV (cell_of_row W0 H 1 _ _ _ hax), upC hV (cell_of_row W0 H 2 _ _ _ hax)⟩
  have HNEW : Hid (∀ V : World, Below w.heap.size w V → Calls Try.prog 15 #[.agg #[.int .i64 op, .slice ca cn cc, .slice pa K pc]] V (NewPost n V)) := by
    intro V hV
    rw [hop, hcn, hK]
    exact new_any D n ca pa cc pc V ((hin.later hV D).base hV.size D)
  have HRR : Hid (∀ V : World, Below w.heap.size w V → Rd .i64 V aa alen as0 ∧ Rd .i64 V ba blen bs0 ∧ Rd .i64 V ma mlen ms0 ∧ Rd .i64 V na nlen ns0) := fun V hV => ⟨hra.later hV, hrb.later hV, hrm.later hV, hrn.later hV⟩
  have ha1 : (alen : Int) ≤ 9223372036854775807 := by omega
  have hb1 : (blen : Int) ≤ 9223372036854775807 := by omega
  have hm1 : (mlen : Int) ≤ 9223372036854775807 := by omega
  have hn1 : (nlen : Int) ≤ 9223372036854775807 := by omega
  obtain ⟨i0, ji, jz0, jz1, jz2⟩ := info_parts info_i
  have HJ : Hid (Try.prog.info? 3 = some i0 ∧ i0.zero = some (.int .i64 0) ∧ i0.size = 1 ∧ i0.bytes = 8) := ⟨ji, jz0, jz1, jz2⟩
  rw [← hop, ← hcn, ← hK]
  clear hin hop hcn hK hax hra hac ham han hrb hbc hbm hbn hrm hmc hmm hmn hrn hnc hnm hnn ji jz0 jz1 jz2
  go_enter Try.func6, Try.ntmps6
  go_upto_region 1 with fail
  rw [← hH, ← hW0]
  clear hH hW0
  go_wp2_with fail
  refine (shown_any W0).mono ?_
  rintro e w1 ⟨rfl, hb1'⟩
  obtain ⟨e0, e1, e2⟩ := HAX.out w1 hb1'
  have HB1 : Hid (Below w.heap.size w w1) := HB0.out.trans (hb1'.mono HB0.out.size)
  clear hb1'
  go_wp2_with fail
  refine (HNEW.out w1 HB1.out).mono ?_
  rintro e w2 ⟨hb2, hcase⟩
  have HB2 : Hid (Below w.heap.size w w2) := HB1.out.trans (hb2.mono HB1.out.size)
  clear e0 e1 e2 HNEW HAX hb2
  rcases hcase with ⟨hok, bm, rfl, hm⟩ | ⟨hok, rfl⟩
  · have HM2 : Hid (NMach w1.heap.size w2 bm n) := NMach.of hok hm
    clear hm hok
    obtain ⟨M, hM⟩ : ∃ M, M = (n.piece []).1 := ⟨_, rfl⟩
    obtain ⟨st, hst⟩ : ∃ st, st = (n.piece []).2.1 := ⟨_, rfl⟩
    obtain ⟨en, hen⟩ : ∃ en, en = (n.piece []).2.2 := ⟨_, rfl⟩
    have HMC : Hid (∀ V : World, Below w2.heap.size w2 V → Mach w1.heap.size V bm M st en) := by
      intro V hV
      rw [hM, hst, hen]
      exact HM2.out.2.later hV
    have HWF : Hid (WfL M ∧ M.length ≤ 4000 ∧ en < M.length) := by
      obtain ⟨U, q1, q2, q3, _, q5⟩ := HMC.out w2 (Below.refl _ _)
      exact ⟨q2, by have := szS_len M; omega, q5⟩
    have HRV : Hid (∀ V : World, Below w2.heap.size w2 V → Rd .i64 V aa alen as0 ∧ Rd .i64 V ba blen bs0 ∧ Rd .i64 V ma mlen ms0 ∧ Rd .i64 V na nlen ns0) := fun V hV => HRR.out V (HB2.out.trans (hV.mono HB2.out.size))
    clear hM hst hen HM2 HRR
    go_wp2_with fail
    refine (start_any w1.heap.size w2 bm M st en (HMC.out w2 (Below.refl _ _))).mono ?_
    rintro e w3 ⟨v3, L3, rfl, ho3, hi3, hb3⟩
    have HO3 : Hid (w3.ownsRow w2.heap.size 3 1 v3 L3.length (L3.map nI) ∧ IsW M en [st] L3 ∧ Below w2.heap.size w2 w3) := ⟨ho3, hi3, hb3⟩
    clear ho3 hi3 hb3
    go_upto_block 0 with fail
    go_cut [14] (fun x14 wx => ∃ L ats, wx.ownsRow w2.heap.size 3 1 x14 L.length (L.map nI) ∧ IsW M en ats L ∧ Below w3.heap.size w3 wx)
    case first =>
      have HST : Hid (∃ L ats, w3.ownsRow w2.heap.size 3 1 v3 L.length (L.map nI) ∧ IsW M en ats L ∧ Below w3.heap.size w3 w3) := ⟨L3, [st], HO3.out.1, HO3.out.2.1, Below.refl _ _⟩
      have HSB : Hid (∀ V : World, Below w3.heap.size w3 V → Below w2.heap.size w2 V) := fun V hV => HO3.out.2.2.trans (hV.mono HO3.out.2.2.size)
      clear HO3
      go_wp2
      go_loopw [14, 15] (fun xs_ xi_ wr => ∃ k : Nat, k ≤ alen ∧ xi_ = .int .i64 k ∧ ∃ L ats, wr.ownsRow w2.heap.size 3 1 xs_ L.length (L.map nI) ∧ IsW M en ats L ∧ Below w3.heap.size w3 wr) (fun _ xi_ _ => alen - (intOf xi_).toNat)
      case atStart => exact ⟨0, by omega, rfl, HST.out⟩
      case round =>
        obtain ⟨k, hk, hx, L, ats, ho, hi, hb⟩ := hrel
        subst hx
        obtain ⟨sa, sc, hsa, hrs⟩ := set_rd ho
        subst hsa
        obtain ⟨nl, hnl⟩ : ∃ nl, nl = L.length := ⟨_, rfl⟩
        have hnb : nl ≤ 4000 := by rw [hnl]; have := isW_len hi; have := HWF.out.2.1; omega
        rw [← hnl] at hrs ho ⊢
        have HI : Hid (IsW M en ats L ∧ nl = L.length) := ⟨hi, hnl⟩
        have HB : Hid (Below w3.heap.size w3 wr) := hb
        have HB2W : Hid (Below w2.heap.size w2 wr) := HSB.out wr hb
        have HOS : Hid (wr.ownsRow w2.heap.size 3 1 (.slice sa nl sc) nl (L.map nI)) := ho
        have HRS : Hid (Rd .i64 wr sa nl (toI L)) := hrs
        clear ho hi hb hrs hnl HST
        by_cases hlt : k < alen ∧ k < 20
        · obtain ⟨hlt, hlt3⟩ := hlt
          have hlt3i : (k : Int) < 20 := by omega
          have hlti : (k : Int) < (alen : Int) := by omega
          obtain ⟨b, off, rfl, hcl⟩ := (HRV.out wr HB2W.out).1.2 (by omega)
          have hck := hcl k hlt
          obtain ⟨x, hx⟩ : ∃ x, x = as0.getD k 0 := ⟨_, rfl⟩
          rw [← hx] at hck
          clear hcl hx
          go_wp2_with fail
          refine (step_any w1.heap.size wr bm M st en (toI L) x sa nl sc (HMC.out wr HB2W.out) HRS.out (by omega)).mono ?_
          rintro e w8 ⟨v8, L8, rfl, ho8, hi8, hb8⟩
          have HN8 : Hid (w8.ownsRow w2.heap.size 3 1 v8 L8.length (L8.map nI) ∧ IsW M en (stepAt M (toI L) x) L8 ∧ Below w3.heap.size w3 w8) := ⟨own_up ho8 HB2W.out.size, hi8, HB.out.trans (hb8.mono HB.out.size)⟩
          clear ho8 hi8 hb8 hck
          go_wp2
          go_roundw
          case rel => exact ⟨k + 1, by omega, by go_num, L8, _, HN8.out.1, HN8.out.2.1, HN8.out.2.2⟩
          case measure => simp [intOf]; omega
        · have hno : (¬ (k : Int) < (alen : Int)) ∨ ((k : Int) < (alen : Int) ∧ ¬ (k : Int) < 20) := by omega
          have HEX : Hid (wr.ownsRow w2.heap.size 3 1 (.slice sa nl sc) L.length (L.map nI) ∧ IsW M en ats L ∧ Below w3.heap.size w3 wr) := ⟨by rw [← HI.out.2]; exact HOS.out, HI.out.1, HB.out⟩
          clear hlt
          rcases hno with h1 | ⟨h1, h2⟩
          all_goals
            go_wp2
            go_meet
            exact ⟨L, ats, HEX.out⟩
    case rest =>
      obtain ⟨Ls, ats, hos, his, hbs⟩ := hcut
      obtain ⟨sa, sc, hsa, _⟩ := set_rd hos
      subst hsa
      obtain ⟨w4, hw4⟩ : ∃ W, W = wc := ⟨_, rfl⟩
      rw [← hw4] at hos hbs ⊢
      clear hw4
      obtain ⟨sl, hsl⟩ : ∃ sl, sl = Ls.length := ⟨_, rfl⟩
      have hsb : sl ≤ 4000 := by rw [hsl]; have := isW_len his; have := HWF.out.2.1; omega
      rw [← hsl] at hos ⊢
      have HB4 : Hid (Below w2.heap.size w2 w4) := HO3.out.2.2.trans (hbs.mono HO3.out.2.2.size)
      have HS4 : Hid (w4.ownsRow w2.heap.size 3 1 (.slice sa sl sc) sl (Ls.map nI) ∧ IsW M en ats Ls ∧ sl = Ls.length) := ⟨hos, his, hsl⟩
      clear hos his hbs hsl HO3
      go_wp2_with fail
      refine (start_any w1.heap.size w4 bm M st en (HMC.out w4 HB4.out)).mono ?_
      rintro e w5 ⟨v5, L5, rfl, ho5, hi5, hb5⟩
      have HO5 : Hid (w5.ownsRow w2.heap.size 3 1 v5 L5.length (L5.map nI) ∧ IsW M en [st] L5 ∧ Below w4.heap.size w4 w5) := ⟨own_up ho5 HB4.out.size, hi5, hb5⟩
      clear ho5 hi5 hb5
      go_upto_block 2 with fail
      go_cut [16] (fun x16 wx => ∃ L ats, wx.ownsRow w2.heap.size 3 1 x16 L.length (L.map nI) ∧ IsW M en ats L ∧ Below w5.heap.size w5 wx)
      case first =>
        have HST : Hid (∃ L ats, w5.ownsRow w2.heap.size 3 1 v5 L.length (L.map nI) ∧ IsW M en ats L ∧ Below w5.heap.size w5 w5) := ⟨L5, [st], HO5.out.1, HO5.out.2.1, Below.refl _ _⟩
        have HSB : Hid (∀ V : World, Below w5.heap.size w5 V → Below w2.heap.size w2 V) := fun V hV => HB4.out.trans ((HO5.out.2.2.trans (hV.mono HO5.out.2.2.size)).mono HB4.out.size)
        clear HO5
        go_wp2
        go_loopw [16, 17] (fun xs_ xi_ wr => ∃ k : Nat, k ≤ blen ∧ xi_ = .int .i64 k ∧ ∃ L ats, wr.ownsRow w2.heap.size 3 1 xs_ L.length (L.map nI) ∧ IsW M en ats L ∧ Below w5.heap.size w5 wr) (fun _ xi_ _ => blen - (intOf xi_).toNat)
        case atStart => exact ⟨0, by omega, rfl, HST.out⟩
        case round =>
          obtain ⟨k, hk, hx, L, ats, ho, hi, hb⟩ := hrel
          subst hx
          obtain ⟨sa, sc, hsa, hrs⟩ := set_rd ho
          subst hsa
          obtain ⟨nl, hnl⟩ : ∃ nl, nl = L.length := ⟨_, rfl⟩
          have hnb : nl ≤ 4000 := by rw [hnl]; have := isW_len hi; have := HWF.out.2.1; omega
          rw [← hnl] at hrs ho ⊢
          have HI : Hid (IsW M en ats L ∧ nl = L.length) := ⟨hi, hnl⟩
          have HB : Hid (Below w5.heap.size w5 wr) := hb
          have HB2W : Hid (Below w2.heap.size w2 wr) := HSB.out wr hb
          have HOS : Hid (wr.ownsRow w2.heap.size 3 1 (.slice sa nl sc) nl (L.map nI)) := ho
          have HRS : Hid (Rd .i64 wr sa nl (toI L)) := hrs
          clear ho hi hb hrs hnl HST
          by_cases hlt : k < blen ∧ k < 20
          · obtain ⟨hlt, hlt3⟩ := hlt
            have hlt3i : (k : Int) < 20 := by omega
            have hlti : (k : Int) < (blen : Int) := by omega
            obtain ⟨b, off, rfl, hcl⟩ := (HRV.out wr HB2W.out).2.1.2 (by omega)
            have hck := hcl k hlt
            obtain ⟨x, hx⟩ : ∃ x, x = bs0.getD k 0 := ⟨_, rfl⟩
            rw [← hx] at hck
            clear hcl hx
            go_wp2_with fail
            refine (step_any w1.heap.size wr bm M st en (toI L) x sa nl sc (HMC.out wr HB2W.out) HRS.out (by omega)).mono ?_
            rintro e w8 ⟨v8, L8, rfl, ho8, hi8, hb8⟩
            have HN8 : Hid (w8.ownsRow w2.heap.size 3 1 v8 L8.length (L8.map nI) ∧ IsW M en (stepAt M (toI L) x) L8 ∧ Below w5.heap.size w5 w8) := ⟨own_up ho8 HB2W.out.size, hi8, HB.out.trans (hb8.mono HB.out.size)⟩
            clear ho8 hi8 hb8 hck
            go_wp2
            go_roundw
            case rel => exact ⟨k + 1, by omega, by go_num, L8, _, HN8.out.1, HN8.out.2.1, HN8.out.2.2⟩
            case measure => simp [intOf]; omega
          · have hno : (¬ (k : Int) < (blen : Int)) ∨ ((k : Int) < (blen : Int) ∧ ¬ (k : Int) < 20) := by omega
            have HEX : Hid (wr.ownsRow w2.heap.size 3 1 (.slice sa nl sc) L.length (L.map nI) ∧ IsW M en ats L ∧ Below w5.heap.size w5 wr) := ⟨by rw [← HI.out.2]; exact HOS.out, HI.out.1, HB.out⟩
            clear hlt
            rcases hno with h1 | ⟨h1, h2⟩
            all_goals
              go_wp2
              go_meet
              exact ⟨L, ats, HEX.out⟩
      case rest =>
        obtain ⟨Lt, att, hot, hit, hbt⟩ := hcut
        obtain ⟨ta, tc, hta, _⟩ := set_rd hot
        subst hta
        obtain ⟨w6, hw6⟩ : ∃ W, W = wc := ⟨_, rfl⟩
        rw [← hw6] at hot hbt ⊢
        clear hw6
        obtain ⟨tl, htl⟩ : ∃ tl, tl = Lt.length := ⟨_, rfl⟩
        have htb : tl ≤ 4000 := by rw [htl]; have := isW_len hit; have := HWF.out.2.1; omega
        rw [← htl] at hot ⊢
        have HB46 : Hid (Below w4.heap.size w4 w6) := HO5.out.2.2.trans (hbt.mono HO5.out.2.2.size)
        have HB6 : Hid (Below w2.heap.size w2 w6) := HB4.out.trans (HB46.out.mono HB4.out.size)
        have HT6 : Hid (w6.ownsRow w2.heap.size 3 1 (.slice ta tl tc) tl (Lt.map nI) ∧ IsW M en att Lt ∧ tl = Lt.length) := ⟨hot, hit, htl⟩
        have HS6 : Hid (w6.ownsRow w2.heap.size 3 1 (.slice sa sl sc) sl (Ls.map nI) ∧ IsW M en ats Ls ∧ sl = Ls.length) := ⟨own_later5 HS4.out.1 HB46.out, HS4.out.2.1, HS4.out.2.2⟩
        clear hot hit hbt htl HO5 HS4 HB4 HB46
        have HRS : Hid (∀ V : World, Below w6.heap.size w6 V → Rd .i64 V sa sl (toI Ls) ∧ (sa = none → sc = 0) ∧ Rd .i64 V ta tl (toI Lt) ∧ (ta = none → tc = 0)) := by
          intro V hV
          have h1 := own_later5 HS6.out.1 hV
          have h2 := own_later5 HT6.out.1 hV
          rw [← toI_map] at h1 h2
          obtain ⟨a1, c1, e1, _, _, r1, n1⟩ := rd_own2 h1
          obtain ⟨a2, c2, e2, _, _, r2, n2⟩ := rd_own2 h2
          cases e1
          cases e2
          exact ⟨r1, n1, r2, n2⟩
        obtain ⟨Wm, hWm⟩ : ∃ Wm, Wm = w6.alloc (.cells #[] 3) := ⟨_, rfl⟩
        have HBm : Hid (Below w6.heap.size w6 Wm) := by rw [hWm]; exact (Below.refl _ w6).alloc (Nat.le_refl _) _
        have HOm : Hid (Wm.ownsRow w6.heap.size 3 1 (.slice (some ⟨w6.heap.size, 0, none⟩) 0 0) 0 []) := by rw [hWm]; exact World.ownsRow_made w6 #[] 0 (Nat.le_refl _) (by simp [maxLen]) rfl
        go_upto_block 4 with (at_builtin; first
          | (rw [← hWm]; refine wpList_append_rd rfl _ _ 22 rfl w6.heap.size 3 i0 _ 8 Try.underlying22 HJ.out.1 HJ.out.2.1 HJ.out.2.2.1 HJ.out.2.2.2 rfl (.slice (some ⟨w6.heap.size, 0, none⟩) 0 0) 0 [] rfl HOm.out sa sl sc .i64 (toI Ls) rfl (HRS.out Wm HBm.out).1 (HRS.out Wm HBm.out).2.1 (by unfold maxLen; omega) (by omega) HBm.out.size (fun v' w7 q1 q2 => ?_); obtain ⟨av, cv, rfl⟩ := own_sl1 q1; rw [Nat.zero_add, List.nil_append] at q1; rw [Nat.zero_add]; have HA7 : Hid (w7.ownsRow w6.heap.size 3 1 (.slice av sl cv) sl ((toI Ls).map (Value.int .i64))) := q1; have HB7 : Hid (Below w6.heap.size w6 w7) := HBm.out.grown q2 HBm.out.size (fun y hy => (HOm.out.lt y hy).1); clear q1 q2 hWm)
          | (refine wpList_append_rd rfl _ _ 22 rfl w6.heap.size 3 i0 _ 8 Try.underlying22 HJ.out.1 HJ.out.2.1 HJ.out.2.2.1 HJ.out.2.2.2 rfl (.slice av sl cv) sl ((toI Ls).map (Value.int .i64)) rfl HA7.out ta tl tc .i64 (toI Lt) rfl (HRS.out w7 HB7.out).2.2.1 (HRS.out w7 HB7.out).2.2.2 (by unfold maxLen; omega) (by omega) HB7.out.size (fun v' w8 q1 q2 => ?_); obtain ⟨av8, cv8, rfl⟩ := own_sl1 q1; have HA8 : Hid (w8.ownsRow w6.heap.size 3 1 (.slice av8 (sl + tl) cv8) (sl + tl) ((toI Ls).map (Value.int .i64) ++ (toI Lt).map (Value.int .i64))) := q1; have HB8 : Hid (Below w6.heap.size w6 w8) := HB7.out.grown q2 HB7.out.size (fun y hy => (HA7.out.lt y hy).1); clear q1 q2))
        have HST : Hid (∃ ys : List Int, w8.ownsRow w6.heap.size 3 1 (.slice av8 (sl + tl) cv8) ys.length (ys.map (Value.int .i64)) ∧ Both Ls Lt ys ∧ ys.length ≤ 8000) := by
          refine ⟨toI Ls ++ toI Lt, ?_, both_start Ls Lt, ?_⟩
          · have h1 := HA8.out
            have e : (toI Ls ++ toI Lt).length = sl + tl := by rw [HS6.out.2.2, HT6.out.2.2]; simp [toI]
            rw [e, List.map_append]
            exact h1
          · have e : (toI Ls ++ toI Lt).length = sl + tl := by rw [HS6.out.2.2, HT6.out.2.2]; simp [toI]
            omega
        clear HA8
        go_cut [18] (fun x18 wx => ∃ ys : List Int, wx.ownsRow w6.heap.size 3 1 x18 ys.length (ys.map (Value.int .i64)) ∧ Both Ls Lt ys ∧ ys.length ≤ 8020 ∧ Below w6.heap.size w6 wx)
        case first =>
          go_wp2
          go_loopw [18, 19] (fun x18 x19 wr => ∃ k : Nat, k ≤ nlen ∧ x19 = .int .i64 k ∧ ∃ ys : List Int, wr.ownsRow w6.heap.size 3 1 x18 ys.length (ys.map (Value.int .i64)) ∧ Both Ls Lt ys ∧ ys.length ≤ 8000 + min k 20 ∧ Below w6.heap.size w6 wr) (fun _ x19 _ => nlen - (intOf x19).toNat)
          case atStart =>
            obtain ⟨ys, q1, q2, q3⟩ := HST.out
            exact ⟨0, by omega, rfl, ys, q1, q2, by omega, HB8.out⟩
          case round =>
            obtain ⟨k, hk, hx, ys, ho, hbo, hyl, hb⟩ := hrel
            subst hx
            obtain ⟨ya, yc, hya, _⟩ := own_rd2 ho
            subst hya
            obtain ⟨yl, hyle⟩ : ∃ yl, yl = ys.length := ⟨_, rfl⟩
            rw [← hyle] at ho ⊢
            have HOY : Hid (wr.ownsRow w6.heap.size 3 1 (.slice ya yl yc) yl (ys.map (Value.int .i64))) := ho
            have HBO : Hid (Both Ls Lt ys) := hbo
            have HYL : Hid (ys.length ≤ 8000 + min k 20 ∧ yl = ys.length) := ⟨hyl, hyle⟩
            have HB : Hid (Below w6.heap.size w6 wr) := hb
            have HB2W : Hid (Below w2.heap.size w2 wr) := HB6.out.trans (hb.mono HB6.out.size)
            have hyb : yl ≤ 8020 := by omega
            have HW6 : Hid (w6.heap.size ≤ wr.heap.size) := hb.size
            clear ho hbo hyl hb hyle HST
            by_cases hlt : k < nlen ∧ k < 20
            · obtain ⟨hlt, hlt3⟩ := hlt
              have hlt3i : (k : Int) < 20 := by omega
              have hlti : (k : Int) < (nlen : Int) := by omega
              obtain ⟨b, off, rfl, hcl⟩ := (HRV.out wr HB2W.out).2.2.2.2 (by omega)
              have hck := hcl k hlt
              obtain ⟨x, hx⟩ : ∃ x, x = ns0.getD k 0 := ⟨_, rfl⟩
              rw [← hx] at hck
              clear hcl hx
              have HNX : Hid (∀ (v : Value) (w9 : World), w9.ownsRow w6.heap.size 3 1 v (yl + 1) (ys.map (Value.int .i64) ++ [.int .i64 x]) → w9.ownsRow w6.heap.size 3 1 v (ys ++ [x]).length ((ys ++ [x]).map (Value.int .i64))) := by
                intro v w9 h
                rw [List.length_append, List.length_singleton, ← HYL.out.2, List.map_append]
                exact h
              have HGR : Hid (∀ w9 : World, (wr.alloc (.cells #[.int .i64 x] 3)).grownBy w9 (Value.slice ya yl yc).ownBlock → Below w6.heap.size w6 w9) := by
                intro w9 q2
                refine (HB.out.alloc HB.out.size _).grown q2 (by have := HB.out.size; simp; omega) (fun y hy => (HOY.out.lt y hy).1)
              by_cases hx1 : x < 0
              · have HNO : Hid (x < 0 ∨ 1048576 < x) := .inl hx1
                go_wp2_with (at_builtin; refine wpList_append_lies _ rfl _ _ 22 rfl w6.heap.size 3 i0 _ 1 8 Try.underlying22 HJ.out.1 HJ.out.2.1 HJ.out.2.2.1 HJ.out.2.2.2 rfl (by decide) (.slice ya yl yc) yl (ys.map (Value.int .i64)) rfl (own_later5 HOY.out ((Below.refl _ wr).alloc (Nat.le_refl _) _)) ⟨wr.heap.size, 0, none⟩ 1 1 [.int .i64 x] rfl rfl (World.news_of_block (cs := #[.int .i64 x]) (t := 3) (fr := (0, 0)) (heap_alloc_new wr _)) (by simp [Value.oneCell']) (by omega) (by unfold maxLen; omega) (by omega) (by have := HW6.out; simp; omega) _ rfl (fun g cap w9 q1 q2 q3 q4 => ?_); have HO9 : Hid (w9.ownsRow w6.heap.size 3 1 (.slice (some ⟨g, 0, none⟩) (yl + 1) cap) (ys ++ [x]).length ((ys ++ [x]).map (Value.int .i64))) := HNX.out _ w9 q1; have HB9 : Hid (Below w6.heap.size w6 w9) := HGR.out w9 q2; clear q1 q2 q3 q4)
                go_roundw
                case rel => exact ⟨k + 1, by omega, by go_num, ys ++ [x], HO9.out, both_noise HBO.out x HNO.out, by simp; have := HYL.out; omega, HB9.out⟩
                case measure => simp [intOf]; omega
              · by_cases hx2 : 1048576 < x
                · have HNO : Hid (x < 0 ∨ 1048576 < x) := .inr hx2
                  go_wp2_with (at_builtin; refine wpList_append_lies _ rfl _ _ 22 rfl w6.heap.size 3 i0 _ 1 8 Try.underlying22 HJ.out.1 HJ.out.2.1 HJ.out.2.2.1 HJ.out.2.2.2 rfl (by decide) (.slice ya yl yc) yl (ys.map (Value.int .i64)) rfl (own_later5 HOY.out ((Below.refl _ wr).alloc (Nat.le_refl _) _)) ⟨wr.heap.size, 0, none⟩ 1 1 [.int .i64 x] rfl rfl (World.news_of_block (cs := #[.int .i64 x]) (t := 3) (fr := (0, 0)) (heap_alloc_new wr _)) (by simp [Value.oneCell']) (by omega) (by unfold maxLen; omega) (by omega) (by have := HW6.out; simp; omega) _ rfl (fun g cap w9 q1 q2 q3 q4 => ?_); have HO9 : Hid (w9.ownsRow w6.heap.size 3 1 (.slice (some ⟨g, 0, none⟩) (yl + 1) cap) (ys ++ [x]).length ((ys ++ [x]).map (Value.int .i64))) := HNX.out _ w9 q1; have HB9 : Hid (Below w6.heap.size w6 w9) := HGR.out w9 q2; clear q1 q2 q3 q4)
                  go_roundw
                  case rel => exact ⟨k + 1, by omega, by go_num, ys ++ [x], HO9.out, both_noise HBO.out x HNO.out, by simp; have := HYL.out; omega, HB9.out⟩
                  case measure => simp [intOf]; omega
                · have HSAME : Hid (ys.length ≤ 8000 + min (k + 1) 20) := by have := HYL.out; show _ ≤ _; omega
                  go_wp2
                  go_roundw
                  case rel => exact ⟨k + 1, by omega, by go_num, ys, by rw [← HYL.out.2]; exact HOY.out, HBO.out, HSAME.out, HB.out⟩
                  case measure => simp [intOf]; omega
            · have hno : (¬ (k : Int) < (nlen : Int)) ∨ ((k : Int) < (nlen : Int) ∧ ¬ (k : Int) < 20) := by omega
              have HEX : Hid (wr.ownsRow w6.heap.size 3 1 (.slice ya yl yc) ys.length (ys.map (Value.int .i64)) ∧ Both Ls Lt ys ∧ ys.length ≤ 8020 ∧ Below w6.heap.size w6 wr) := ⟨by rw [← HYL.out.2]; exact HOY.out, HBO.out, by have := HYL.out; omega, HB.out⟩
              clear hlt
              rcases hno with h1 | ⟨h1, h2⟩
              all_goals
                go_wp2
                go_meet
                exact ⟨ys, HEX.out⟩
        case rest =>
          obtain ⟨ys0, hoy, hbo0, hyl0, hb0⟩ := hcut
          have HIN : Hid (∃ (Ls Lt : List Nat) (ys : List Int) (as_ at_ : List Nat), wc.ownsRow w2.heap.size 3 1 (.slice sa sl sc) Ls.length (Ls.map nI) ∧ wc.ownsRow w2.heap.size 3 1 (.slice ta tl tc) Lt.length (Lt.map nI) ∧ wc.ownsRow w2.heap.size 3 1 u18 ys.length (ys.map (Value.int .i64)) ∧ IsW M en as_ Ls ∧ IsW M en at_ Lt ∧ Both Ls Lt ys ∧ ys.length ≤ 8020 ∧ Below w2.heap.size w2 wc) :=
            ⟨Ls, Lt, ys0, ats, att, by rw [← HS6.out.2.2]; exact own_later5 HS6.out.1 hb0, by rw [← HT6.out.2.2]; exact own_later5 HT6.out.1 hb0, own_up hoy HB6.out.size, HS6.out.2.1, HT6.out.2.1, hbo0, hyl0, HB6.out.trans (hb0.mono HB6.out.size)⟩
          clear hoy hbo0 hyl0 hb0
          go_wp2
          go_loopw [14, 16, 18, 20] (fun x14 x16 x18 x20 wr => ∃ k : Nat, k ≤ mlen ∧ x20 = .int .i64 k ∧ ∃ (Ls Lt : List Nat) (ys : List Int) (as_ at_ : List Nat), wr.ownsRow w2.heap.size 3 1 x14 Ls.length (Ls.map nI) ∧ wr.ownsRow w2.heap.size 3 1 x16 Lt.length (Lt.map nI) ∧ wr.ownsRow w2.heap.size 3 1 x18 ys.length (ys.map (Value.int .i64)) ∧ IsW M en as_ Ls ∧ IsW M en at_ Lt ∧ Both Ls Lt ys ∧ ys.length ≤ 8020 ∧ Below w2.heap.size w2 wr) (fun _ _ _ x20 _ => mlen - (intOf x20).toNat)
          case atStart => exact ⟨0, by omega, rfl, HIN.out⟩
          case round =>
            obtain ⟨k, hk, hx, L1, L2, ys, at1, at2, ho1, ho2, ho3, hi1, hi2, hbo, hyl, hb⟩ := hrel
            subst hx
            obtain ⟨s1, c1, hs1, hr1⟩ := set_rd ho1
            obtain ⟨s2, c2, hs2, hr2⟩ := set_rd ho2
            obtain ⟨s3, c3, hs3, hr3, _⟩ := own_rd2 ho3
            subst hs1 hs2 hs3
            obtain ⟨l1, hl1⟩ : ∃ l1, l1 = L1.length := ⟨_, rfl⟩
            obtain ⟨l2, hl2⟩ : ∃ l2, l2 = L2.length := ⟨_, rfl⟩
            obtain ⟨l3, hl3⟩ : ∃ l3, l3 = ys.length := ⟨_, rfl⟩
            have hb1 : l1 ≤ 4000 := by rw [hl1]; have := isW_len hi1; have := HWF.out.2.1; omega
            have hb2 : l2 ≤ 4000 := by rw [hl2]; have := isW_len hi2; have := HWF.out.2.1; omega
            have hb3 : l3 ≤ 8020 := by omega
            rw [← hl1] at hr1 ⊢
            rw [← hl2] at hr2 ⊢
            rw [← hl3] at hr3 ⊢
            have HB : Hid (Below w2.heap.size w2 wr) := hb
            have HRX : Hid (∀ V : World, Below wr.heap.size wr V → Rd .i64 V s1 l1 (toI L1) ∧ Rd .i64 V s2 l2 (toI L2) ∧ Rd .i64 V s3 l3 ys) := fun V hV => ⟨hr1.later hV, hr2.later hV, hr3.later hV⟩
            have HBO : Hid (Both L1 L2 ys) := hbo
            clear ho1 ho2 ho3 hi1 hi2 hbo hyl hb hr1 hr2 hr3 hl1 hl2 hl3 HIN
            by_cases hlt : k < mlen ∧ k < 20
            · obtain ⟨hlt, hlt3⟩ := hlt
              have hlt3i : (k : Int) < 20 := by omega
              have hlti : (k : Int) < (mlen : Int) := by omega
              obtain ⟨b, off, rfl, hcl⟩ := (HRV.out wr HB.out).2.2.1.2 (by omega)
              have hck := hcl k hlt
              obtain ⟨x, hx⟩ : ∃ x, x = ms0.getD k 0 := ⟨_, rfl⟩
              rw [← hx] at hck
              have HCK : Hid (∀ V : World, Below wr.heap.size wr V → V.cell? ⟨b, off + k, none⟩ = some (.int .i64 x)) := fun V hV => upC hV hck
              clear hcl hx
              go_wp2_with fail
              refine (step_any w1.heap.size wr bm M st en (toI L1) x s1 l1 c1 (HMC.out wr HB.out) (HRX.out wr (Below.refl _ _)).1 (by omega)).mono ?_
              rintro e u1 ⟨v1, K1, rfl, qo1, qi1, qb1⟩
              have U1 : Hid (Below wr.heap.size wr u1) := qb1
              have O1 : Hid (u1.ownsRow w2.heap.size 3 1 v1 K1.length (K1.map nI) ∧ IsW M en (stepAt M (toI L1) x) K1) := ⟨own_up qo1 HB.out.size, qi1⟩
              clear qo1 qi1 qb1 hck
              have hck1 := HCK.out u1 U1.out
              go_wp2_with fail
              refine (step_any w1.heap.size u1 bm M st en (toI L2) x s2 l2 c2 (HMC.out u1 (HB.out.trans (U1.out.mono HB.out.size))) (HRX.out u1 U1.out).2.1 (by omega)).mono ?_
              rintro e u2 ⟨v2, K2, rfl, qo2, qi2, qb2⟩
              have U2 : Hid (Below wr.heap.size wr u2) := U1.out.trans (qb2.mono U1.out.size)
              have O2 : Hid (u2.ownsRow w2.heap.size 3 1 v1 K1.length (K1.map nI) ∧ u2.ownsRow w2.heap.size 3 1 v2 K2.length (K2.map nI) ∧ IsW M en (stepAt M (toI L1) x) K1 ∧ IsW M en (stepAt M (toI L2) x) K2) := ⟨own_later5 O1.out.1 qb2, own_up qo2 (Nat.le_trans HB.out.size U1.out.size), O1.out.2, qi2⟩
              clear qo2 qi2 qb2 hck1 O1
              have hck2 := HCK.out u2 U2.out
              go_wp2_with fail
              refine (step_any w1.heap.size u2 bm M st en ys x s3 l3 c3 (HMC.out u2 (HB.out.trans (U2.out.mono HB.out.size))) (HRX.out u2 U2.out).2.2 (by omega)).mono ?_
              rintro e u3 ⟨v3', K3, rfl, qo3, qi3, qb3⟩
              have U3 : Hid (Below w2.heap.size w2 u3) := HB.out.trans ((U2.out.trans (qb3.mono U2.out.size)).mono HB.out.size)
              have O3 : Hid (u3.ownsRow w2.heap.size 3 1 v1 K1.length (K1.map nI) ∧ u3.ownsRow w2.heap.size 3 1 v2 K2.length (K2.map nI) ∧ u3.ownsRow w2.heap.size 3 1 v3' (toI K3).length ((toI K3).map (Value.int .i64)) ∧ IsW M en (stepAt M (toI L1) x) K1 ∧ IsW M en (stepAt M (toI L2) x) K2 ∧ IsW M en (stepAt M ys x) K3) := by
                refine ⟨own_later5 O2.out.1 qb3, own_later5 O2.out.2.1 qb3, ?_, O2.out.2.2.1, O2.out.2.2.2, qi3⟩
                rw [toI_map]
                have e : (toI K3).length = K3.length := by simp [toI]
                rw [e]
                exact own_up qo3 (Nat.le_trans HB.out.size U2.out.size)
              have HBN : Hid (Both K1 K2 (toI K3)) := both_step (as_ := at1) (at_ := at2) HWF.out.2.1 HBO.out O2.out.2.2.1 O2.out.2.2.2 qi3
              clear qo3 qi3 qb3 hck2 O2
              obtain ⟨t1, d1, ht1, hq1⟩ := set_rd O3.out.1
              obtain ⟨t2, d2, ht2, hq2⟩ := set_rd O3.out.2.1
              obtain ⟨t3, d3, ht3, hq3, _⟩ := own_rd2 O3.out.2.2.1
              subst ht1 ht2 ht3
              obtain ⟨j1, hj1⟩ : ∃ j1, j1 = K1.length := ⟨_, rfl⟩
              obtain ⟨j2, hj2⟩ : ∃ j2, j2 = K2.length := ⟨_, rfl⟩
              obtain ⟨j3, hj3⟩ : ∃ j3, j3 = (toI K3).length := ⟨_, rfl⟩
              have hjb1 : j1 ≤ 4000 := by rw [hj1]; have := isW_len O3.out.2.2.2.1; have := HWF.out.2.1; omega
              have hjb2 : j2 ≤ 4000 := by rw [hj2]; have := isW_len O3.out.2.2.2.2.1; have := HWF.out.2.1; omega
              have hjb3 : j3 ≤ 4000 := by rw [hj3]; have e : (toI K3).length = K3.length := by simp [toI]
                                          have := isW_len O3.out.2.2.2.2.2; have := HWF.out.2.1; omega
              rw [← hj1] at hq1 ⊢
              rw [← hj2] at hq2 ⊢
              rw [← hj3] at hq3 ⊢
              have HF : Hid (∃ (Ls Lt : List Nat) (ys : List Int) (as_ at_ : List Nat), u3.ownsRow w2.heap.size 3 1 (.slice t1 j1 d1) Ls.length (Ls.map nI) ∧ u3.ownsRow w2.heap.size 3 1 (.slice t2 j2 d2) Lt.length (Lt.map nI) ∧ u3.ownsRow w2.heap.size 3 1 (.slice t3 j3 d3) ys.length (ys.map (Value.int .i64)) ∧ IsW M en as_ Ls ∧ IsW M en at_ Lt ∧ Both Ls Lt ys ∧ ys.length ≤ 8020 ∧ Below w2.heap.size w2 u3) :=
                ⟨K1, K2, toI K3, _, _, by rw [hj1]; exact O3.out.1, by rw [hj2]; exact O3.out.2.1, by rw [hj3]; exact O3.out.2.2.1, O3.out.2.2.2.1, O3.out.2.2.2.2.1, HBN.out, by omega, U3.out⟩
              obtain ⟨r1, hr1⟩ : ∃ r, r = decide ((en : Int) ∈ toI K1) := ⟨_, rfl⟩
              obtain ⟨r2, hr2⟩ : ∃ r, r = decide ((en : Int) ∈ toI K2) := ⟨_, rfl⟩
              have hr3 : decide ((en : Int) ∈ toI K3) = (r1 || r2) := by
                rw [hr1, hr2, Bool.eq_iff_iff, Bool.or_eq_true, decide_eq_true_eq, decide_eq_true_eq, decide_eq_true_eq, HBN.out en (by have := HWF.out; omega), toI_mem, toI_mem]
              have C1 := accepts_any w1.heap.size u3 bm M st en (toI K1) t1 j1 d1 (HMC.out u3 U3.out) hq1 (by omega)
              have C2 := accepts_any w1.heap.size u3 bm M st en (toI K2) t2 j2 d2 (HMC.out u3 U3.out) hq2 (by omega)
              have C3 := accepts_any w1.heap.size u3 bm M st en (toI K3) t3 j3 d3 (HMC.out u3 U3.out) hq3 (by omega)
              rw [← hr1] at C1
              rw [← hr2] at C2
              rw [hr3] at C3
              have HC1 : Hid (Calls Try.prog 22 #[.pointer (some ⟨bm, 0, none⟩), .slice t1 j1 d1] u3 fun e w' => e = .returned (.bool r1) ∧ w' = u3) := C1
              have HC2 : Hid (Calls Try.prog 22 #[.pointer (some ⟨bm, 0, none⟩), .slice t2 j2 d2] u3 fun e w' => e = .returned (.bool r2) ∧ w' = u3) := C2
              have HC3 : Hid (Calls Try.prog 22 #[.pointer (some ⟨bm, 0, none⟩), .slice t3 j3 d3] u3 fun e w' => e = .returned (.bool (r1 || r2)) ∧ w' = u3) := C3
              clear C1 C2 C3 hr1 hr2 hr3 hq1 hq2 hq3 hj1 hj2 hj3 O3 HBN
              go_wp2_with fail
              refine HC3.out.mono ?_
              rintro e u4 ⟨rfl, hu4⟩
              obtain rfl : u3 = u4 := hu4.symm
              go_wp2_with fail
              refine HC1.out.mono ?_
              rintro e u4 ⟨rfl, hu4⟩
              obtain rfl : u3 = u4 := hu4.symm
              cases r1 with
              | true =>
                go_wp2
                go_roundw
                case rel => exact ⟨k + 1, by omega, by go_num, HF.out⟩
                case measure => simp [intOf]; omega
              | false =>
                go_wp2_with fail
                refine HC2.out.mono ?_
                rintro e u4 ⟨rfl, hu4⟩
                obtain rfl : u3 = u4 := hu4.symm
                cases r2
                all_goals
                  go_wp2
                  go_roundw
                  case rel => exact ⟨k + 1, by omega, by go_num, HF.out⟩
                  case measure => simp [intOf]; omega
            · have hno : (¬ (k : Int) < (mlen : Int)) ∨ ((k : Int) < (mlen : Int) ∧ ¬ (k : Int) < 20) := by omega
              have HBZ : Hid (Below w.heap.size w wr) := HB2.out.trans (HB.out.mono HB2.out.size)
              clear hlt
              rcases hno with h1 | ⟨h1, h2⟩
              all_goals
                go_wp2
                go_ret
                exact ⟨rfl, HBZ.out⟩
  · clear hok
    go_wp2
    go_ret
    exact ⟨rfl, HB2.out⟩
end Go.Proofs.Ytodaoelkljaflaa
