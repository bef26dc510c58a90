/- The walk of DfaLeast. -/
import Derived.Test.YtpmmmgjiekikeaaDoorDfaLg
namespace Go.Proofs.YtpmmmgjiekikeaaDoor
open Go.RowKit Go.Shelf Go.Maps
set_option linter.unusedVariables false
set_option linter.unusedSimpArgs false

set_option maxRecDepth 100000 in
set_option maxHeartbeats 8000000 in
theorem dfaLeast_walk (K : Int) (D : Nat) (l : List (Nd × Bool)) (la : Option Addr) (lc : Nat) (w : World) (hT : TabD w) (hx : XRow w.heap.size w D la l) (hl : l.length ≤ 2600000000000) :
    Calls Tryd.prog 5 #[.int .i64 K, .slice la l.length lc] w fun e w' => e = .returned (.bool true) ∧ Below w.heap.size w w' := by
  obtain ⟨L, hL⟩ : ∃ L, L = l.length := ⟨_, rfl⟩
  have HTD : Hid (TabD w) := hT
  have HSH : Hid (Calls Tryd.prog 12 #[] w fun e w' => e = .returned (.bool true) ∧ Below w.heap.size w w') := shown_any w hT
  have HFEW : Hid (∀ V : World, Below w.heap.size w V → Calls Tryd.prog 13 #[.slice la L lc] V (FewP D l V)) := fun V hV => by
    rw [hL]; exact few_any D l la lc V ((hx.later hV).base hV.size) hl
  rw [← hL]
  clear hT hx hl hL
  go_enter Tryd.func5, Tryd.ntmps5
  go_wp2_with fail
  refine HSH.out.mono ?_
  rintro e w1 ⟨rfl, hb1⟩
  have HB1 : Hid (Below w.heap.size w w1) := hb1
  have HC2 : Hid (Calls Tryd.prog 13 #[.slice la L lc] w1 (FewP D l w1)) := HFEW.out w1 hb1
  clear hb1 HSH HFEW
  go_wp2_with fail
  refine HC2.out.mono ?_
  intro e w2 hf
  obtain ⟨hb2, xs, a4, a5, c4, c5, rfl, h8, _, hx4, _⟩ := hf.use
  have HB2 : Hid (Below w.heap.size w w2) := HB1.out.trans (hb2.mono HB1.out.size)
  obtain ⟨N, hN⟩ : ∃ N, N = xs.length := ⟨_, rfl⟩
  have HC3 : Hid (Calls Tryd.prog 14 #[.int .i64 K, .slice a4 N c4] w2 (BldP K xs w2)) := by
    rw [hN]; exact build_any D K xs a4 c4 w2 (HTD.out.later HB2.out) hx4 (by omega)
  rw [← hN]
  clear hf hb2 h8 hx4 HC2 hN
  go_wp2_with fail
  refine HC3.out.mono ?_
  rintro e w3 ⟨hb3, hor⟩
  have HB3 : Hid (Below w.heap.size w w3) := HB2.out.trans (hb3.mono HB2.out.size)
  clear hb3 HC3
  rcases hor with ⟨_, rfl⟩ | ⟨hal, ⟨rfl, _⟩ | ⟨lb, nx, ou, rfl, hma, hle, _⟩⟩
  · go_wp2_with fail
    go_ret
    exact ⟨rfl, HB3.out⟩
  · go_wp2_with fail
    go_ret
    exact ⟨rfl, HB3.out⟩
  simp only [alwB, Bool.and_eq_true, decide_eq_true_eq, List.all_eq_true] at hal
  obtain ⟨⟨⟨hk1, hk2⟩, _⟩, _⟩ := hal
  obtain ⟨KN, rfl⟩ : ∃ KN : Nat, K = (KN : Int) := ⟨K.toNat, by omega⟩
  rw [show ((KN : Int)).toNat = KN by omega] at hma hle
  have HLE : Hid (LeastOf KN xs nx ou) := hle
  obtain ⟨n, hn⟩ : ∃ n, n = nx.length := ⟨_, rfl⟩
  have hpos : 0 < n := by rw [hn]; exact asMet_pos hle.asMet
  obtain ⟨oa, oo, oc, o1, o2⟩ := mch_out hma (by rw [hle.len, ← hn]; exact hpos)
  obtain ⟨na, no, nc, n1, n2⟩ := mch_next hma (by rw [← hn]; exact hpos)
  rw [hle.len, ← hn] at o1 o2
  rw [← hn] at n1
  have HCM : Hid (∀ V : World, Below w3.heap.size w3 V → V.cell? ⟨lb, 2, none⟩ = some (.slice (some ⟨oa, oo, none⟩) n oc) ∧ V.cell? ⟨lb, 1, none⟩ = some (.slice (some ⟨na, no, none⟩) n nc)) := fun V hV => ⟨upC hV o1, upC hV n1⟩
  have HCO : Hid (∀ V : World, Below w3.heap.size w3 V → ∀ s, s < n → V.cell? ⟨oa, oo + s, none⟩ = some (.int .u64 ((ou.getD s 0 : Nat) : Int))) := fun V hV s hs => upC hV (o2 s hs)
  have HCN : Hid (∀ s, s < n → ∃ b off rc, ∀ V : World, Below w3.heap.size w3 V → V.cell? ⟨na, no + s, none⟩ = some (.slice (some ⟨b, off, none⟩) KN rc) ∧ ∀ c, c < KN → V.cell? ⟨b, off + c, none⟩ = some (.int .i64 ((nxt nx s c : Nat) : Int))) := fun s hs => by
    have hs' : s < nx.length := by omega
    obtain ⟨ra, rc, m1, m2⟩ := n2 s hs'
    have hR : nx[s].length = KN := hle.wide _ (List.getElem_mem hs')
    rw [hR] at m1 m2
    obtain ⟨b, off, rfl, hc⟩ := m2.2 (by omega)
    refine ⟨b, off, rc, fun V hV => ⟨upC hV m1, fun c hcK => upC hV ?_⟩⟩
    rw [hc c hcK]
    have e : nxt nx s c = nx[s][c]'(by omega) := nxt_in hs' (by omega)
    rw [e]
    simp [intsN, List.getD_eq_getElem?_getD, show c < nx[s].length by omega]
  have HNL : Hid (∀ s c, nxt nx s c < n) := fun s c => by rw [hn]; exact nxt_lt (K := KN) hle.asMet (by rw [← hn]; exact hpos)
  have HLN : Hid (n = nx.length) := hn
  have hni : (n : Int) ≤ 1000000 := by obtain ⟨_, _, _, _, _, _, _, h, _⟩ := hma; omega
  have hKi : (KN : Int) ≤ 24 := hk2
  clear hma hle hn o1 o2 n1 n2
  obtain ⟨d1, d2⟩ := HCM.out w3 (Below.refl _ _)
  by_cases h60 : ¬ (n : Int) ≤ 60
  · go_wp2_with fail
    go_ret
    exact ⟨rfl, HB3.out⟩
  have h60' : (n : Int) ≤ 60 := by omega
  clear h60
  go_wp2_with fail
  go_loopw [11, 12] (fun x11 x12 wr => ∃ i m : Nat, i ≤ n ∧ x12 = .int .i64 (i : Int) ∧ x11 = .int .i64 (m : Int) ∧ metAll 0 1 (nx.take i) = some m ∧ m ≤ 1 + 24 * i ∧ wr = w3) (fun _ x12 _ => n - (intOf x12).toNat)
  case atStart => exact ⟨0, 1, by omega, rfl, rfl, rfl, by omega, rfl⟩
  case round =>
    obtain ⟨i, m, hi, hx12, hx11, hmet, hmb, hwr⟩ := hrel
    subst hx12 hx11
    obtain rfl : w3 = wr := hwr.symm
    have HMT : Hid (metAll 0 1 (nx.take i) = some m) := hmet
    clear hmet
    by_cases hlt : i < n
    · obtain ⟨him, m', hrow, hnext⟩ := met_ahead HLE.out.asMet (by rw [← HLN.out]; exact hlt) HMT.out
      obtain ⟨b, off, rc, hcn⟩ := HCN.out i hlt
      obtain ⟨d3, d4⟩ := hcn w3 (Below.refl _ _)
      have HD4 : Hid (∀ c, c < KN → w3.cell? ⟨b, off + c, none⟩ = some (.int .i64 ((nxt nx i c : Nat) : Int))) := d4
      have HROW : Hid (∀ c mc, c < KN → metRow m ((nx[i]'(by rw [← HLN.out]; exact hlt)).take c) = some mc → nxt nx i c ≤ mc ∧ metRow m ((nx[i]'(by rw [← HLN.out]; exact hlt)).take (c + 1)) = some (if nxt nx i c = mc then mc + 1 else mc)) := fun c mc hc hmc => by
        have hi' : i < nx.length := by rw [← HLN.out]; exact hlt
        have hR : nx[i].length = KN := HLE.out.wide _ (List.getElem_mem hi')
        have e : nxt nx i c = nx[i][c]'(by omega) := nxt_in hi' (by omega)
        rcases met_within hrow (by omega : c < nx[i].length) hmc with ⟨h1, h2⟩ | ⟨h1, h2⟩
        · rw [e, if_neg (by omega)]; exact ⟨by omega, h2⟩
        · rw [e, if_pos h1]; exact ⟨by omega, h2⟩
      have HEND : Hid (∀ mc, metRow m ((nx[i]'(by rw [← HLN.out]; exact hlt)).take KN) = some mc → metAll 0 1 (nx.take (i + 1)) = some mc) := fun mc hmc => by
        have hi' : i < nx.length := by rw [← HLN.out]; exact hlt
        have hR : nx[i].length = KN := HLE.out.wide _ (List.getElem_mem hi')
        rw [List.take_of_length_le (by omega), hrow] at hmc
        rw [hnext]; exact hmc
      have hii : (i : Int) < (n : Int) := by omega
      have hi0 : (0 : Int) ≤ (i : Int) := by omega
      have himi : (i : Int) < (m : Int) := by omega
      clear hcn d4 hrow hnext
      go_wp2_with fail
      go_loopw [11, 13] (fun x11 x13 wz => ∃ c mc : Nat, c ≤ KN ∧ x13 = .int .i64 (c : Int) ∧ x11 = .int .i64 (mc : Int) ∧ metRow m ((nx[i]'(by rw [← HLN.out]; exact hlt)).take c) = some mc ∧ wz = w3) (fun _ x13 _ => KN - (intOf x13).toNat)
      case atStart => exact ⟨0, m, by omega, rfl, rfl, rfl, rfl⟩
      case round =>
        obtain ⟨c, mc, hc, hx13, hx11, hmc, hwr⟩ := hrel
        subst hx13 hx11
        obtain rfl : w3 = wr := hwr.symm
        have HMC : Hid (metRow m ((nx[i]'(by rw [← HLN.out]; exact hlt)).take c) = some mc) := hmc
        clear hmc
        by_cases hcl : c < KN
        · have d5 := HD4.out c hcl
          obtain ⟨h1, h2⟩ := HROW.out c mc hcl HMC.out
          obtain ⟨t, ht⟩ : ∃ t, t = nxt nx i c := ⟨_, rfl⟩
          have htn : (t : Int) < (n : Int) := by rw [ht]; have := HNL.out i c; omega
          rw [← ht] at d5 h1 h2
          have hci : (c : Int) < (KN : Int) := by omega
          have ht0 : (0 : Int) ≤ (t : Int) := by omega
          have htm : (t : Int) ≤ (mc : Int) := by omega
          have hmcn : (mc : Int) ≤ 100000000 := by
            have h3 := metRow_bound HMC.out
            rw [List.length_take] at h3
            omega
          by_cases htc : t = mc
          · have htq : ((t : Int) == (mc : Int)) = true := by rw [htc]; simp
            rw [if_pos htc] at h2
            have HN2 : Hid (metRow m ((nx[i]'(by rw [← HLN.out]; exact hlt)).take (c + 1)) = some (mc + 1)) := h2
            clear h1 h2 ht htc
            go_wp2_with fail
            go_roundw
            case rel => exact ⟨c + 1, mc + 1, by omega, by go_num, by go_num, HN2.out, trivial⟩
            case measure => simp [intOf]; omega
          · have htq : ((t : Int) == (mc : Int)) = false := by rw [beq_eq_false_iff_ne]; omega
            rw [if_neg htc] at h2
            have HN2 : Hid (metRow m ((nx[i]'(by rw [← HLN.out]; exact hlt)).take (c + 1)) = some mc) := h2
            clear h1 h2 ht htc
            go_wp2_with fail
            go_roundw
            case rel => exact ⟨c + 1, mc, by omega, by go_num, rfl, HN2.out, trivial⟩
            case measure => simp [intOf]; omega
        · obtain rfl : c = KN := by omega
          have HE2 : Hid (metAll 0 1 (nx.take (i + 1)) = some mc ∧ mc ≤ 1 + 24 * (i + 1)) := ⟨HEND.out mc HMC.out, by
            have h3 := metRow_bound HMC.out
            rw [List.length_take] at h3
            omega⟩
          go_wp2_with fail
          go_roundw
          case rel => exact ⟨i + 1, mc, by omega, by go_num, rfl, HE2.out.1, HE2.out.2, trivial⟩
          case measure => simp [intOf]; omega
    · obtain rfl : i = n := by omega
      have hmi : (m : Int) = (i : Int) := by
        have h1 := HMT.out
        rw [List.take_of_length_le (by rw [← HLN.out]; exact Nat.le_refl _)] at h1
        have h2 := HLE.out.asMet
        unfold AsMet at h2
        rw [h1] at h2
        have := Option.some.inj h2
        rw [HLN.out]; omega
      obtain rfl : m = i := by omega
      clear hmi HMT hmb
      obtain ⟨T, hTT⟩ : ∃ T, T = w3.heap.size := ⟨_, rfl⟩
      obtain ⟨w4, hw4⟩ : ∃ w4, w4 = w3.alloc (.cells Tryd.zeroCells57 57) := ⟨_, rfl⟩
      have HB34 : Hid (Below w3.heap.size w3 w4) := by rw [hw4]; exact (Below.refl _ w3).alloc (Nat.le_refl _) _
      have HBM4 : Hid (BMat w4 T (fun _ _ => false)) := by rw [hw4, hTT]; exact BMat.first w3
      have HTL : Hid (w3.heap.size ≤ T) := by rw [hTT]; exact Nat.le_refl _
      have HME : Hid (∀ F : Nat → Nat → Bool, (∀ i j, i < m → j < m → F i j = true → TaW KN nx ou i j) → (∀ i j, i < m → j < m → isA nx ou F i j KN = true → F i j = true) → ∀ i j, i < m → j < m → F i j = decide (i ≠ j)) := fun F h1 h2 i j hi hj => by
        rw [HLN.out] at h1 h2 hi hj
        exact closed_all HLE.out h1 h2 i j hi hj
      have HTOLD : Hid (∀ (F : Nat → Nat → Bool), (∀ i j, i < m → j < m → F i j = true → TaW KN nx ou i j) → ∀ i j, isA nx ou F i j KN = true → TaW KN nx ou i j) := fun F h1 i j h2 => isA_told HNL.out h1 h2
      clear HLE HLN
      go_upto_region 22 with fail
      rw [← hTT, ← hw4]
      clear hTT hw4 d1 d2
      go_wp2_with fail
      go_loopw [16] (fun x16 wr => ∃ (z : Bool) (F : Nat → Nat → Bool), x16 = .bool z ∧ BMat wr T F ∧ Below w3.heap.size w3 wr ∧ (∀ i j, i < m → j < m → F i j = true → TaW KN nx ou i j) ∧ (z = false → ∀ i j, i < m → j < m → isA nx ou F i j KN = true → F i j = true)) (fun x16 wr => 2 * mleft wr T + tN x16)
      case atStart => exact ⟨true, fun _ _ => false, rfl, HBM4.out, HB34.out, fun i j _ _ h => (by cases h), fun h => (by cases h)⟩
      case round =>
        obtain ⟨z, F, hx16, hbm, hbw, htold, hclosed⟩ := hrel
        subst hx16
        have HBM : Hid (BMat wr T F) := hbm
        have HBW : Hid (Below w3.heap.size w3 wr) := hbw
        have HTO : Hid (∀ i j, i < m → j < m → F i j = true → TaW KN nx ou i j) := htold
        have HCLO : Hid (z = false → ∀ i j, i < m → j < m → isA nx ou F i j KN = true → F i j = true) := hclosed
        obtain ⟨mw, hmw⟩ : ∃ mw, mw = mleft wr T := ⟨_, rfl⟩
        have HMW : Hid (mw = mleft wr T) := hmw
        clear hbm hbw htold hclosed hmw HBM4 HB34
        cases z with
        | true =>
          have HI0 : Hid (LInv KN m nx ou F mw (fun i' j => i' < 0 ∧ j < m) false w3 wr T) := ⟨F, HBM.out, HBW.out, HTO.out, (fun h => by cases h), fun _ => ⟨rfl, HMW.out.symm, fun i j h => by omega⟩⟩
          clear HBM HBW HTO HCLO
          go_wp2_with fail
          go_loopw [16, 17] (fun x16 x17 wz => ∃ (i : Nat) (b : Bool), i ≤ m ∧ x17 = .int .i64 (i : Int) ∧ x16 = .bool b ∧ LInv KN m nx ou F mw (fun i' j => i' < i ∧ j < m) b w3 wz T) (fun _ x17 _ => m - (intOf x17).toNat)
          case atStart => exact ⟨0, false, by omega, rfl, rfl, HI0.out⟩
          case round =>
            obtain ⟨i, b, hi, hx17, hx16, hinv⟩ := hrel
            subst hx17 hx16
            have HIN : Hid (LInv KN m nx ou F mw (fun i' j => i' < i ∧ j < m) b w3 wr T) := hinv
            clear hinv HI0
            by_cases hlt : i < m
            · have hii : (i : Int) < (m : Int) := by omega
              have hi0 : (0 : Int) ≤ (i : Int) := by omega
              have HI1 : Hid (LInv KN m nx ou F mw (fun i' j => (i' < i ∧ j < m) ∨ (i' = i ∧ j < 0)) b w3 wr T) := HIN.out.imp (fun i' j h => by omega)
              clear HIN
              go_wp2_with fail
              go_loopw [16, 18] (fun x16 x18 wz => ∃ (k : Nat) (b : Bool), k ≤ m ∧ x18 = .int .i64 (k : Int) ∧ x16 = .bool b ∧ LInv KN m nx ou F mw (fun i' j => (i' < i ∧ j < m) ∨ (i' = i ∧ j < k)) b w3 wz T) (fun _ x18 _ => m - (intOf x18).toNat)
              case atStart => exact ⟨0, b, by omega, rfl, rfl, HI1.out⟩
              case round =>
                obtain ⟨k, b, hk, hx18, hx16, hinv⟩ := hrel
                subst hx18 hx16
                have HIN : Hid (LInv KN m nx ou F mw (fun i' j => (i' < i ∧ j < m) ∨ (i' = i ∧ j < k)) b w3 wr T) := hinv
                clear hinv HI1
                by_cases hkl : k < m
                · have hki : (k : Int) < (m : Int) := by omega
                  have hk0 : (0 : Int) ≤ (k : Int) := by omega
                  obtain ⟨F', hbm, hbw, hto, hb1, hb2⟩ := HIN.out
                  have HBM : Hid (BMat wr T F') := hbm
                  have HBW : Hid (Below w3.heap.size w3 wr) := hbw
                  have HTO : Hid (ToldM KN m nx ou F') := hto
                  have HBB : Hid ((b = true → mleft wr T < mw) ∧ (b = false → F' = F ∧ mleft wr T = mw ∧ ∀ i' j, ((i' < i ∧ j < m) ∨ (i' = i ∧ j < k)) → isA nx ou F i' j KN = true → F i' j = true)) := ⟨hb1, hb2⟩
                  obtain ⟨d1, d2⟩ := HCM.out wr hbw
                  have d3 := HCO.out wr hbw i hlt
                  have d4 := HCO.out wr hbw k hkl
                  obtain ⟨Yi, hYi⟩ : ∃ Y, Y = ou.getD i 0 := ⟨_, rfl⟩
                  obtain ⟨Yk, hYk⟩ : ∃ Y, Y = ou.getD k 0 := ⟨_, rfl⟩
                  rw [← hYi] at d3
                  rw [← hYk] at d4
                  obtain ⟨z0, hz0⟩ : ∃ z0, ((Yi : Int) != (Yk : Int)) = z0 := ⟨_, rfl⟩
                  have HZ0 : Hid (z0 = isA nx ou F' i k 0) := by
                    show z0 = isA nx ou F' i k 0
                    rw [isA_zero, ← hYi, ← hYk, ← hz0, Bool.eq_iff_iff]
                    simp
                    omega
                  obtain ⟨M6, hM6⟩ : ∃ M6, M6 = mleft wr T := ⟨_, rfl⟩
                  have HM6 : Hid (M6 = mleft wr T) := hM6
                  clear hbm hbw hto hb1 hb2 hYi hYk HIN hM6
                  go_wp2_with fail
                  go_quiet (fail)
                  clear d1 d2 d3 d4
                  go_wp2_with fail
                  go_loopw [19, 20] (fun x19 x20 wz => ∃ (c : Nat) (z : Bool), c ≤ KN ∧ x20 = .int .i64 (c : Int) ∧ x19 = .bool z ∧ z = isA nx ou F' i k c ∧ BMat wz T F' ∧ Below w3.heap.size w3 wz ∧ mleft wz T = M6) (fun _ x20 _ => KN - (intOf x20).toNat)
                  case atStart => exact ⟨0, z0, by omega, rfl, rfl, HZ0.out, HBM.out.drewN _, bdN HBW.out _, HM6.out.symm⟩
                  case round =>
                    obtain ⟨c, z, hc, hx20, hx19, hz, hbm, hbw, hml⟩ := hrel
                    subst hx20 hx19
                    have HZ : Hid (z = isA nx ou F' i k c) := hz
                    have HBM2 : Hid (BMat wr T F') := hbm
                    have HBW2 : Hid (Below w3.heap.size w3 wr) := hbw
                    have HML2 : Hid (mleft wr T = M6) := hml
                    clear hz hbm hbw hml hz0 HZ0
                    by_cases hcl : c < KN
                    · have hci : (c : Int) < (KN : Int) := by omega
                      have hc0 : (0 : Int) ≤ (c : Int) := by omega
                      have HSUC := isA_succ nx ou F' i k c
                      rw [← HZ.out] at HSUC
                      have HS : Hid (isA nx ou F' i k (c + 1) = (z || F' (nxt nx i c) (nxt nx k c))) := HSUC
                      clear HSUC
                      cases z with
                      | true =>
                        have HN2 : Hid (true = isA nx ou F' i k (c + 1)) := by rw [HS.out]; rfl
                        go_wp2_with fail
                        go_quiet (fail)
                        go_wp2_with fail
                        go_roundw
                        case rel => exact ⟨c + 1, true, by omega, by go_num, rfl, HN2.out, HBM2.out.drewN _, bdN HBW2.out _, HML2.out⟩
                        case measure => simp [intOf]; omega
                      | false =>
                        obtain ⟨d1, d2⟩ := HCM.out wr HBW2.out
                        obtain ⟨b1, f1, r1, hq1⟩ := HCN.out i hlt
                        obtain ⟨b2, f2, r2, hq2⟩ := HCN.out k hkl
                        obtain ⟨d3, d4⟩ := hq1 wr HBW2.out
                        obtain ⟨d5, d6⟩ := hq2 wr HBW2.out
                        have d7 := d4 c hcl
                        have d8 := d6 c hcl
                        have ht1 := HNL.out i c
                        have ht2 := HNL.out k c
                        have d9 := HBM2.out.cell (i := nxt nx i c) (j := nxt nx k c) (by omega) (by omega)
                        have HN2 : Hid (F' (nxt nx i c) (nxt nx k c) = isA nx ou F' i k (c + 1)) := by rw [HS.out]; rfl
                        obtain ⟨t1, hT1⟩ : ∃ t, t = nxt nx i c := ⟨_, rfl⟩
                        obtain ⟨t2, hT2⟩ : ∃ t, t = nxt nx k c := ⟨_, rfl⟩
                        rw [← hT1] at d7 d9 ht1 HN2
                        rw [← hT2] at d8 d9 ht2 HN2
                        obtain ⟨zz, hzz⟩ : ∃ zz, zz = F' t1 t2 := ⟨_, rfl⟩
                        rw [← hzz] at d9 HN2
                        have ht1i : (t1 : Int) < 60 := by omega
                        have ht2i : (t2 : Int) < 60 := by omega
                        have ht10 : (0 : Int) ≤ (t1 : Int) := by omega
                        have ht20 : (0 : Int) ≤ (t2 : Int) := by omega
                        clear hq1 hq2 d4 d6 hT1 hT2 hzz ht1 ht2 HS
                        go_wp2_with fail
                        go_quiet (fail)
                        clear d1 d2 d3 d5 d7 d8 d9
                        go_wp2_with fail
                        go_roundw
                        case rel => exact ⟨c + 1, zz, by omega, by go_num, by simp, HN2.out, HBM2.out.drewN _, bdN HBW2.out _, HML2.out⟩
                        case measure => simp [intOf]; omega
                    · obtain rfl : c = KN := by omega
                      have hki60 : (k : Int) < 60 := by omega
                      have hi60 : (i : Int) < 60 := by omega
                      have d1 := HBM2.out.cell (i := i) (j := k) (by omega) (by omega)
                      cases z with
                      | false =>
                        have HI3 : Hid (LInv c m nx ou F mw (fun i' j => (i' < i ∧ j < m) ∨ (i' = i ∧ j < k + 1)) b w3 wr T) := by
                          refine ⟨F', HBM2.out, HBW2.out, HTO.out, fun hb => by rw [HML2.out, HM6.out]; exact HBB.out.1 hb, fun hb => ?_⟩
                          obtain ⟨e, h1, h2⟩ := HBB.out.2 hb
                          refine ⟨e, by rw [HML2.out, HM6.out]; exact h1, fun i' j hp hA => ?_⟩
                          by_cases hq : (i' < i ∧ j < m) ∨ (i' = i ∧ j < k)
                          · exact h2 i' j hq hA
                          · obtain ⟨rfl, rfl⟩ : i' = i ∧ j = k := by omega
                            have := HZ.out
                            rw [e, hA] at this
                            cases this
                        go_wp2_with fail
                        go_roundw
                        case rel => exact ⟨k + 1, b, by omega, by go_num, rfl, HI3.out⟩
                        case measure => simp [intOf]; omega
                      | true =>
                        cases hF : F' i k with
                        | true =>
                          rw [hF] at d1
                          have HI3 : Hid (LInv c m nx ou F mw (fun i' j => (i' < i ∧ j < m) ∨ (i' = i ∧ j < k + 1)) b w3 wr T) := by
                            refine ⟨F', HBM2.out, HBW2.out, HTO.out, fun hb => by rw [HML2.out, HM6.out]; exact HBB.out.1 hb, fun hb => ?_⟩
                            obtain ⟨e, h1, h2⟩ := HBB.out.2 hb
                            refine ⟨e, by rw [HML2.out, HM6.out]; exact h1, fun i' j hp hA => ?_⟩
                            by_cases hq : (i' < i ∧ j < m) ∨ (i' = i ∧ j < k)
                            · exact h2 i' j hq hA
                            · obtain ⟨rfl, rfl⟩ : i' = i ∧ j = k := by omega
                              rw [e] at hF; exact hF
                          clear hF
                          go_wp2_with fail
                          go_roundw
                          case rel => exact ⟨k + 1, b, by omega, by go_num, rfl, HI3.out⟩
                          case measure => simp [intOf]; omega
                        | false =>
                          rw [hF] at d1
                          have dz := HBM2.out.frozen (i * 60 + k)
                          obtain ⟨w7, hw7⟩ : ∃ w7, w7 = wr.setCell ⟨T, i * 60 + k, none⟩ (.bool true) := ⟨_, rfl⟩
                          have HI3 : Hid (LInv c m nx ou F mw (fun i' j => (i' < i ∧ j < m) ∨ (i' = i ∧ j < k + 1)) true w3 w7 T) := by
                            refine ⟨markF F' i k, ?_, ?_, fun a b ha hb hab => ?_, fun _ => ?_, fun h => by cases h⟩
                            · rw [hw7]; exact HBM2.out.mark (by omega) (by omega)
                            · rw [hw7]; exact HBW2.out.setCell (p := ⟨T, i * 60 + k, none⟩) HTL.out _
                            · by_cases hab2 : F' a b = true
                              · exact HTO.out a b ha hb hab2
                              · have : a = i ∧ b = k := by
                                  simp only [markF, Bool.or_eq_true, Bool.and_eq_true, decide_eq_true_eq] at hab
                                  rcases hab with h | h
                                  · exact absurd h hab2
                                  · exact h
                                obtain ⟨rfl, rfl⟩ := this
                                exact HTOLD.out F' HTO.out _ _ HZ.out.symm
                            · have h1 := mleft_mark HBM2.out (i := i) (j := k) (by omega) (by omega) hF
                              rw [← hw7, HML2.out, HM6.out] at h1
                              cases b with
                              | true => have := HBB.out.1 rfl; omega
                              | false => have := (HBB.out.2 rfl).2.1; omega
                          clear hF
                          go_wp2_with fail
                          rw [← hw7]
                          clear hw7
                          go_roundw
                          case rel => exact ⟨k + 1, true, by omega, by go_num, rfl, HI3.out⟩
                          case measure => simp [intOf]; omega
                · have hki : ¬ (k : Int) < (m : Int) := by omega
                  have HI2 : Hid (LInv KN m nx ou F mw (fun i' j => i' < i + 1 ∧ j < m) b w3 wr T) := HIN.out.imp (fun i' j h => by omega)
                  go_wp2_with fail
                  go_roundw
                  case rel => exact ⟨i + 1, b, by omega, by go_num, rfl, HI2.out⟩
                  case measure => simp [intOf]; omega
            · have hii : ¬ (i : Int) < (m : Int) := by omega
              obtain ⟨F', hbm, hbw, hto, hb1, hb2⟩ := HIN.out
              have HFIN : Hid (BMat wr T F' ∧ Below w3.heap.size w3 wr ∧ ToldM KN m nx ou F' ∧ (b = false → ∀ i j, i < m → j < m → isA nx ou F' i j KN = true → F' i j = true) ∧ 2 * mleft wr T + tN (.bool b) < 2 * mw + 1) := by
                refine ⟨hbm, hbw, hto, fun hb i' j hi' hj => ?_, ?_⟩
                · obtain ⟨e, _, h⟩ := hb2 hb
                  rw [e]; exact h i' j ⟨by omega, hj⟩
                · cases b with
                  | true => have := hb1 rfl; simp only [tN]; omega
                  | false => have := (hb2 rfl).2.1; simp only [tN]; omega
              clear hbm hbw hto hb1 hb2 HIN
              go_wp2_with fail
              go_roundw
              case rel => exact ⟨b, F', rfl, HFIN.out.1, HFIN.out.2.1, HFIN.out.2.2.1, HFIN.out.2.2.2.1⟩
              case measure =>
                have := HFIN.out.2.2.2.2
                rw [HMW.out] at this
                simpa [tN] using this
        | false =>
          have HEQ : Hid (∀ i j, i < m → j < m → F i j = decide (i ≠ j)) := HME.out F HTO.out (HCLO.out rfl)
          clear HTO HCLO HMW
          go_wp2_with fail
          go_loopw [21] (fun x21 wz => ∃ i : Nat, i ≤ m ∧ x21 = .int .i64 (i : Int) ∧ BMat wz T F ∧ Below w3.heap.size w3 wz) (fun x21 _ => m - (intOf x21).toNat)
          case atStart => exact ⟨0, by omega, rfl, HBM.out, HBW.out⟩
          case round =>
            obtain ⟨i, hi, hx21, hbm, hbw⟩ := hrel
            subst hx21
            have HBM2 : Hid (BMat wr T F) := hbm
            have HBW2 : Hid (Below w3.heap.size w3 wr) := hbw
            clear hbm hbw HBM HBW
            by_cases hlt : i < m
            · have hii : (i : Int) < (m : Int) := by omega
              have hi0 : (0 : Int) ≤ (i : Int) := by omega
              have hi60 : (i : Int) < 60 := by omega
              go_wp2_with fail
              go_loopw [22] (fun x22 wz => ∃ k : Nat, k ≤ m ∧ x22 = .int .i64 (k : Int) ∧ BMat wz T F ∧ Below w3.heap.size w3 wz) (fun x22 _ => m - (intOf x22).toNat)
              case atStart => exact ⟨0, by omega, rfl, HBM2.out, HBW2.out⟩
              case round =>
                obtain ⟨k, hk, hx22, hbm, hbw⟩ := hrel
                subst hx22
                have HBM3 : Hid (BMat wr T F) := hbm
                have HBW3 : Hid (Below w3.heap.size w3 wr) := hbw
                clear hbm hbw
                by_cases hkl : k < m
                · have hki : (k : Int) < (m : Int) := by omega
                  have hk0 : (0 : Int) ≤ (k : Int) := by omega
                  have hk60 : (k : Int) < 60 := by omega
                  have d1 := HBM3.out.cell (i := i) (j := k) (by omega) (by omega)
                  rw [HEQ.out i k hlt hkl] at d1
                  obtain ⟨zz, hzz⟩ : ∃ zz, decide (i ≠ k) = zz := ⟨_, rfl⟩
                  rw [hzz] at d1
                  have hne : ((i : Int) != (k : Int)) = zz := by rw [← hzz, Bool.eq_iff_iff]; simp; omega
                  clear hzz
                  go_wp2_with fail
                  go_roundw
                  case rel => exact ⟨k + 1, by omega, by go_num, HBM3.out, HBW3.out⟩
                  case measure => simp [intOf]; omega
                · have hki : ¬ (k : Int) < (m : Int) := by omega
                  go_wp2_with fail
                  go_roundw
                  case rel => exact ⟨i + 1, by omega, by go_num, HBM3.out, HBW3.out⟩
                  case measure => simp [intOf]; omega
            · have hii : ¬ (i : Int) < (m : Int) := by omega
              have HBE : Hid (Below w.heap.size w wr) := HB3.out.trans (HBW2.out.mono HB3.out.size)
              go_wp2_with fail
              go_ret
              exact ⟨by simp, HBE.out⟩
end Go.Proofs.YtpmmmgjiekikeaaDoor
