/- The walk of IndexOrder. -/
import Derived.Test.YtpahbofccloeaaaDoorIndexSetsW
namespace Go.Proofs.YtpahbofccloeaaaDoor
open Go.RowKit
set_option linter.unusedVariables false
set_option linter.unusedSimpArgs false

theorem ins_head (l : List Bool) (b : Bool) : ins l 0 b = b :: l := by simp [ins]
theorem drop_back (bs : List Bool) (n i : Nat) (h : i < n) (hn : n ≤ bs.length) : bs.getD (n - 1 - i) false :: (bs.take n).drop (n - i) = (bs.take n).drop (n - (i + 1)) := by
  have hl : n - (i + 1) < (bs.take n).length := by rw [List.length_take]; omega
  rw [List.drop_eq_getElem_cons hl, show n - (i + 1) + 1 = n - i by omega]
  congr 1
  rw [List.getElem_take]
  simp [show n - 1 - i = n - (i + 1) by omega, show n - (i + 1) < bs.length by omega]
theorem t_at {w0 w : World} {P Q : Nat} {L M : List Bool} (h : IxT w0 w P Q L M) : Below w0.heap.size w0 w := h.one.below
set_option maxRecDepth 100000 in
set_option maxHeartbeats 8000000 in
theorem indexOrder_walk (bs : List Bool) (a : Option Addr) (len cap : Nat) (w : World) (hrd : RdT w a len bs) (hT : TabD w) :
    Calls Tryd.prog 5 #[.slice a len cap] w fun e w' => e = .returned (.bool true) ∧ Below w.heap.size w w' := by
  have HSH : Hid (Calls Tryd.prog 8 #[] w fun e w' => e = .returned (.bool true) ∧ Below w.heap.size w w') := shown13_any w hT
  have HN : Hid (∀ w1, Below w.heap.size w w1 → Calls Tryd.prog 9 #[] w1 fun e w' => ∃ P, e = .returned (.pointer (some ⟨P, 0, none⟩)) ∧ IxS w w' P []) := fun w1 h => s_new h
  have HN2 : Hid (∀ w1 P, IxS w w1 P [] → Calls Tryd.prog 9 #[] w1 fun e w' => ∃ Q, e = .returned (.pointer (some ⟨Q, 0, none⟩)) ∧ IxT w w' P Q [] []) := fun w1 P h => t_new h
  have HT : Hid (TabD w) := hT
  have HD : Hid (RdT w a len bs) := hrd
  obtain ⟨n, hn⟩ : ∃ n, n = Nat.min len 300 := ⟨_, rfl⟩
  have hnl : n ≤ len := by rw [hn]; exact Nat.min_le_left _ _
  have hn3 : n ≤ 300 := by rw [hn]; exact Nat.min_le_right _ _
  have hmin : ∀ W : World, (Builtin.min_ #[3, 3] 3 #[.int .i64 len, .int .i64 300]).run Tryd.prog W = .ok (.int .i64 n) W := min_run len n 300 (by rw [hn]; simp [Nat.min_def]; split <;> omega)
  have HNL : Hid (n ≤ len ∧ n ≤ 300 ∧ bs.length = len) := ⟨hnl, hn3, hrd.1⟩
  clear hT hrd hn hnl hn3
  go_enter Tryd.func5, Tryd.ntmps5
  go_upto_region 7 with (first | (go_at_call 8; refine HSH.out.mono ?_; rintro e w1 ⟨rfl, hb1⟩; have HB1 : Hid (Below w.heap.size w w1) := hb1; clear hb1) | (go_at_call 9; refine (HN.out _ HB1.out).mono ?_; rintro e w2 ⟨P, rfl, hs⟩; have HS2 : Hid (IxS w w2 P []) := hs; clear hs HB1) | (go_at_call 9; refine (HN2.out _ _ HS2.out).mono ?_; rintro e w3 ⟨Q, rfl, hs⟩; have HS3 : Hid (IxT w w3 P Q [] []) := hs; clear hs))
  go_wp2_with fail
  go_loopw [7] (fun x7 wr => ∃ i : Nat, x7 = .int .i64 (i : Int) ∧ i ≤ n ∧ IxT w wr P Q (bs.take i) ((bs.take n).drop (n - i))) (fun x7 _ => n - (intOf x7).toNat)
  case atStart => exact ⟨0, rfl, by omega, by
    have h : (bs.take n).drop (n - 0) = [] := by apply List.drop_of_length_le; rw [List.length_take]; omega
    rw [h]; exact HS3.out⟩
  case round =>
    obtain ⟨i, hx, hik, hs⟩ := hrel
    subst hx
    have HS : Hid (IxT w wr P Q (bs.take i) ((bs.take n).drop (n - i))) := hs
    clear hs
    have hnl := HNL.out
    by_cases hlt : i < n
    · have hlt' : decide ((i : Int) < (n : Int)) = true := by simpa using hlt
      have hib : i < bs.length := by omega
      obtain ⟨gb, off, rfl, hc⟩ := (HD.out.later (t_at HS.out)).at i (by omega)
      obtain ⟨j, hj⟩ : ∃ j, j = n - 1 - i := ⟨_, rfl⟩
      have HC2 : Hid (∀ W, Below w.heap.size w W → W.cell? ⟨gb, off + j, none⟩ = some (.bool (bs.getD j false))) := fun W hW => by
        obtain ⟨gb', off', he, hc⟩ := (HD.out.later hW).at j (by omega)
        cases he
        exact hc
      have HI : Hid (Calls Tryd.prog 12 #[.pointer (some ⟨P, 0, none⟩), .int .i64 (i : Int), .bool (bs.getD i false)] wr fun e w' => e = .returned (.bool true) ∧ IxT w w' P Q (bs.take (i + 1)) ((bs.take n).drop (n - i))) := by
        have := t_ins HS.out i (bs.getD i false) (by rw [List.length_take]; omega) (by rw [List.length_take]; omega)
        rw [ins_end bs i hib] at this
        exact this
      have HI2 : Hid (∀ W, IxT w W P Q (bs.take (i + 1)) ((bs.take n).drop (n - i)) → Calls Tryd.prog 12 #[.pointer (some ⟨Q, 0, none⟩), .int .i64 0, .bool (bs.getD j false)] W fun e w' => e = .returned (.bool true) ∧ IxT w w' P Q (bs.take (i + 1)) ((bs.take n).drop (n - (i + 1)))) := by
        intro W hW
        refine (t_ins hW.swap 0 (bs.getD j false) (by omega) (by rw [List.length_drop, List.length_take]; omega)).mono ?_
        rintro e w' ⟨rfl, h⟩
        rw [ins_head, hj, drop_back bs n i hlt (by omega)] at h
        exact ⟨rfl, h.swap⟩
      have hi0 : (0 : Int) ≤ (i : Int) := by omega
      have hi1 : (i : Int) < (len : Int) := by omega
      have hi2 : (i : Int) + 1 ≤ 301 := by omega
      have hji : (n : Int) - 1 - (i : Int) = (j : Int) := by omega
      have hj0 : (0 : Int) ≤ (j : Int) := by omega
      have hj1 : (j : Int) < (len : Int) := by omega
      have hjw : IntKind.i64.wrap ((n : Int) - 1 - (i : Int)) = (j : Int) := by rw [IntKind.wrap_i64]; omega
      have hjw2 : IntKind.i64.wrap ((n : Int) - 1) = (n : Int) - 1 := by rw [IntKind.wrap_i64]; omega
      have hjw3 : wrap64 (j : Int) = (j : Int) := by unfold wrap64; omega
      have HX : Hid (i + 1 ≤ n) := hlt
      clear hlt hik hib HS hnl hmin HSH HN HN2 HS2 HS3 hj
      generalize bs.getD i false = z at hc HI
      generalize bs.getD j false = y at HC2 HI2
      go_upto_region 11 with (first | (go_at_call 12; refine HI.out.mono ?_; rintro e w4 ⟨rfl, hs⟩; have HS4 : Hid (IxT w w4 P Q (bs.take (i + 1)) ((bs.take n).drop (n - i))) := hs; clear hs))
      have c4 := HC2.out w4 (t_at HS4.out)
      go_wp2_with (first | (go_at_call 12; refine (HI2.out _ HS4.out).mono ?_; rintro e w5 ⟨rfl, hs⟩; have HS5 : Hid (IxT w w5 P Q (bs.take (i + 1)) ((bs.take n).drop (n - (i + 1)))) := hs; clear hs))
      go_roundw
      case rel => exact ⟨i + 1, by rw [Int.natCast_add]; rfl, HX.out, HS5.out⟩
      case measure => have := HX.out; simp [intOf]; omega
    · have hlt' : decide ((i : Int) < (n : Int)) = false := by simpa using hlt
      obtain rfl : i = n := by omega
      obtain ⟨L, hL⟩ : ∃ L, L = bs.take i := ⟨_, rfl⟩
      rw [Nat.sub_self, List.drop_zero, ← hL] at HS
      have hlL : L.length = i := by rw [hL, List.length_take]; omega
      have hgL : ∀ k, k < i → L.getD k false = bs.getD k false := fun k hk => by rw [hL]; simp [List.getD_eq_getElem?_getD, List.getElem?_take, hk]
      have HG : Hid (L.length = i ∧ i ≤ 300 ∧ i ≤ len ∧ ∀ k, k < i → L.getD k false = bs.getD k false) := ⟨hlL, by omega, by omega, hgL⟩
      have HC : Hid (∀ W, Below w.heap.size w W → ∀ k, k < i → ∃ gb off, a = some ⟨gb, off, none⟩ ∧ W.cell? ⟨gb, off + k, none⟩ = some (.bool (bs.getD k false))) := fun W hW k hk => (HD.out.later hW).at k (by omega)
      clear hlt hik HSH HN HN2 HS2 HS3 hmin hnl hL hlL hgL HNL HD
      go_upto_region 12 with fail
      go_wp2_with fail
      go_loopw [8] (fun x8 wr => ∃ t : Int, x8 = .int .i64 t ∧ -1 ≤ t ∧ t ≤ (i : Int) + 1 ∧ IxT w wr P Q L L) (fun x8 _ => (i + 2 - (intOf x8 + 1)).toNat)
      case atStart => exact ⟨-1, rfl, by omega, by omega, HS.out⟩
      case round =>
        obtain ⟨t, hx, ht1, ht2, hs⟩ := hrel
        subst hx
        have HS : Hid (IxT w wr P Q L L) := hs
        clear hs
        by_cases hle : t ≤ (i : Int)
        · have hle' : decide (t ≤ (i : Int)) = true := by simpa using hle
          obtain ⟨g1, g2, g3, g4⟩ := HG.out
          have HSL1 : Hid (∀ q, Calls Tryd.prog 14 #[.pointer (some ⟨P, 0, none⟩), .int .i64 t] (wr.drewN q) fun e w' => e = .returned (.tuple #[.int .i64 (selI L t), .bool (selB L t)]) ∧ w' = wr.drewN q) := fun q => s_select (HS.out.drewN q).one HT.out t (by omega) (by omega)
          have HSL2 : Hid (∀ q, Calls Tryd.prog 14 #[.pointer (some ⟨Q, 0, none⟩), .int .i64 t] (wr.drewN q) fun e w' => e = .returned (.tuple #[.int .i64 (selI L t), .bool (selB L t)]) ∧ w' = wr.drewN q) := fun q => s_select (HS.out.drewN q).two HT.out t (by omega) (by omega)
          have HSE1 : Hid (∀ q, Calls Tryd.prog 18 #[.pointer (some ⟨P, 0, none⟩), .int .i64 t] (wr.drewN q) fun e w' => e = .returned (.bool (seenB L t)) ∧ w' = wr.drewN q) := fun q => s_seen (HS.out.drewN q).one t (by omega)
          have HSE2 : Hid (∀ q, Calls Tryd.prog 18 #[.pointer (some ⟨Q, 0, none⟩), .int .i64 t] (wr.drewN q) fun e w' => e = .returned (.bool (seenB L t)) ∧ w' = wr.drewN q) := fun q => s_seen (HS.out.drewN q).two t (by omega)
          have HRK1 : Hid (∀ q, Calls Tryd.prog 16 #[.pointer (some ⟨P, 0, none⟩), .int .i64 t] (wr.drewN q) fun e w' => e = .returned (.int .i64 (rnk L t : Int)) ∧ ∃ m, w' = (wr.drewN q).drewN m) := fun q => s_rank (HS.out.drewN q).one t (by omega) (by omega)
          have HRK2 : Hid (∀ q, Calls Tryd.prog 16 #[.pointer (some ⟨Q, 0, none⟩), .int .i64 t] (wr.drewN q) fun e w' => e = .returned (.int .i64 (rnk L t : Int)) ∧ ∃ m, w' = (wr.drewN q).drewN m) := fun q => s_rank (HS.out.drewN q).two t (by omega) (by omega)
          have ht3 : t + 1 ≤ 302 := by omega
          have HTT : Hid (-1 ≤ t ∧ t ≤ (i : Int)) := ⟨ht1, hle⟩
          have HSZ : Hid (∀ k : Nat, t = (k : Int) → k < i → seenB L t = bs.getD k false) := by
            rintro k rfl hk
            unfold seenB
            rw [decide_eq_true (by omega), Bool.true_and]
            exact g4 k hk
          clear g1 g2 g3 g4 hle ht2
          generalize selI L t = sp at HSL1 HSL2
          generalize selB L t = sb at HSL1 HSL2
          generalize hz : seenB L t = z at HSE1 HSE2 HSZ
          generalize (rnk L t : Int) = rk at HRK1 HRK2
          clear hz
          have e1 : (z != z) = false := by simp
          have e2 : (rk != rk) = false := by simp
          have e3 : (sp != sp) = false := by simp
          have e4 : (sb != sb) = false := by simp
          go_upto_region 17 with (first | (go_at_call_of 14 (Value.pointer (some ⟨P, 0, none⟩)); refine (HSL1.out 0).mono ?_; rintro e w' ⟨rfl, hw⟩; have hw := hw.symm; subst hw) | (go_at_call_of 14 (Value.pointer (some ⟨Q, 0, none⟩)); refine (HSL2.out 0).mono ?_; rintro e w' ⟨rfl, hw⟩; have hw := hw.symm; subst hw))
          by_cases h0 : 0 ≤ t
          · have h0' : decide (0 ≤ t) = true := by simpa using h0
            by_cases h1 : t < (i : Int)
            · have h1' : decide (t < (i : Int)) = true := by simpa using h1
              obtain ⟨k, hk⟩ : ∃ k : Nat, t = (k : Int) := ⟨t.toNat, by omega⟩
              have hki : k < i := by omega
              obtain ⟨gb, off, rfl, hcell⟩ := HC.out wr (t_at HS.out) k hki
              have hzk := HSZ.out k hk hki
              rw [← hzk] at hcell
              have hl1 : (k : Int) < (len : Int) := by have := HG.out.2.2.1; omega
              have hk0 : (0 : Int) ≤ (k : Int) := by omega
              clear hzk HSZ h0 h1 ht1
              subst hk
              go_quiet (first | (go_at_call 18; first | with_reducible exact Calls.quiet_of_same (HSE1.out _) | with_reducible exact Calls.quiet_of_same (HSE2.out _)) | (go_at_call 16; first | with_reducible exact Calls.quiet_of (HRK1.out _) | with_reducible exact Calls.quiet_of (HRK2.out _)))
              go_wp2_with fail
              go_roundw
              case rel => exact ⟨(k : Int) + 1, rfl, by have := HTT.out; omega, by have := HTT.out; omega, HS.out.drewN _⟩
              case measure => have := HTT.out; simp [intOf]; omega
            · have h1' : decide (t < (i : Int)) = false := by simpa using h1
              clear h0 h1 HSZ
              go_quiet (first | (go_at_call 18; first | with_reducible exact Calls.quiet_of_same (HSE1.out _) | with_reducible exact Calls.quiet_of_same (HSE2.out _)) | (go_at_call 16; first | with_reducible exact Calls.quiet_of (HRK1.out _) | with_reducible exact Calls.quiet_of (HRK2.out _)))
              go_wp2_with fail
              go_roundw
              case rel => exact ⟨t + 1, rfl, by have := HTT.out; omega, by have := HTT.out; omega, HS.out.drewN _⟩
              case measure => have := HTT.out; simp [intOf]; omega
          · have h0' : decide (0 ≤ t) = false := by simpa using h0
            clear h0 HSZ
            go_quiet (first | (go_at_call 18; first | with_reducible exact Calls.quiet_of_same (HSE1.out _) | with_reducible exact Calls.quiet_of_same (HSE2.out _)) | (go_at_call 16; first | with_reducible exact Calls.quiet_of (HRK1.out _) | with_reducible exact Calls.quiet_of (HRK2.out _)))
            go_wp2_with fail
            go_roundw
            case rel => exact ⟨t + 1, rfl, by have := HTT.out; omega, by have := HTT.out; omega, HS.out.drewN _⟩
            case measure => have := HTT.out; simp [intOf]; omega
        · have hle' : decide (t ≤ (i : Int)) = false := by simpa using hle
          have HLN1 : Hid (∀ q, Calls Tryd.prog 19 #[.pointer (some ⟨P, 0, none⟩)] (wr.drewN q) fun e w' => e = .returned (.int .i64 (i : Int)) ∧ w' = wr.drewN q) := fun q => by
            have := s_len (HS.out.drewN q).one
            rw [HG.out.1] at this
            exact this
          have HLN2 : Hid (∀ q, Calls Tryd.prog 19 #[.pointer (some ⟨Q, 0, none⟩)] (wr.drewN q) fun e w' => e = .returned (.int .i64 (i : Int)) ∧ w' = wr.drewN q) := fun q => by
            have := s_len (HS.out.drewN q).two
            rw [HG.out.1] at this
            exact this
          have HCN1 : Hid (∀ q, Calls Tryd.prog 20 #[.pointer (some ⟨P, 0, none⟩)] (wr.drewN q) fun e w' => e = .returned (.int .i64 (cnt L : Int)) ∧ w' = wr.drewN q) := fun q => s_count (HS.out.drewN q).one
          have HCN2 : Hid (∀ q, Calls Tryd.prog 20 #[.pointer (some ⟨Q, 0, none⟩)] (wr.drewN q) fun e w' => e = .returned (.int .i64 (cnt L : Int)) ∧ w' = wr.drewN q) := fun q => s_count (HS.out.drewN q).two
          generalize (cnt L : Int) = xc at HCN1 HCN2
          have e1 : ((i : Int) == (i : Int)) = true := by simp
          have e2 : (xc == xc) = true := by simp
          clear hle ht1 ht2 HG HC
          go_upto_region 19 with fail
          go_quiet (first | (go_at_call 19; first | with_reducible exact Calls.quiet_of_same (HLN1.out _) | with_reducible exact Calls.quiet_of_same (HLN2.out _)) | (go_at_call 20; first | with_reducible exact Calls.quiet_of_same (HCN1.out _) | with_reducible exact Calls.quiet_of_same (HCN2.out _)))
          go_wp2_with fail
          go_ret
          exact ⟨rfl, t_at (HS.out.drewN _)⟩
end Go.Proofs.YtpahbofccloeaaaDoor
