/- The walk of IndexBack. -/
import Derived.Test.YtpahbofccloeaaaDoorIndexSetsW
import Derived.Test.YtpahbofccloeaaaDoorIxP
namespace Go.Proofs.YtpahbofccloeaaaDoor
open Go.RowKit
set_option linter.unusedVariables false
set_option linter.unusedSimpArgs false

theorem rnk_step (L : List Bool) (k : Nat) (h : k < L.length) : rnk L ((k : Int) + 1) = rnk L (k : Int) + (L.getD k false).toNat := by
  unfold rnk
  rw [show ((k : Int) + 1).toNat = k + 1 by omega, show ((k : Int)).toNat = k from rfl, List.take_add_one, List.getElem?_eq_getElem h, cnt_app]
  simp [cnt, h]
theorem sel_rank : (L : List Bool) → (k : Nat) → k < L.length → L.getD k false = true → sel L (cnt (L.take k)) = k ∧ cnt (L.take k) < cnt L
  | [], k, h, _ => by simp at h
  | true :: r, 0, _, _ => ⟨rfl, by simp [cnt]; omega⟩
  | false :: r, 0, _, h => by simp at h
  | true :: r, k + 1, h, hk => by
    obtain ⟨h1, h2⟩ := sel_rank r k (by simpa using h) (by simpa using hk)
    have e : cnt ((true :: r).take (k + 1)) = cnt (r.take k) + 1 := by rw [List.take_succ_cons, cnt]; simp; omega
    rw [e, sel, h1, cnt]
    exact ⟨rfl, by simp; omega⟩
  | false :: r, k + 1, h, hk => by
    obtain ⟨h1, h2⟩ := sel_rank r k (by simpa using h) (by simpa using hk)
    have e : cnt ((false :: r).take (k + 1)) = cnt (r.take k) := by rw [List.take_succ_cons, cnt]; simp
    rw [e, sel, h1, cnt]
    exact ⟨rfl, by simp; omega⟩
theorem sel_back (L : List Bool) (k : Nat) (h : k < L.length) (hk : L.getD k false = true) : selI L (rnk L (k : Int) : Int) = (k : Int) ∧ selB L (rnk L (k : Int) : Int) = true := by
  obtain ⟨h1, h2⟩ := sel_rank L k h hk
  have e : rnk L (k : Int) = cnt (L.take k) := rfl
  rw [e]
  unfold selI selB
  rw [if_pos (by omega), decide_eq_true (by omega), decide_eq_true (by omega), show ((cnt (L.take k) : Nat) : Int).toNat = cnt (L.take k) from rfl, h1]
  exact ⟨rfl, rfl⟩
theorem rnk_all (L : List Bool) (a : Int) (h : (L.length : Int) ≤ a) : rnk L a = cnt L := by
  unfold rnk
  rw [List.take_of_length_le (by omega)]
theorem mod_mask1 (x : Int) (i : Nat) : ∃ A : Nat, (bits .and .i64 x 65535).tmod ((i : Int) + 1) = (A : Int) ∧ A ≤ i := by
  obtain ⟨A, h1, h2⟩ := mod_mask x (i + 1) (by omega)
  rw [Int.natCast_add] at h1
  exact ⟨A, h1, by omega⟩
set_option maxRecDepth 100000 in
set_option maxHeartbeats 8000000 in
theorem indexBack_walk (ps : List (Int × Bool × Bool)) (a : Option Addr) (len cap : Nat) (w : World) (hrd : RdP w a len ps) (hT : TabD w) :
    Calls Tryd.prog 4 #[.slice a len cap] w fun e w' => e = .returned (.bool true) ∧ Below w.heap.size w w' := by
  have HSH : Hid (Calls Tryd.prog 8 #[] w fun e w' => e = .returned (.bool true) ∧ Below w.heap.size w w') := shown13_any w hT
  have HN : Hid (∀ w1, Below w.heap.size w w1 → Calls Tryd.prog 9 #[] w1 fun e w' => ∃ P, e = .returned (.pointer (some ⟨P, 0, none⟩)) ∧ IxS w w' P []) := fun w1 h => s_new h
  have HT : Hid (TabD w) := hT
  have HD : Hid (RdP w a len ps) := hrd
  clear hT hrd
  go_enter Tryd.func4, Tryd.ntmps4
  go_upto_region 5 with (first | (go_at_call 8; refine HSH.out.mono ?_; rintro e w1 ⟨rfl, hb1⟩; have HB1 : Hid (Below w.heap.size w w1) := hb1; clear hb1) | (go_at_call 9; refine (HN.out _ HB1.out).mono ?_; rintro e w2 ⟨P, rfl, hs⟩; have HS2 : Hid (IxS w w2 P []) := hs; clear hs))
  clear HSH HN HB1
  go_wp2_with fail
  go_loopw [5] (fun x5 wr => ∃ (i : Nat) (L : List Bool), x5 = .int .i64 (i : Int) ∧ i ≤ 500 ∧ L.length = i ∧ IxS w wr P L) (fun x5 _ => 500 - (intOf x5).toNat)
  case atStart => exact ⟨0, [], rfl, by omega, rfl, HS2.out⟩
  case round =>
    obtain ⟨i, L, hx, hi5, hLi, hs⟩ := hrel
    subst hx
    have HS : Hid (IxS w wr P L) := hs
    have HLI : Hid (L.length = i ∧ i ≤ 500) := ⟨hLi, hi5⟩
    clear hs HS2 hLi hi5
    by_cases hlt : i < len ∧ i < 500
    · have hd1 : decide ((i : Int) < (len : Int)) = true := by apply decide_eq_true; omega
      have hd2 : decide ((i : Int) < 500) = true := by apply decide_eq_true; omega
      have hd3 : decide (i < len) = true := by apply decide_eq_true; omega
      obtain ⟨gb, off, rfl, hc0, hc1, _⟩ := (HD.out.later HS.out.below).at i hlt.1
      generalize (ps.getD i (0, false, false)).1 = x at hc0
      generalize (ps.getD i (0, false, false)).2.1 = z at hc1
      obtain ⟨A, hA, hAi⟩ := mod_mask1 x i
      have HI : Hid (∀ q, Calls Tryd.prog 12 #[.pointer (some ⟨P, 0, none⟩), .int .i64 (A : Int), .bool z] (wr.drewN q) fun e w' => e = .returned (.bool true) ∧ IxS w w' P (ins L A z)) := fun q => by
        have := HLI.out
        exact s_ins (HS.out.drewN q) A z (by omega) (by omega)
      have HLX : Hid ((ins L A z).length = i + 1) := by
        have := HLI.out
        show _ = _
        rw [ins_len L A z (by omega)]; omega
      have hi0 : (0 : Int) ≤ (i : Int) := by omega
      have hi1 : (i : Int) < (len : Int) := by omega
      have hi2 : (i : Int) + 1 ≤ 501 := by omega
      have hne : ¬ ((i : Int) + 1 = 0) := by omega
      have hne2 : ((i : Int) + 1 == 0) = false := by rw [beq_eq_false_iff_ne]; omega
      have hwi : IntKind.i64.wrap ((i : Int) + 1) = (i : Int) + 1 := by rw [IntKind.wrap_i64]; omega
      have HX : Hid (i + 1 ≤ 500) := hlt.2
      clear hlt hAi HS HLI HD
      go_upto_region 8 with fail
      go_region_with (first | (go_at_call 12; refine (HI.out 1).mono ?_; rintro e w3 ⟨rfl, hs⟩; have HS3 : Hid (IxS w w3 P (ins L A z)) := hs; clear hs))
      all_goals
        go_wp2_with fail
        go_roundw
        case rel => exact ⟨i + 1, ins L A z, by rw [Int.natCast_add]; rfl, HX.out, HLX.out, HS3.out⟩
        case measure => have := HX.out; simp [intOf]; omega
    · have hcase : (decide ((i : Int) < (len : Int)) = true ∧ decide (i < len) = true ∧ decide ((i : Int) < 500) = false ∧ decide (i < 500) = false) ∨ (decide ((i : Int) < (len : Int)) = false ∧ decide (i < len) = false) := by
        by_cases h1 : i < len
        · exact .inl ⟨by apply decide_eq_true; omega, by apply decide_eq_true; omega, by apply decide_eq_false; omega, by apply decide_eq_false; omega⟩
        · exact .inr ⟨by apply decide_eq_false; omega, by apply decide_eq_false; omega⟩
      clear hlt HD
      have HR : Hid (∀ (t : Int) W, t ≤ 1000 → IxS w W P L → Calls Tryd.prog 16 #[.pointer (some ⟨P, 0, none⟩), .int .i64 t] W fun e w' => e = .returned (.int .i64 (rnk L t : Int)) ∧ IxS w w' P L) := fun t W ht h => (s_rank h t (by have := HLI.out; omega) (by omega)).mono fun e w' ⟨q1, q, q2⟩ => ⟨q1, q2 ▸ h.drewN q⟩
      have HL : Hid (∀ W, IxS w W P L → Calls Tryd.prog 19 #[.pointer (some ⟨P, 0, none⟩)] W fun e w' => e = .returned (.int .i64 (i : Int)) ∧ w' = W) := fun W h => by
        have := s_len h
        rw [HLI.out.1] at this
        exact this
      have HC : Hid (∀ W, IxS w W P L → Calls Tryd.prog 20 #[.pointer (some ⟨P, 0, none⟩)] W fun e w' => e = .returned (.int .i64 (cnt L : Int)) ∧ w' = W) := fun W h => s_count h
      have HSE : Hid (∀ (k : Nat), k < i → ∀ W, IxS w W P L → Calls Tryd.prog 18 #[.pointer (some ⟨P, 0, none⟩), .int .i64 (k : Int)] W fun e w' => e = .returned (.bool (L.getD k false)) ∧ w' = W) := fun k hk W h => by
        have := s_seen h (k : Int) (by have := HLI.out; omega)
        have e : seenB L (k : Int) = L.getD k false := by unfold seenB; rw [decide_eq_true (by omega), Bool.true_and]; rfl
        rw [e] at this
        exact this
      have HSL : Hid (∀ (t : Int) W, t ≤ 1000 → IxS w W P L → Calls Tryd.prog 14 #[.pointer (some ⟨P, 0, none⟩), .int .i64 t] W fun e w' => e = .returned (.tuple #[.int .i64 (selI L t), .bool (selB L t)]) ∧ w' = W) := fun t W ht h => s_select h HT.out t (by have := HLI.out; omega) (by omega)
      have HM : Hid (∀ k : Nat, rnk L (k : Int) ≤ 500) := fun k => by have := rnk_len L (k : Int); have := HLI.out; omega
      have HCL : Hid (cnt L ≤ 500) := by have := cnt_le L; have := HLI.out; show cnt L ≤ 500; omega
      rcases hcase with ⟨hd1, hd2, hd3, hd4⟩ | ⟨hd1, hd2⟩
      all_goals
        go_upto_region 11 with (first | (go_at_call 19; refine (HL.out _ HS.out).mono ?_; rintro e w' ⟨rfl, hw⟩; have hw := hw.symm; subst hw))
        go_wp2_with fail
        go_loopw [7] (fun x7 wr => ∃ k : Nat, x7 = .int .i64 (k : Int) ∧ k ≤ i ∧ IxS w wr P L) (fun x7 _ => i - (intOf x7).toNat)
        case atStart => exact ⟨0, rfl, by omega, HS.out⟩
        case round =>
          obtain ⟨k, hx, hki, hs⟩ := hrel
          subst hx
          have HS4 : Hid (IxS w wr P L) := hs
          clear hs HS
          by_cases hk : k < i
          · have hk1 : decide ((k : Int) < (i : Int)) = true := by apply decide_eq_true; omega
            have hk2 : decide (k < i) = true := by apply decide_eq_true; omega
            have hi5 := HLI.out
            have hR1 := HR.out (k : Int)
            have HR1 : Hid (∀ W, IxS w W P L → Calls Tryd.prog 16 #[.pointer (some ⟨P, 0, none⟩), .int .i64 (k : Int)] W fun e w' => e = .returned (.int .i64 (rnk L (k : Int) : Int)) ∧ IxS w w' P L) := fun W h => HR.out (k : Int) W (by omega) h
            have HR2 : Hid (∀ W, IxS w W P L → Calls Tryd.prog 16 #[.pointer (some ⟨P, 0, none⟩), .int .i64 ((k : Int) + 1)] W fun e w' => e = .returned (.int .i64 (rnk L ((k : Int) + 1) : Int)) ∧ IxS w w' P L) := fun W h => HR.out ((k : Int) + 1) W (by omega) h
            have hst := rnk_step L k (by omega)
            have HE : Hid (∀ W, IxS w W P L → Calls Tryd.prog 18 #[.pointer (some ⟨P, 0, none⟩), .int .i64 (k : Int)] W fun e w' => e = .returned (.bool (L.getD k false)) ∧ w' = W) := HSE.out k hk
            have HX : Hid (k + 1 ≤ i) := hk
            have hk0 : (0 : Int) ≤ (k : Int) := by omega
            have hk5 : (k : Int) + 1 ≤ 501 := by omega
            have hm := HM.out k
            cases hz : L.getD k false
            · rw [hz] at hst HE
              have hr2 : rnk L ((k : Int) + 1) = rnk L (k : Int) := by simpa using hst
              rw [hr2] at HR2
              clear hst hr2 hi5 hR1 hk hki hz HSE HSL HM HR HC HL HCL
              generalize rnk L (k : Int) = r at HR1 HR2 hm
              have hne : ((r : Int) != (r : Int)) = false := by simp
              clear hm
              go_wp2_with (first | (go_at_call 16; refine (HR1.out _ HS4.out).mono ?_; rintro e w5 ⟨rfl, hs⟩; have HS5 : Hid (IxS w w5 P L) := hs; clear hs HS4) | (go_at_call 18; refine (HE.out _ HS5.out).mono ?_; rintro e w' ⟨rfl, hw⟩; have hw := hw.symm; subst hw) | (go_at_call 16; refine (HR2.out _ HS5.out).mono ?_; rintro e w6 ⟨rfl, hs⟩; have HS6 : Hid (IxS w w6 P L) := hs; clear hs))
              go_roundw
              case rel => exact ⟨k + 1, by rw [Int.natCast_add]; rfl, HX.out, HS6.out⟩
              case measure => have := HX.out; simp [intOf]; omega
            · obtain ⟨b1, b2⟩ := sel_back L k (by omega) hz
              rw [hz] at hst HE
              have hr2 : rnk L ((k : Int) + 1) = rnk L (k : Int) + 1 := by simpa using hst
              have HQ : Hid (∀ W, IxS w W P L → Calls Tryd.prog 14 #[.pointer (some ⟨P, 0, none⟩), .int .i64 (rnk L (k : Int) : Int)] W fun e w' => e = .returned (.tuple #[.int .i64 (k : Int), .bool true]) ∧ w' = W) := fun W h => by
                have := HSL.out (rnk L (k : Int) : Int) W (by omega) h
                rw [b1, b2] at this
                exact this
              rw [hr2, Int.natCast_add] at HR2
              clear hst hr2 hi5 hR1 hk hki hz HSE HSL HM HR HC HL HCL b1 b2
              generalize rnk L (k : Int) = r at HR1 HR2 hm HQ
              have hne : ((k : Int) != (k : Int)) = false := by simp
              have hne2 : ((r : Int) + 1 != (r : Int) + 1) = false := by simp
              have hr5 : (r : Int) + 1 ≤ 501 := by omega
              have hr0 : (0 : Int) ≤ (r : Int) := by omega
              clear hm
              go_wp2_with (first | (go_at_call 16; refine (HR1.out _ HS4.out).mono ?_; rintro e w5 ⟨rfl, hs⟩; have HS5 : Hid (IxS w w5 P L) := hs; clear hs HS4) | (go_at_call 18; refine (HE.out _ HS5.out).mono ?_; rintro e w' ⟨rfl, hw⟩; have hw := hw.symm; subst hw) | (go_at_call 14; refine (HQ.out _ HS5.out).mono ?_; rintro e w' ⟨rfl, hw⟩; have hw := hw.symm; subst hw) | (go_at_call 16; refine (HR2.out _ HS5.out).mono ?_; rintro e w6 ⟨rfl, hs⟩; have HS6 : Hid (IxS w w6 P L) := hs; clear hs))
              go_roundw
              case rel => exact ⟨k + 1, by rw [Int.natCast_add]; rfl, HX.out, HS6.out⟩
              case measure => have := HX.out; simp [intOf]; omega
          · have hk1 : decide ((k : Int) < (i : Int)) = false := by apply decide_eq_false; omega
            have hk2 : decide (k < i) = false := by apply decide_eq_false; omega
            have hi5 := HLI.out
            have hcl := HCL.out
            have HSO : Hid (Calls Tryd.prog 14 #[.pointer (some ⟨P, 0, none⟩), .int .i64 (cnt L : Int)] wr fun e w' => e = .returned (.tuple #[.int .i64 (selI L (cnt L : Int)), .bool false]) ∧ w' = wr) := by
              have := HSL.out (cnt L : Int) wr (by omega) HS4.out
              have e : selB L (cnt L : Int) = false := by unfold selB; rw [decide_eq_false (p := (cnt L : Int) < _) (by omega), Bool.and_false]
              rw [e] at this
              exact this
            have HCQ : Hid (∀ q, Calls Tryd.prog 20 #[.pointer (some ⟨P, 0, none⟩)] (wr.drewN q) fun e w' => e = .returned (.int .i64 (cnt L : Int)) ∧ w' = wr.drewN q) := fun q => HC.out _ (HS4.out.drewN q)
            have HRA : Hid (∀ q, Calls Tryd.prog 16 #[.pointer (some ⟨P, 0, none⟩), .int .i64 (i : Int)] (wr.drewN q) fun e w' => e = .returned (.int .i64 (cnt L : Int)) ∧ ∃ m, w' = (wr.drewN q).drewN m) := fun q => by
              have := s_rank (HS4.out.drewN q) (i : Int) (by omega) (by omega)
              rw [rnk_all L _ (by omega)] at this
              exact this
            have HRB : Hid (∀ q, Calls Tryd.prog 16 #[.pointer (some ⟨P, 0, none⟩), .int .i64 ((i : Int) + 9)] (wr.drewN q) fun e w' => e = .returned (.int .i64 (cnt L : Int)) ∧ ∃ m, w' = (wr.drewN q).drewN m) := fun q => by
              have := s_rank (HS4.out.drewN q) ((i : Int) + 9) (by omega) (by omega)
              rw [rnk_all L _ (by omega)] at this
              exact this
            have HRC : Hid (∀ q, Calls Tryd.prog 16 #[.pointer (some ⟨P, 0, none⟩), .int .i64 (-5)] (wr.drewN q) fun e w' => e = .returned (.int .i64 0) ∧ ∃ m, w' = (wr.drewN q).drewN m) := fun q => by
              have := s_rank (HS4.out.drewN q) (-5) (by omega) (by omega)
              rw [rnk_neg L _ (by omega)] at this
              exact this
            have hi9 : (i : Int) ≤ 500 := by omega
            have hi0 : (0 : Int) ≤ (i : Int) := by omega
            have hw9 : IntKind.i64.wrap ((i : Int) + 9) = (i : Int) + 9 := by rw [IntKind.wrap_i64]; omega
            clear hk hki hi5 hcl HSL HR HL HSE HM HCL
            generalize selI L (cnt L : Int) = sp at HSO
            generalize (cnt L : Int) = xc at HSO HCQ HRA HRB
            have e1 : (xc == xc) = true := by simp
            go_upto_region 22 with (first | (go_at_call 20; refine (HCQ.out 0).mono ?_; rintro e w' ⟨rfl, hw⟩; have hw := hw.symm; subst hw) | (go_at_call 14; refine HSO.out.mono ?_; rintro e w' ⟨rfl, hw⟩; have hw := hw.symm; subst hw))
            go_quiet (first | (go_at_call 20; with_reducible exact Calls.quiet_of_same (HCQ.out _)) | (go_at_call 16; first | with_reducible exact Calls.quiet_of (HRA.out _) | with_reducible exact Calls.quiet_of (HRB.out _) | with_reducible exact Calls.quiet_of (HRC.out _)))
            go_wp2_with fail
            go_ret
            exact ⟨rfl, (HS4.out.drewN _).below⟩
end Go.Proofs.YtpahbofccloeaaaDoor
