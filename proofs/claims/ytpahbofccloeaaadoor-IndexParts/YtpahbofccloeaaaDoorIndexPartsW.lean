/- The walk of IndexParts. -/
import Derived.Test.YtpahbofccloeaaaDoorIndexOrderW
namespace Go.Proofs.YtpahbofccloeaaaDoor
open Go.RowKit
set_option linter.unusedVariables false
set_option linter.unusedSimpArgs false

theorem rnk_app (A B : List Bool) (n k : Nat) (h : A.length = n) : rnk (A ++ B) ((n : Int) + (k : Int)) = cnt A + rnk B (k : Int) := by
  unfold rnk
  rw [show ((n : Int) + (k : Int)).toNat = n + k by omega, show ((k : Int)).toNat = k from rfl, List.take_append, List.take_of_length_le (by omega), h, Nat.add_sub_cancel_left, cnt_app]
theorem rnk_first (A B : List Bool) (n : Nat) (h : A.length = n) : rnk (A ++ B) (n : Int) = cnt A := by
  have := rnk_app A B n 0 h
  rw [rnk_neg B _ (by omega)] at this
  simpa using this
theorem sel_parts (A B : List Bool) (n k : Nat) (h : A.length = n) (hk : k < cnt B) : selI (A ++ B) ((cnt A : Int) + (k : Int)) = (n : Int) + selI B (k : Int) ∧ selB (A ++ B) ((cnt A : Int) + (k : Int)) = true ∧ selB B (k : Int) = true ∧ 0 ≤ selI B (k : Int) ∧ selI B (k : Int) ≤ B.length := by
  have h1 := (sel_app A B (cnt A + k)).2 (by omega) (by omega)
  have h2 := sel_lt B k hk
  have e : cnt (A ++ B) = cnt A + cnt B := cnt_app A B
  rw [Nat.add_sub_cancel_left, h] at h1
  unfold selI selB
  rw [if_pos (by rw [e]; omega), if_pos (by omega), show ((cnt A : Int) + (k : Int)).toNat = cnt A + k by omega, h1, show ((k : Int)).toNat = k from rfl]
  refine ⟨by omega, ?_, ?_, by omega, by omega⟩
  · rw [decide_eq_true (by omega), decide_eq_true (by rw [e]; omega)]; rfl
  · rw [decide_eq_true (by omega), decide_eq_true (by omega)]; rfl
theorem drop_one (cs : List Bool) (n j : Nat) (hj : 0 < j) (hn : j ≤ n) (hl : n ≤ cs.length) : cs.getD (j - 1) false :: (cs.take n).drop j = (cs.take n).drop (j - 1) := by
  have h1 : j - 1 < (cs.take n).length := by rw [List.length_take]; omega
  rw [List.drop_eq_getElem_cons h1, show j - 1 + 1 = j by omega]
  congr 1
  rw [List.getElem_take]
  simp [show j - 1 < cs.length by omega]
set_option maxRecDepth 100000 in
set_option maxHeartbeats 8000000 in
theorem indexParts_walk (cs bs : List Bool) (a1 : Option Addr) (len1 cap1 : Nat) (a2 : Option Addr) (len2 cap2 : Nat) (w : World) (hrd1 : RdT w a1 len1 cs) (hrd2 : RdT w a2 len2 bs) (hT : TabD w) :
    Calls Tryd.prog 7 #[.slice a1 len1 cap1, .slice a2 len2 cap2] w fun e w' => e = .returned (.bool true) ∧ Below w.heap.size w w' := by
  have HSH : Hid (Calls Tryd.prog 8 #[] w fun e w' => e = .returned (.bool true) ∧ Below w.heap.size w w') := shown13_any w hT
  have HN : Hid (∀ w1, Below w.heap.size w w1 → Calls Tryd.prog 9 #[] w1 fun e w' => ∃ P, e = .returned (.pointer (some ⟨P, 0, none⟩)) ∧ IxS w w' P []) := fun w1 h => s_new h
  have HN2 : Hid (∀ w1 P, IxS w w1 P [] → Calls Tryd.prog 9 #[] w1 fun e w' => ∃ Q, e = .returned (.pointer (some ⟨Q, 0, none⟩)) ∧ IxT w w' P Q [] []) := fun w1 P h => t_new h
  have HT : Hid (TabD w) := hT
  have HD1 : Hid (RdT w a1 len1 cs) := hrd1
  have HD2 : Hid (RdT w a2 len2 bs) := hrd2
  obtain ⟨n, hn⟩ : ∃ n, n = Nat.min len1 200 := ⟨_, rfl⟩
  obtain ⟨m, hm⟩ : ∃ m, m = Nat.min len2 200 := ⟨_, rfl⟩
  have hnl : n ≤ len1 := by rw [hn]; exact Nat.min_le_left _ _
  have hn3 : n ≤ 200 := by rw [hn]; exact Nat.min_le_right _ _
  have hml : m ≤ len2 := by rw [hm]; exact Nat.min_le_left _ _
  have hm3 : m ≤ 200 := by rw [hm]; exact Nat.min_le_right _ _
  have hmin1 : ∀ W : World, (Builtin.min_ #[3, 3] 3 #[.int .i64 len1, .int .i64 200]).run Tryd.prog W = .ok (.int .i64 n) W := min_run len1 n 200 (by rw [hn]; simp [Nat.min_def]; split <;> omega)
  have hmin2 : ∀ W : World, (Builtin.min_ #[3, 3] 3 #[.int .i64 len2, .int .i64 200]).run Tryd.prog W = .ok (.int .i64 m) W := min_run len2 m 200 (by rw [hm]; simp [Nat.min_def]; split <;> omega)
  have HNL : Hid (n ≤ len1 ∧ n ≤ 200 ∧ cs.length = len1 ∧ m ≤ len2 ∧ m ≤ 200 ∧ bs.length = len2) := ⟨hnl, hn3, hrd1.1, hml, hm3, hrd2.1⟩
  clear hT hrd1 hrd2 hn hm hnl hn3 hml hm3
  go_enter Tryd.func7, Tryd.ntmps7
  go_upto_region 8 with (first | (go_at_call 8; refine HSH.out.mono ?_; rintro e w1 ⟨rfl, hb1⟩; have HB1 : Hid (Below w.heap.size w w1) := hb1; clear hb1) | (go_at_call 9; refine (HN.out _ HB1.out).mono ?_; rintro e w2 ⟨P, rfl, hs⟩; have HS2 : Hid (IxS w w2 P []) := hs; clear hs HB1) | (go_at_call 9; refine (HN2.out _ _ HS2.out).mono ?_; rintro e w3 ⟨Q, rfl, hs⟩; have HS3 : Hid (IxT w w3 P Q [] []) := hs; clear hs))
  clear hmin1 hmin2 HSH HN HN2
  go_wp2_with fail
  go_loopw [10] (fun x10 wr => ∃ i : Nat, x10 = .int .i64 (i : Int) ∧ i ≤ m ∧ IxT w wr P Q (bs.take i) (bs.take i)) (fun x10 _ => m - (intOf x10).toNat)
  case atStart => exact ⟨0, rfl, by omega, HS3.out⟩
  case round =>
    obtain ⟨i, hx, hik, hs⟩ := hrel
    subst hx
    have HS : Hid (IxT w wr P Q (bs.take i) (bs.take i)) := hs
    clear hs
    have hnl := HNL.out
    by_cases hlt : i < m
    · have hlt' : decide ((i : Int) < (m : Int)) = true := by simpa using hlt
      have hib : i < bs.length := by omega
      obtain ⟨gb, off, rfl, hc⟩ := (HD2.out.later (t_at HS.out)).at i (by omega)
      have HC2 : Hid (∀ W, Below w.heap.size w W → W.cell? ⟨gb, off + i, none⟩ = some (.bool (bs.getD i false))) := fun W hW => by
        obtain ⟨gb', off', he, hc⟩ := (HD2.out.later hW).at i (by omega)
        cases he
        exact hc
      have HI : Hid (Calls Tryd.prog 12 #[.pointer (some ⟨P, 0, none⟩), .int .i64 (i : Int), .bool (bs.getD i false)] wr fun e w' => e = .returned (.bool true) ∧ IxT w w' P Q (bs.take (i + 1)) (bs.take i)) := by
        have := t_ins HS.out i (bs.getD i false) (by rw [List.length_take]; omega) (by rw [List.length_take]; omega)
        rw [ins_end bs i hib] at this
        exact this
      have HI2 : Hid (∀ W, IxT w W P Q (bs.take (i + 1)) (bs.take i) → Calls Tryd.prog 12 #[.pointer (some ⟨Q, 0, none⟩), .int .i64 (i : Int), .bool (bs.getD i false)] W fun e w' => e = .returned (.bool true) ∧ IxT w w' P Q (bs.take (i + 1)) (bs.take (i + 1))) := by
        intro W hW
        refine (t_ins hW.swap i (bs.getD i false) (by rw [List.length_take]; omega) (by rw [List.length_take]; omega)).mono ?_
        rintro e w' ⟨rfl, h⟩
        rw [ins_end bs i hib] at h
        exact ⟨rfl, h.swap⟩
      have hi0 : (0 : Int) ≤ (i : Int) := by omega
      have hi1 : (i : Int) < (len2 : Int) := by omega
      have hi2 : (i : Int) + 1 ≤ 301 := by omega
      have HX : Hid (i + 1 ≤ m) := hlt
      clear hlt hik hib HS hnl HS2 HS3
      generalize bs.getD i false = z at hc HI HC2 HI2
      go_upto_region 12 with (first | (go_at_call 12; refine HI.out.mono ?_; rintro e w4 ⟨rfl, hs⟩; have HS4 : Hid (IxT w w4 P Q (bs.take (i + 1)) (bs.take i)) := hs; clear hs))
      have c4 := HC2.out w4 (t_at HS4.out)
      go_wp2_with (first | (go_at_call 12; refine (HI2.out _ HS4.out).mono ?_; rintro e w5 ⟨rfl, hs⟩; have HS5 : Hid (IxT w w5 P Q (bs.take (i + 1)) (bs.take (i + 1))) := hs; clear hs))
      go_roundw
      case rel => exact ⟨i + 1, by rw [Int.natCast_add]; rfl, HX.out, HS5.out⟩
      case measure => have := HX.out; simp [intOf]; omega
    · have hlt' : decide ((i : Int) < (m : Int)) = false := by simpa using hlt
      obtain rfl : i = m := by omega
      obtain ⟨B, hB⟩ : ∃ B, B = bs.take i := ⟨_, rfl⟩
      rw [← hB] at HS
      have HBL : Hid (B.length = i) := by show B.length = i; rw [hB, List.length_take]; omega
      have hn1 : IntKind.i64.wrap ((n : Int) - 1) = (n : Int) - 1 := by rw [IntKind.wrap_i64]; omega
      have hn2 : (n : Int) ≤ 200 := by omega
      have hn0 : (0 : Int) ≤ (n : Int) := by omega
      clear hlt hik HS2 HS3 hnl hB HD2
      go_upto_region 14 with fail
      go_wp2_with fail
      go_loopw [11] (fun x11 wr => ∃ j : Nat, x11 = .int .i64 ((j : Int) - 1) ∧ j ≤ n ∧ IxT w wr P Q ((cs.take n).drop j ++ B) B) (fun x11 _ => (intOf x11 + 1).toNat)
      case atStart => exact ⟨n, rfl, by omega, by
        have h : (cs.take n).drop n = [] := by apply List.drop_of_length_le; rw [List.length_take]; omega
        rw [h]; exact HS.out⟩
      case round =>
        obtain ⟨j, hx, hjn, hs⟩ := hrel
        subst hx
        have HS1 : Hid (IxT w wr P Q ((cs.take n).drop j ++ B) B) := hs
        clear hs HS
        have hnl := HNL.out
        by_cases hj : 0 < j
        · have hge : decide (0 ≤ (j : Int) - 1) = true := by apply decide_eq_true; omega
          obtain ⟨k, hk⟩ : ∃ k, k = j - 1 := ⟨_, rfl⟩
          have hjk : (j : Int) - 1 = (k : Int) := by omega
          obtain ⟨gb, off, rfl, hc⟩ := (HD1.out.later (t_at HS1.out)).at k (by omega)
          have HI : Hid (Calls Tryd.prog 12 #[.pointer (some ⟨P, 0, none⟩), .int .i64 0, .bool (cs.getD k false)] wr fun e w' => e = .returned (.bool true) ∧ IxT w w' P Q ((cs.take n).drop k ++ B) B) := by
            have := t_ins HS1.out 0 (cs.getD k false) (by omega) (by have := HBL.out; rw [List.length_append, List.length_drop, List.length_take]; omega)
            rw [ins_head, ← List.cons_append, hk, drop_one cs n j hj hjn (by omega)] at this
            rw [hk]
            exact this
          have hk0 : (0 : Int) ≤ (k : Int) := by omega
          have hk1 : (k : Int) < (len1 : Int) := by omega
          have hk2 : IntKind.i64.wrap ((k : Int) - 1) = (k : Int) - 1 := by rw [IntKind.wrap_i64]; omega
          have hk3 : wrap64 ((k : Int) - 1) = (k : Int) - 1 := by unfold wrap64; omega
          have HX : Hid (k + 1 ≤ n) := by show k + 1 ≤ n; omega
          rw [hjk] at hge ⊢
          clear hjk hj hjn hk hnl HS1
          generalize cs.getD k false = z at hc HI
          go_wp2_with (first | (go_at_call 12; refine HI.out.mono ?_; rintro e w5 ⟨rfl, hs⟩; have HS5 : Hid (IxT w w5 P Q ((cs.take n).drop k ++ B) B) := hs; clear hs))
          go_roundw
          case rel => exact ⟨k, rfl, by have := HX.out; omega, HS5.out⟩
          case measure => simp [intOf] <;> omega
        · obtain rfl : j = 0 := by omega
          have hge : decide (0 ≤ ((0 : Nat) : Int) - 1) = false := by decide
          obtain ⟨A, hA⟩ : ∃ A, A = cs.take n := ⟨_, rfl⟩
          rw [List.drop_zero, ← hA] at HS1
          have hAL : A.length = n := by rw [hA, List.length_take]; omega
          have hBL := HBL.out
          have hca := cnt_le A
          have hcb := cnt_le B
          have HLL : Hid (A.length = n ∧ B.length = i ∧ n ≤ 200 ∧ i ≤ 200) := ⟨hAL, hBL, by omega, by omega⟩
          have hLn : (A ++ B).length = n + i := by rw [List.length_append]; omega
          have HRF : Hid (Calls Tryd.prog 16 #[.pointer (some ⟨P, 0, none⟩), .int .i64 (n : Int)] wr fun e w' => e = .returned (.int .i64 (cnt A : Int)) ∧ IxT w w' P Q (A ++ B) B) := by
            refine (s_rank HS1.out.one (n : Int) (by omega) (by omega)).mono ?_
            rintro e w' ⟨rfl, q, rfl⟩
            exact ⟨by rw [rnk_first A B n hAL], HS1.out.drewN q⟩
          have HR1 : Hid (∀ k, k ≤ i → ∀ W, IxT w W P Q (A ++ B) B → Calls Tryd.prog 16 #[.pointer (some ⟨P, 0, none⟩), .int .i64 ((n : Int) + (k : Int))] W fun e w' => e = .returned (.int .i64 ((cnt A : Int) + (rnk B (k : Int) : Int))) ∧ IxT w w' P Q (A ++ B) B) := by
            intro k hk W hW
            refine (s_rank hW.one ((n : Int) + (k : Int)) (by omega) (by omega)).mono ?_
            rintro e w' ⟨rfl, q, rfl⟩
            exact ⟨by rw [rnk_app A B n k hAL]; rfl, hW.drewN q⟩
          have HR2 : Hid (∀ k, k ≤ i → ∀ W, IxT w W P Q (A ++ B) B → Calls Tryd.prog 16 #[.pointer (some ⟨Q, 0, none⟩), .int .i64 (k : Int)] W fun e w' => e = .returned (.int .i64 (rnk B (k : Int) : Int)) ∧ IxT w w' P Q (A ++ B) B) := by
            intro k hk W hW
            refine (s_rank hW.two (k : Int) (by omega) (by omega)).mono ?_
            rintro e w' ⟨rfl, q, rfl⟩
            exact ⟨rfl, hW.drewN q⟩
          have HCB : Hid (∀ W, IxT w W P Q (A ++ B) B → Calls Tryd.prog 20 #[.pointer (some ⟨Q, 0, none⟩)] W fun e w' => e = .returned (.int .i64 (cnt B : Int)) ∧ w' = W) := fun W hW => s_count hW.two
          have HSL1 : Hid (∀ k, k < cnt B → ∀ W, IxT w W P Q (A ++ B) B → Calls Tryd.prog 14 #[.pointer (some ⟨P, 0, none⟩), .int .i64 ((cnt A : Int) + (k : Int))] W fun e w' => e = .returned (.tuple #[.int .i64 ((n : Int) + selI B (k : Int)), .bool true]) ∧ w' = W) := by
            intro k hk W hW
            have h := s_select hW.one HT.out ((cnt A : Int) + (k : Int)) (by omega) (by omega)
            obtain ⟨p1, p2, p3, p4, p5⟩ := sel_parts A B n k hAL hk
            rw [p1, p2] at h
            exact h
          have HSL2 : Hid (∀ k, k < cnt B → ∀ W, IxT w W P Q (A ++ B) B → Calls Tryd.prog 14 #[.pointer (some ⟨Q, 0, none⟩), .int .i64 (k : Int)] W fun e w' => e = .returned (.tuple #[.int .i64 (selI B (k : Int)), .bool true]) ∧ w' = W) := by
            intro k hk W hW
            have h := s_select hW.two HT.out (k : Int) (by omega) (by omega)
            obtain ⟨p1, p2, p3, p4, p5⟩ := sel_parts A B n k hAL hk
            rw [p3] at h
            exact h
          have HSR : Hid (∀ k, k < cnt B → 0 ≤ selI B (k : Int) ∧ selI B (k : Int) ≤ 200) := by
            intro k hk
            obtain ⟨p1, p2, p3, p4, p5⟩ := sel_parts A B n k hAL hk
            exact ⟨p4, by omega⟩
          have HRR : Hid (∀ k : Nat, rnk B (k : Int) ≤ 200) := fun k => by have := rnk_len B (k : Int); omega
          have HLN : Hid (∀ W, IxT w W P Q (A ++ B) B → ∀ q, Calls Tryd.prog 19 #[.pointer (some ⟨P, 0, none⟩)] (W.drewN q) fun e w' => e = .returned (.int .i64 ((n : Int) + (i : Int))) ∧ w' = W.drewN q) := fun W hW q => by
            have := s_len (hW.drewN q).one
            rw [hLn, Int.natCast_add] at this
            exact this
          have HCC : Hid (∀ W, IxT w W P Q (A ++ B) B → ∀ q, Calls Tryd.prog 20 #[.pointer (some ⟨P, 0, none⟩)] (W.drewN q) fun e w' => e = .returned (.int .i64 ((cnt A : Int) + (cnt B : Int))) ∧ w' = W.drewN q) := fun W hW q => by
            have := s_count (hW.drewN q).one
            rw [cnt_app, Int.natCast_add] at this
            exact this
          have hcA : (cnt A : Int) ≤ 200 := by omega
          have hcA0 : (0 : Int) ≤ (cnt A : Int) := by omega
          have hcB : (cnt B : Int) ≤ 200 := by omega
          have hcB0 : (0 : Int) ≤ (cnt B : Int) := by omega
          have hi2 : (i : Int) ≤ 200 := by omega
          have hi00 : (0 : Int) ≤ (i : Int) := by omega
          clear hjn hnl HNL HD1 HBL hAL hBL hca hcb hLn hA hn1 HLL
          generalize hxa : cnt A = xa at *
          generalize hxb : cnt B = xb at *
          clear hxa hxb
          go_upto_region 18 with (first | (go_at_call 16; refine HRF.out.mono ?_; rintro e w5 ⟨rfl, hs⟩; have HS5 : Hid (IxT w w5 P Q (A ++ B) B) := hs; clear hs))
          clear HRF HS1
          go_wp2_with fail
          go_loopw [13] (fun x13 wr => ∃ k : Nat, x13 = .int .i64 (k : Int) ∧ k ≤ i + 1 ∧ IxT w wr P Q (A ++ B) B) (fun x13 _ => i + 1 - (intOf x13).toNat)
          case atStart => exact ⟨0, rfl, by omega, HS5.out⟩
          case round =>
            obtain ⟨k, hx, hki, hs⟩ := hrel
            subst hx
            have HS : Hid (IxT w wr P Q (A ++ B) B) := hs
            clear hs HS5
            by_cases hle : k ≤ i
            · have hle' : decide ((k : Int) ≤ (i : Int)) = true := by apply decide_eq_true; omega
              have hle2 : decide (k ≤ i) = true := by apply decide_eq_true; omega
              have hk2 : (k : Int) ≤ 200 := by omega
              have hk0 : (0 : Int) ≤ (k : Int) := by omega
              have HA1 := HR1.out k hle
              have HA2 := HR2.out k hle
              have HQ1 : Hid (∀ W, IxT w W P Q (A ++ B) B → Calls Tryd.prog 16 #[.pointer (some ⟨P, 0, none⟩), .int .i64 ((n : Int) + (k : Int))] W fun e w' => e = .returned (.int .i64 ((xa : Int) + (rnk B (k : Int) : Int))) ∧ IxT w w' P Q (A ++ B) B) := HA1
              have HQ2 : Hid (∀ W, IxT w W P Q (A ++ B) B → Calls Tryd.prog 16 #[.pointer (some ⟨Q, 0, none⟩), .int .i64 (k : Int)] W fun e w' => e = .returned (.int .i64 (rnk B (k : Int) : Int)) ∧ IxT w w' P Q (A ++ B) B) := HA2
              have hrr : (rnk B (k : Int) : Int) ≤ 200 := by have := HRR.out k; omega
              have hr0 : (0 : Int) ≤ (rnk B (k : Int) : Int) := by omega
              have HX : Hid (k + 1 ≤ i + 1) := by show _ ≤ _; omega
              clear HA1 HA2 hle hki HR1 HR2 HCB HSL1 HSL2 HSR HRR HLN HCC
              generalize (rnk B (k : Int) : Int) = r at HQ1 HQ2 hrr hr0
              have hne : ((xa : Int) + r != (xa : Int) + r) = false := by simp
              go_wp2_with (first | (go_at_call 16; refine (HQ1.out _ HS.out).mono ?_; rintro e w6 ⟨rfl, hs⟩; have HS6 : Hid (IxT w w6 P Q (A ++ B) B) := hs; clear hs HS) | (go_at_call 16; refine (HQ2.out _ HS6.out).mono ?_; rintro e w7 ⟨rfl, hs⟩; have HS7 : Hid (IxT w w7 P Q (A ++ B) B) := hs; clear hs))
              go_roundw
              case rel => exact ⟨k + 1, by rw [Int.natCast_add]; rfl, HX.out, HS7.out⟩
              case measure => have := HX.out; simp [intOf]; omega
            · have hle' : decide ((k : Int) ≤ (i : Int)) = false := by apply decide_eq_false; omega
              have hle2 : decide (k ≤ i) = false := by apply decide_eq_false; omega
              clear hle hki HR1 HR2 HRR
              go_upto_region 23 with fail
              go_wp2_with fail
              go_loopw [14] (fun x14 wr => ∃ k : Nat, x14 = .int .i64 (k : Int) ∧ k ≤ xb ∧ IxT w wr P Q (A ++ B) B) (fun x14 _ => xb - (intOf x14).toNat)
              case atStart => exact ⟨0, rfl, by omega, HS.out⟩
              case round =>
                obtain ⟨k, hx, hkb, hs⟩ := hrel
                subst hx
                have HS8 : Hid (IxT w wr P Q (A ++ B) B) := hs
                clear hs HS
                by_cases hlt : k < xb
                · have hlt2 : decide ((k : Int) < (xb : Int)) = true := by apply decide_eq_true; omega
                  have hlt3 : decide (k < xb) = true := by apply decide_eq_true; omega
                  have HQ1 : Hid (∀ W, IxT w W P Q (A ++ B) B → Calls Tryd.prog 14 #[.pointer (some ⟨P, 0, none⟩), .int .i64 ((xa : Int) + (k : Int))] W fun e w' => e = .returned (.tuple #[.int .i64 ((n : Int) + selI B (k : Int)), .bool true]) ∧ w' = W) := HSL1.out k hlt
                  have HQ2 : Hid (∀ W, IxT w W P Q (A ++ B) B → Calls Tryd.prog 14 #[.pointer (some ⟨Q, 0, none⟩), .int .i64 (k : Int)] W fun e w' => e = .returned (.tuple #[.int .i64 (selI B (k : Int)), .bool true]) ∧ w' = W) := HSL2.out k hlt
                  obtain ⟨hr0, hr1⟩ := HSR.out k hlt
                  have hk0 : (0 : Int) ≤ (k : Int) := by omega
                  have hk2 : (k : Int) ≤ 200 := by omega
                  have HX : Hid (k + 1 ≤ xb) := hlt
                  clear hlt hkb HSL1 HSL2 HSR HLN HCC
                  generalize selI B (k : Int) = r at HQ1 HQ2 hr0 hr1
                  have hne : ((n : Int) + r != (n : Int) + r) = false := by simp
                  go_wp2_with (first | (go_at_call 20; refine (HCB.out _ HS8.out).mono ?_; rintro e w' ⟨rfl, hw⟩; have hw := hw.symm; subst hw) | (go_at_call_of 14 (Value.pointer (some ⟨P, 0, none⟩)); refine (HQ1.out _ HS8.out).mono ?_; rintro e w' ⟨rfl, hw⟩; have hw := hw.symm; subst hw) | (go_at_call_of 14 (Value.pointer (some ⟨Q, 0, none⟩)); refine (HQ2.out _ HS8.out).mono ?_; rintro e w' ⟨rfl, hw⟩; have hw := hw.symm; subst hw))
                  go_roundw
                  case rel => exact ⟨k + 1, by rw [Int.natCast_add]; rfl, HX.out, HS8.out⟩
                  case measure => have := HX.out; simp [intOf]; omega
                · have hlt2 : decide ((k : Int) < (xb : Int)) = false := by apply decide_eq_false; omega
                  have hlt3 : decide (k < xb) = false := by apply decide_eq_false; omega
                  have HL1 : Hid (∀ q, Calls Tryd.prog 19 #[.pointer (some ⟨P, 0, none⟩)] (wr.drewN q) fun e w' => e = .returned (.int .i64 ((n : Int) + (i : Int))) ∧ w' = wr.drewN q) := HLN.out wr HS8.out
                  have HC1 : Hid (∀ q, Calls Tryd.prog 20 #[.pointer (some ⟨P, 0, none⟩)] (wr.drewN q) fun e w' => e = .returned (.int .i64 ((xa : Int) + (xb : Int))) ∧ w' = wr.drewN q) := HCC.out wr HS8.out
                  have HC2 : Hid (∀ q, Calls Tryd.prog 20 #[.pointer (some ⟨Q, 0, none⟩)] (wr.drewN q) fun e w' => e = .returned (.int .i64 (xb : Int)) ∧ w' = wr.drewN q) := fun q => HCB.out _ (HS8.out.drewN q)
                  have e1 : ((n : Int) + (i : Int) == (n : Int) + (i : Int)) = true := by simp
                  have e2 : ((xa : Int) + (xb : Int) == (xa : Int) + (xb : Int)) = true := by simp
                  clear hlt hkb HSL1 HSL2 HSR HLN HCC
                  go_upto_region 30 with (first | (go_at_call 20; refine (HCB.out _ HS8.out).mono ?_; rintro e w' ⟨rfl, hw⟩; have hw := hw.symm; subst hw))
                  go_quiet (first | (go_at_call 19; with_reducible exact Calls.quiet_of_same (HL1.out _)) | (go_at_call 20; first | with_reducible exact Calls.quiet_of_same (HC1.out _) | with_reducible exact Calls.quiet_of_same (HC2.out _)))
                  go_wp2_with fail
                  go_ret
                  exact ⟨rfl, t_at (HS8.out.drewN _)⟩
end Go.Proofs.YtpahbofccloeaaaDoor
