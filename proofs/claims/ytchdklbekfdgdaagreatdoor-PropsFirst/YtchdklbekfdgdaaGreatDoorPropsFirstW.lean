/- The walk of the statement PropsFirst: the first line in which something is wrong is told. -/
import Derived.Test.YtchdklbekfdgdaaGreatDoorPropsZ
namespace Go.Proofs.YtchdklbekfdgdaaGreatDoor
open Go.RowKit
set_option linter.unusedVariables false

theorem count_snoc (l : List Int) (c : Int) : (l ++ [c]).count 10 = l.count 10 + if c = 10 then 1 else 0 := by
  rw [List.count_append]
  congr 1
  by_cases h : c = 10
  · subst h; rfl
  · simp [h]
/-- What comes behind a text that is read. -/
theorem first_mark (s t : List Int) (out : List Rg) (h : parseT s = .inl out) :
    (s = [] → parseT ([] ++ [63] ++ t) = .inr (1, 2)) ∧ (∀ m, s = m ++ [10] → parseT (s ++ [63] ++ t) = .inr (s.count 10 + 1, 2)) ∧ (parseT (s ++ [10] ++ [63] ++ t) = .inr (s.count 10 + 2, 2)) := by
  refine ⟨fun _ => ?_, fun m hm => ?_, ?_⟩
  · have := parseL_mark [] 0 t
    unfold parseT linesOf
    simpa using this
  · have := parseT_mark m t out (by rw [← hm]; exact h)
    rw [hm, count_snoc, if_pos rfl]
    simpa using this
  · have := parseT_mark s t out (by rw [parseT_end]; exact h)
    simpa using this

set_option maxHeartbeats 4000000 in
theorem propsFirst_walk (s0 t0 : ByteArray) (w : World) (hs0 : s0.size ≤ 9223372036854775807) (ht0 : t0.size ≤ 9223372036854775807) (hg : Gl w) :
    Calls Tryz.prog 5 #[.string s0, .string t0] w fun e w' => e = .returned (.bool true) ∧ Below w.heap.size w w' := by
  obtain ⟨ls, hls⟩ : ∃ n, n = s0.size := ⟨_, rfl⟩
  obtain ⟨lt, hlt⟩ : ∃ n, n = t0.size := ⟨_, rfl⟩
  obtain ⟨n, hn⟩ : ∃ n, n = min ls 2000 := ⟨_, rfl⟩
  obtain ⟨m, hm⟩ : ∃ m, m = min lt 200 := ⟨_, rfl⟩
  have hmin1 := min_run ls n 2000 (by omega)
  have hmin2 := min_run lt m 200 (by omega)
  obtain ⟨S, hS⟩ : ∃ S, S = (nums s0).take n := ⟨_, rfl⟩
  obtain ⟨T, hT⟩ : ∃ T, T = (nums t0).take m := ⟨_, rfl⟩
  obtain ⟨bS, hbS⟩ : ∃ b, b = strOfNums S := ⟨_, rfl⟩
  obtain ⟨bT, hbT⟩ : ∃ b, b = strOfNums T := ⟨_, rfl⟩
  have hcut1 : ∀ W, (Instr.slice 9 (.string s0) none (some (.int .i64 n)) none).run Tryz.prog W = .ok (.string bS) W := by rw [hbS, hS]; exact str_cut s0 ls n 2000 hls.symm (by omega) (by omega)
  have hcut2 : ∀ W, (Instr.slice 9 (.string t0) none (some (.int .i64 m)) none).run Tryz.prog W = .ok (.string bT) W := by rw [hbT, hT]; exact str_cut t0 lt m 200 hlt.symm (by omega) (by omega)
  have hSl : S.length = n := by rw [hS, List.length_take, nums_len]; omega
  have hTl : T.length = m := by rw [hT, List.length_take, nums_len]; omega
  have HSR : Hid (∀ y ∈ S, 0 ≤ y ∧ y ≤ 255) := by rw [hS]; exact fun y hy => nums_rng s0 y (List.mem_of_mem_take hy)
  have HTR : Hid (∀ y ∈ T, 0 ≤ y ∧ y ≤ 255) := by rw [hT]; exact fun y hy => nums_rng t0 y (List.mem_of_mem_take hy)
  have HSL : Hid (S.length ≤ 2000) := by show S.length ≤ 2000; omega
  have HTL : Hid (T.length ≤ 200) := by show T.length ≤ 200; omega
  have HBS : Hid (bS = strOfNums S) := hbS
  have HBT : Hid (bT = strOfNums T) := hbT
  have hsz1 : s0.size = ls := hls.symm
  have hsz2 : t0.size = lt := hlt.symm
  have HG : Hid (Gl w) := hg
  have hls63 : ls ≤ 9223372036854775807 := by omega
  have hlt63 : lt ≤ 9223372036854775807 := by omega
  have hn63 : n ≤ 2000 := by omega
  clear hS hT hg hn hm hls hlt hs0 ht0 hTl
  have HPO : Hid (∀ out, parseT S = .inl out → ∀ W : World, Below w.heap.size w W → Calls Tryz.prog 10 #[.string bS] W fun e w' => Below w.heap.size w w' ∧ ∃ a cap, e = .returned (.tuple #[.slice a out.length cap, .nilIface])) := by
    intro out hp W hW
    rw [hbS]
    refine (parse_ok S out W hp HSR.out (by have := HSL.out; omega) (HG.out.later hW)).mono ?_
    rintro e w' ⟨hb, a, cap, rfl, _⟩
    exact ⟨hW.trans (hb.mono hW.size), a, cap, rfl⟩
  clear hbS hbT
  go_enter Tryz.func5, Tryz.ntmps5
  go_wp2_with fail
  refine (shown_any w HG.out).mono ?_
  rintro e w1 ⟨rfl, hb1⟩
  have HB1 : Hid (Below w.heap.size w w1) := hb1
  clear hb1
  go_wp2_with fail
  cases hp : parseT S with
  | inr p =>
    obtain ⟨ln, en⟩ := p
    have hrng := parse_rng S ln en hp
    have HP2 : Hid (parseT (S ++ [10] ++ T) = .inr (ln, en)) := by
      have := parseT_first S T (ln, en) hp
      show parseT (S ++ [10] ++ T) = _
      simpa using this
    have hln1 : 1 ≤ (ln : Int) := by omega
    have hln2 : ln ≤ 3000 := by omega
    have HBP1 : Hid (BadP w bS ln en) := bad_of w HG.out S bS ln en HBS.out hp HSR.out (by have := HSL.out; omega)
    obtain ⟨b1, hb1⟩ : ∃ b, b = strOfNums (S ++ [10]) := ⟨_, rfl⟩
    obtain ⟨b2, hb2⟩ : ∃ b, b = strOfNums (S ++ [10] ++ T) := ⟨_, rfl⟩
    have hadd1 : ∀ W, (Op.stringOp .add bS ⟨#[10]⟩).run Tryz.prog W = .ok (.string b1) W := by rw [HBS.out, hb1]; exact add_str1 S 10 (by omega) (by have := HSL.out; omega)
    have hadd2 : ∀ W, (Op.stringOp .add b1 bT).run Tryz.prog W = .ok (.string b2) W := by rw [HBT.out, hb1, hb2]; exact add_str (S ++ [10]) T (by have := HSL.out; have := HTL.out; simp; omega)
    have HBP2 : Hid (BadP w b2 ln en) := bad_of w HG.out _ b2 ln en hb2 HP2.out (by
      intro y hy
      simp only [List.mem_append, List.mem_singleton] at hy
      rcases hy with (hy | hy) | hy
      · exact HSR.out y hy
      · omega
      · exact HTR.out y hy) (by have := HSL.out; have := HTL.out; simp; omega)
    clear hp hrng hb1 hb2
    refine (HBP1.out w1 HB1.out).mono ?_
    rintro e w2 ⟨hb2, p, rfl, hl2, _⟩
    have HB2 : Hid (Below w.heap.size w w2) := HB1.out.trans (hb2.mono HB1.out.size)
    have HL2' : Hid (LineP w2 p ln en) := hl2
    clear hb2 hl2
    go_wp2_with fail
    refine (HL2'.out w2 (Below.refl _ _)).mono ?_
    rintro e w3 ⟨rfl, hb3⟩
    have HB3 : Hid (Below w.heap.size w w3) := HB2.out.trans (hb3.mono HB2.out.size)
    clear hb3
    go_wp2_with fail
    refine (HBP2.out w3 HB3.out).mono ?_
    rintro e w4 ⟨hb4, p2, rfl, hl4, _⟩
    have HB4 : Hid (Below w.heap.size w w4) := HB3.out.trans (hb4.mono HB3.out.size)
    have HL4' : Hid (LineP w4 p2 ln en) := hl4
    clear hb4 hl4
    go_wp2_with fail
    refine (HL4'.out w4 (Below.refl _ _)).mono ?_
    rintro e w5 ⟨rfl, hb5⟩
    have HB5 : Hid (Below w.heap.size w w5) := HB4.out.trans (hb5.mono HB4.out.size)
    clear hb5
    go_wp2
    go_ret
    exact ⟨rfl, HB5.out⟩
  | inl out =>
    have HP : Hid (parseT S = .inl out) := hp
    clear hp
    refine (HPO.out out HP.out w1 HB1.out).mono ?_
    rintro e w2 ⟨hb2, a, cap, rfl⟩
    have HB2 : Hid (Below w.heap.size w w2) := hb2
    clear hb2
    have hss : bS.size = n := by rw [HBS.out, strOfNums_size]; exact hSl
    have HXX : Hid (∀ k : Nat, k < n → ∀ W : World, (Instr.index 9 (.string bS) (.int .i64 k)).run Tryz.prog W = .ok (.int .u8 (S.getD k 0)) W) := fun k hk W => by rw [HBS.out]; exact str_at S k (by rw [hSl]; exact hk) HSR.out W
    have HSLN : Hid (S.length = n) := hSl
    go_wp2
    go_loop [14, 15] (fun x14 x15 => ∃ k : Nat, k ≤ n ∧ x15 = .int .i64 k ∧ x14 = .int .i64 ((S.take k).count 10 : Nat)) (fun _ x15 => n - (intOf x15).toNat)
    case atStart => exact ⟨0, by omega, rfl, rfl⟩
    case round =>
      obtain ⟨k, hk, hx15, hx14⟩ := hrel
      subst hx15 hx14
      have hcl : (S.take k).count 10 ≤ k := by have := List.count_le_length (a := (10 : Int)) (l := S.take k); simp at this; omega
      obtain ⟨ct, hct⟩ : ∃ ct, ct = (S.take k).count 10 := ⟨_, rfl⟩
      rw [← hct] at hcl
      have HCT : Hid (ct = (S.take k).count 10) := hct
      rw [← hct]
      clear hct
      by_cases hlt : k < n
      · have hix := HXX.out k hlt
        obtain ⟨x, hxd⟩ : ∃ x, x = S.getD k 0 := ⟨_, rfl⟩
        rw [← hxd] at hix
        have HXD : Hid (x = S.getD k 0) := hxd
        clear hxd
        have HTK : Hid (S.take (k + 1) = S.take k ++ [x]) := by show _ = _; rw [take_s S k (by rw [HSLN.out]; exact hlt), ← HXD.out]
        by_cases h10 : x = 10
        · have HN : Hid ((S.take (k + 1)).count 10 = ct + 1) := by show _ = _; rw [HTK.out, count_snoc, if_pos h10, HCT.out]
          go_wp2
          go_round
          case rel => exact ⟨k + 1, by omega, by go_num, by rw [HN.out]; go_num⟩
          case measure => simp [intOf]; omega
        · have HN : Hid ((S.take (k + 1)).count 10 = ct) := by show _ = _; rw [HTK.out, count_snoc, if_neg h10, HCT.out, Nat.add_zero]
          go_wp2
          go_round
          case rel => exact ⟨k + 1, by omega, by go_num, by rw [HN.out]⟩
          case measure => simp [intOf]; omega
      · obtain rfl : k = n := by omega
        have HTA : Hid (S.take k = S) := List.take_of_length_le (by rw [HSLN.out]; exact Nat.le_refl _)
        have HCT2 : Hid (ct = S.count 10) := by show _ = _; rw [HCT.out, HTA.out]
        have HFM := first_mark S T out HP.out
        have HF1 : Hid (S = [] → parseT ([] ++ [63] ++ T) = .inr (1, 2)) := HFM.1
        have HF2 : Hid (∀ m, S = m ++ [10] → parseT (S ++ [63] ++ T) = .inr (S.count 10 + 1, 2)) := HFM.2.1
        have HF3 : Hid (parseT (S ++ [10] ++ [63] ++ T) = .inr (S.count 10 + 2, 2)) := HFM.2.2
        clear HFM
        have hct2 : ct ≤ 2000 := by omega
        have HEND : Hid (∀ y ∈ S ++ [10] ++ [63] ++ T, 0 ≤ y ∧ y ≤ 255) := by
          intro y hy
          simp only [List.mem_append, List.mem_singleton] at hy
          rcases hy with ((hy | hy) | hy) | hy
          · exact HSR.out y hy
          · omega
          · omega
          · exact HTR.out y hy
        have HEND2 : Hid (∀ y ∈ S ++ [63] ++ T, 0 ≤ y ∧ y ≤ 255) := by
          intro y hy
          simp only [List.mem_append, List.mem_singleton] at hy
          rcases hy with (hy | hy) | hy
          · exact HSR.out y hy
          · omega
          · exact HTR.out y hy
        obtain ⟨c1, hc1⟩ : ∃ b, b = strOfNums (S ++ [63]) := ⟨_, rfl⟩
        obtain ⟨c2, hc2⟩ : ∃ b, b = strOfNums (S ++ [63] ++ T) := ⟨_, rfl⟩
        obtain ⟨d1, hd1⟩ : ∃ b, b = strOfNums (S ++ [10]) := ⟨_, rfl⟩
        obtain ⟨d2, hd2⟩ : ∃ b, b = strOfNums (S ++ [10] ++ [63]) := ⟨_, rfl⟩
        obtain ⟨d3, hd3⟩ : ∃ b, b = strOfNums (S ++ [10] ++ [63] ++ T) := ⟨_, rfl⟩
        have hadc1 : ∀ W, (Op.stringOp .add bS ⟨#[63]⟩).run Tryz.prog W = .ok (.string c1) W := by rw [HBS.out, hc1]; exact add_str1 S 63 (by omega) (by have := HSL.out; omega)
        have hadc2 : ∀ W, (Op.stringOp .add c1 bT).run Tryz.prog W = .ok (.string c2) W := by rw [HBT.out, hc1, hc2]; exact add_str (S ++ [63]) T (by have := HSL.out; have := HTL.out; simp; omega)
        have hadd1 : ∀ W, (Op.stringOp .add bS ⟨#[10]⟩).run Tryz.prog W = .ok (.string d1) W := by rw [HBS.out, hd1]; exact add_str1 S 10 (by omega) (by have := HSL.out; omega)
        have hadd2 : ∀ W, (Op.stringOp .add d1 ⟨#[63]⟩).run Tryz.prog W = .ok (.string d2) W := by rw [hd1, hd2]; exact add_str1 (S ++ [10]) 63 (by omega) (by have := HSL.out; simp; omega)
        have hadd3 : ∀ W, (Op.stringOp .add d2 bT).run Tryz.prog W = .ok (.string d3) W := by rw [HBT.out, hd2, hd3]; exact add_str (S ++ [10] ++ [63]) T (by have := HSL.out; have := HTL.out; simp; omega)
        have HBC : Hid (∀ ln : Nat, parseT (S ++ [63] ++ T) = .inr (ln, 2) → BadP w c2 ln 2) := fun ln h => bad_of w HG.out _ c2 ln 2 hc2 h HEND2.out (by have := HSL.out; have := HTL.out; simp; omega)
        have HBD : Hid (∀ ln : Nat, parseT (S ++ [10] ++ [63] ++ T) = .inr (ln, 2) → BadP w d3 ln 2) := fun ln h => bad_of w HG.out _ d3 ln 2 hd3 h HEND.out (by have := HSL.out; have := HTL.out; simp; omega)
        clear hc1 hc2 hd1 hd2 hd3
        by_cases h0 : k = 0
        · have hnil : S = [] := List.eq_nil_of_length_eq_zero (by rw [HSLN.out]; exact h0)
          have hiE : bS.toList.isEmpty = true := by rw [HBS.out, hnil]; exact str_none
          have HPB : Hid (BadP w c2 1 2) := HBC.out 1 (by rw [hnil]; exact HF1.out hnil)
          have hc0 : ct = 0 := by rw [HCT2.out, hnil]; rfl
          subst hc0
          clear hnil
          go_wp2_with fail
          refine (HPB.out w2 HB2.out).mono ?_
          rintro e w3 ⟨hb3, p, rfl, hl3, _⟩
          have HB3 : Hid (Below w.heap.size w w3) := HB2.out.trans (hb3.mono HB2.out.size)
          have HL3' : Hid (LineP w3 p 1 2) := hl3
          clear hb3 hl3
          go_wp2_with fail
          refine (HL3'.out w3 (Below.refl _ _)).mono ?_
          rintro e w4 ⟨rfl, hb4⟩
          have HB4 : Hid (Below w.heap.size w w4) := HB3.out.trans (hb4.mono HB3.out.size)
          clear hb4
          go_wp2
          go_ret
          exact ⟨rfl, HB4.out⟩
        · have hiE : bS.toList.isEmpty = false := by rw [HBS.out]; exact str_some S (by rw [HSLN.out]; omega)
          have hix := HXX.out (k - 1) (by omega)
          obtain ⟨x, hxd⟩ : ∃ x, x = S.getD (k - 1) 0 := ⟨_, rfl⟩
          rw [← hxd] at hix
          have hkk : ((k - 1 : Nat) : Int) = (k : Int) - 1 := by omega
          rw [hkk] at hix
          have HLAST : Hid (S = S.take (k - 1) ++ [x]) := by
            show S = _
            rw [hxd, ← take_s S (k - 1) (by rw [HSLN.out]; omega), show k - 1 + 1 = k by omega]
            exact HTA.out.symm
          have hw1 : IntKind.i64.wrap ((k : Int) - 1) = (k : Int) - 1 := by rw [IntKind.wrap_i64]; omega
          by_cases h10 : x = 10
          · have HPB : Hid (BadP w c2 (ct + 1) 2) := HBC.out (ct + 1) (by rw [HCT2.out]; exact HF2.out (S.take (k - 1)) (by rw [← h10]; exact HLAST.out))
            clear hxd hkk
            go_wp2_with fail
            refine (HPB.out w2 HB2.out).mono ?_
            rintro e w3 ⟨hb3, p, rfl, hl3, _⟩
            have HB3 : Hid (Below w.heap.size w w3) := HB2.out.trans (hb3.mono HB2.out.size)
            have HL3' : Hid (LineP w3 p (ct + 1) 2) := hl3
            clear hb3 hl3
            go_wp2_with fail
            refine (HL3'.out w3 (Below.refl _ _)).mono ?_
            rintro e w4 ⟨rfl, hb4⟩
            have HB4 : Hid (Below w.heap.size w w4) := HB3.out.trans (hb4.mono HB3.out.size)
            clear hb4
            go_wp2
            go_ret
            exact ⟨by first | rfl | simp, HB4.out⟩
          · have HPB : Hid (BadP w d3 (ct + 2) 2) := HBD.out (ct + 2) (by rw [HCT2.out]; exact HF3.out)
            clear hxd hkk
            go_wp2_with fail
            refine (HPB.out w2 HB2.out).mono ?_
            rintro e w3 ⟨hb3, p, rfl, hl3, _⟩
            have HB3 : Hid (Below w.heap.size w w3) := HB2.out.trans (hb3.mono HB2.out.size)
            have HL3' : Hid (LineP w3 p (ct + 2) 2) := hl3
            clear hb3 hl3
            go_wp2_with fail
            refine (HL3'.out w3 (Below.refl _ _)).mono ?_
            rintro e w4 ⟨rfl, hb4⟩
            have HB4 : Hid (Below w.heap.size w w4) := HB3.out.trans (hb4.mono HB3.out.size)
            clear hb4
            go_wp2
            go_ret
            exact ⟨by first | rfl | simp, HB4.out⟩
end Go.Proofs.YtchdklbekfdgdaaGreatDoor
