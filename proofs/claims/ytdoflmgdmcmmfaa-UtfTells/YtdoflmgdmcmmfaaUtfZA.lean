/- Walks of the reference: First, Tail, Decode, Encode. -/
import Derived.Test.YtdoflmgdmcmmfaaUtfZ
namespace Go.Proofs.Ytdoflmgdmcmmfaa
open Go.RowKit
set_option linter.unusedVariables false

set_option maxHeartbeats 2000000 in
theorem rfirst_some (bs : List Int) (w : World) (h1 : 1 ≤ bs.length) (hl : bs.length ≤ 100000000000) (hr : ∀ y ∈ bs, 0 ≤ y ∧ y ≤ 255) :
    Calls Try.prog 13 #[.string (strOfNums bs)] w fun e w' => e = .returned (.tuple #[.int .i32 (first bs).1, .int .i64 (first bs).2.1, .int .i64 (first bs).2.2]) ∧ Below w.heap.size w w' := by
  have hsz := strOfNums_size bs
  have he := str_some bs h1
  have HR : Hid (∀ y ∈ bs, 0 ≤ y ∧ y ≤ 255) := hr
  obtain ⟨F, hF⟩ : ∃ F, F = first bs := ⟨_, rfl⟩
  rw [← hF]
  have HF : Hid (F = first bs) := hF
  clear hr hF
  go_enter Try.func13, Try.ntmps13
  go_wp2
  go_loopw [5] (fun n wr => ∃ k : Nat, 1 ≤ k ∧ k ≤ 5 ∧ k ≤ bs.length + 1 ∧ n = .int .i64 k ∧ (∀ j, 1 ≤ j → j < k → whl (bs.take j) = none) ∧ Below w.heap.size w wr) (fun n _ => 5 - (intOf n).toNat)
  case atStart => exact ⟨1, by omega, by omega, by omega, rfl, fun j h1 h2 => absurd h2 (by omega), Below.refl _ _⟩
  case round =>
    obtain ⟨k, hk1, hk5, hkl, rfl, hno, hbr⟩ := hrel
    have HN : Hid (∀ j, 1 ≤ j → j < k → whl (bs.take j) = none) := hno
    have HBR : Hid (Below w.heap.size w wr) := hbr
    clear hno hbr
    by_cases hlt : k ≤ 4 ∧ k ≤ bs.length
    · obtain ⟨hk4, hkb⟩ := hlt
      have hcut := str_take bs k hkb
      have HRT : Hid (∀ y ∈ bs.take k, 0 ≤ y ∧ y ≤ 255) := fun y hy => HR.out y (List.mem_of_mem_take hy)
      cases hw : whl (bs.take k) with
      | some c =>
        have HW : Hid (whl (bs.take k) = some c) := hw
        clear hw
        go_wp2_with fail
        refine (whole_some (bs.take k) c _ HRT.out HW.out).mono ?_
        rintro e w1 ⟨rfl, hb1⟩
        have HB1 : Hid (Below w.heap.size w w1) := HBR.out.trans (hb1.mono HBR.out.size)
        clear hb1
        go_wp2
        go_ret3
        exact ⟨ret_int3 (by rw [HF.out]; exact first_whl bs k hkb c HW.out), HB1.out⟩
      | none =>
        have HW : Hid (whl (bs.take k) = none) := hw
        clear hw
        go_wp2_with fail
        refine (whole_none (bs.take k) _ HRT.out (by simp; omega) HW.out).mono ?_
        rintro e w1 ⟨rfl, hb1⟩
        have HB1 : Hid (Below w.heap.size w w1) := HBR.out.trans (hb1.mono HBR.out.size)
        clear hb1
        go_wp2
        go_roundw
        case rel => exact ⟨k + 1, by omega, by omega, by omega, by go_num, fun j h1 h2 => by
            by_cases hj : j = k
            · rw [hj]; exact HW.out
            · exact HN.out j h1 (by omega), HB1.out⟩
        case measure => simp [intOf]; omega
    · have HERR : Hid ((first bs).2.2 ≠ 0) := first_no bs (by intro h; rw [h] at h1; simp at h1) HR.out (fun j h1 h2 h3 => HN.out j h1 (by omega))
      have HEL : Hid (first bs = (0, 0, if (first bs).2.2 = 6 then 6 else 2)) := first_else bs (by intro h; rw [h] at h1; simp at h1) HERR.out
      obtain ⟨g, hg⟩ : ∃ g, g = decide ((first bs).2.2 = 6) := ⟨_, rfl⟩
      have HGG : Hid (g = decide ((first bs).2.2 = 6)) := hg
      clear hg
      have HBG : Hid (∀ W, Calls Try.prog 26 #[.string (strOfNums bs)] W fun e w' => e = .returned (.bool g) ∧ Below W.heap.size W w') := by
        intro W; rw [HGG.out]; exact rbegins_any bs W h1 hl HR.out
      by_cases hk4 : k ≤ 4
      · have hkb : ¬ k ≤ bs.length := by omega
        clear hlt
        go_wp2_with fail
        refine (HBG.out _).mono ?_
        rintro e w1 ⟨rfl, hb1⟩
        have HB1 : Hid (Below w.heap.size w w1) := HBR.out.trans (hb1.mono HBR.out.size)
        clear hb1
        cases g
        all_goals
          go_wp2
          go_ret3
        · exact ⟨ret_int3 (by rw [HF.out, HEL.out, if_neg (by simpa using HGG.out.symm)]), HB1.out⟩
        · exact ⟨ret_int3 (by rw [HF.out, HEL.out, if_pos (by simpa using HGG.out.symm)]), HB1.out⟩
      · clear hlt
        go_wp2_with fail
        refine (HBG.out _).mono ?_
        rintro e w1 ⟨rfl, hb1⟩
        have HB1 : Hid (Below w.heap.size w w1) := HBR.out.trans (hb1.mono HBR.out.size)
        clear hb1
        cases g
        all_goals
          go_wp2
          go_ret3
        · exact ⟨ret_int3 (by rw [HF.out, HEL.out, if_neg (by simpa using HGG.out.symm)]), HB1.out⟩
        · exact ⟨ret_int3 (by rw [HF.out, HEL.out, if_pos (by simpa using HGG.out.symm)]), HB1.out⟩

/-- First of the reference, of any bytes. -/
theorem rfirst_any (bs : List Int) (w : World) (hl : bs.length ≤ 100000000000) (hr : ∀ y ∈ bs, 0 ≤ y ∧ y ≤ 255) :
    Calls Try.prog 13 #[.string (strOfNums bs)] w fun e w' => e = .returned (.tuple #[.int .i32 (first bs).1, .int .i64 (first bs).2.1, .int .i64 (first bs).2.2]) ∧ Below w.heap.size w w' := by
  cases bs with
  | nil =>
    have he := str_none
    go_enter Try.func13, Try.ntmps13
    go_wp2
    go_ret3
    exact ⟨rfl, Below.refl _ _⟩
  | cons x r => exact rfirst_some (x :: r) w (by simp) hl hr

set_option maxHeartbeats 2000000 in
/-- Tail of the reference, of any bytes. -/
theorem rtail_any (bs : List Int) (w : World) (hl : bs.length ≤ 100000000000) (hr : ∀ y ∈ bs, 0 ≤ y ∧ y ≤ 255) :
    Calls Try.prog 20 #[.string (strOfNums bs)] w fun e w' => e = .returned (.int .i64 (tail8 bs)) ∧ Below w.heap.size w w' := by
  have hsz := strOfNums_size bs
  have HR : Hid (∀ y ∈ bs, 0 ≤ y ∧ y ≤ 255) := hr
  obtain ⟨T, hT⟩ : ∃ T, T = tail8 bs := ⟨_, rfl⟩
  rw [← hT]
  have HS : Hid (∀ m, m = min 3 bs.length → T = tailF bs m) := by
    intro m hm; rw [hT, tail8, hm]
  clear hr hT
  have hcase : 3 ≤ bs.length ∨ bs.length < 3 := by omega
  rcases hcase with h3 | h3
  all_goals
    go_enter Try.func20, Try.ntmps20
    go_wp2
    go_loopw [3] (fun n wr => ∃ k : Nat, k ≤ 3 ∧ k ≤ bs.length ∧ n = .int .i64 k ∧ T = tailF bs k ∧ Below w.heap.size w wr) (fun n _ => (intOf n).toNat)
    case atStart => first | exact ⟨3, by omega, by omega, rfl, HS.out 3 (by omega), Below.refl _ _⟩ | exact ⟨bs.length, by omega, by omega, rfl, HS.out bs.length (by omega), Below.refl _ _⟩
    case round =>
      obtain ⟨k, hk, hkl, rfl, hTk, hbr⟩ := hrel
      have HT : Hid (T = tailF bs k) := hTk
      have HBR : Hid (Below w.heap.size w wr) := hbr
      clear hTk hbr
      by_cases h0 : k = 0
      · subst h0
        go_wp2
        go_ret
        exact ⟨ret_int (by rw [HT.out]; rfl), HBR.out⟩
      · have h1 : 1 ≤ k := by omega
        have hp : (0 : Int) < (k : Int) := by omega
        have hcut := str_drop bs (bs.length - k) (by omega)
        have hcast : (((bs.length - k : Nat) : Nat) : Int) = (bs.length : Int) - (k : Int) := by omega
        rw [hcast] at hcut
        have hdl : (bs.drop (bs.length - k)).length = k := by simp; omega
        obtain ⟨g, hg⟩ : ∃ g, g = decide ((first (bs.drop (bs.length - k))).2.2 = 6) := ⟨_, rfl⟩
        have HGG : Hid (g = decide ((first (bs.drop (bs.length - k))).2.2 = 6)) := hg
        have HBG : Hid (∀ W, Calls Try.prog 26 #[.string (strOfNums (bs.drop (bs.length - k)))] W fun e w' => e = .returned (.bool g) ∧ Below W.heap.size W w') := by
          intro W; rw [HGG.out]; exact rbegins_any _ W (by omega) (by omega) (fun y hy => HR.out y (List.mem_of_mem_drop hy))
        clear hg hdl hcast h0
        go_wp2_with fail
        refine (HBG.out _).mono ?_
        rintro e w1 ⟨rfl, hb1⟩
        have HB1 : Hid (Below w.heap.size w w1) := HBR.out.trans (hb1.mono HBR.out.size)
        clear hb1
        cases g with
        | true =>
          go_wp2
          go_ret
          exact ⟨ret_int (by rw [HT.out, tailF_yes bs k h1 (by simpa using HGG.out.symm)]), HB1.out⟩
        | false =>
          go_wp2
          go_roundw
          case rel => exact ⟨k - 1, by omega, by omega, by go_num, by rw [HT.out, tailF_no bs k h1 (by simpa using HGG.out.symm)], HB1.out⟩
          case measure => simp [intOf]; omega
end Go.Proofs.Ytdoflmgdmcmmfaa
