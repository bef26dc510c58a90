/- The walk of the statement PropsNotes: notes and empty lines do not matter, but for the count of lines. -/
import Derived.Test.YtchdklbekfdgdaaGreatDoorPropsZ
import Derived.Test.YtchdklbekfdgdaaGreatDoorPropsSm
namespace Go.Proofs.YtchdklbekfdgdaaGreatDoor
open Go.RowKit
set_option linter.unusedVariables false

/-- A line that does not matter. -/
def ntL (i : Nat) : List Int := if i % 4 = 0 then [35, 32, 110, 111, 116, 101, 32, 59, 32, 120] else if i % 4 = 1 then [] else if i % 4 = 2 then [32, 9, 32] else [35]
/-- So many of them. -/
def tkL (k : Nat) : List Int := joinNl ((List.range k).map ntL)
theorem joinNl_app : (a b : List (List Int)) → joinNl (a ++ b) = joinNl a ++ joinNl b
  | [], b => rfl
  | l :: a, b => by simp [joinNl, joinNl_app a b]
theorem tkL_s (k : Nat) : tkL (k + 1) = tkL k ++ (ntL k ++ [10]) := by
  unfold tkL
  rw [List.range_succ, List.map_append, joinNl_app]
  simp [joinNl]
theorem ntL_cases (i : Nat) : (i % 4 = 0 ∧ ntL i = [35, 32, 110, 111, 116, 101, 32, 59, 32, 120]) ∨ (i % 4 = 1 ∧ ntL i = []) ∨ (i % 4 = 2 ∧ ntL i = [32, 9, 32]) ∨ (i % 4 = 3 ∧ ntL i = [35]) := by
  rcases (by omega : i % 4 = 0 ∨ i % 4 = 1 ∨ i % 4 = 2 ∨ i % 4 = 3) with h | h | h | h <;> simp [ntL, h]
theorem ntL_rng (i : Nat) : (∀ y ∈ ntL i ++ [10], 0 ≤ y ∧ y ≤ 255) ∧ (ntL i).length ≤ 10 ∧ (∀ c ∈ ntL i, c ≠ 10) ∧ trm (noNote (ntL i)) = [] := by
  rcases ntL_cases i with ⟨_, h⟩ | ⟨_, h⟩ | ⟨_, h⟩ | ⟨_, h⟩ <;> rw [h] <;> decide
theorem tkL_rng : (k : Nat) → (∀ y ∈ tkL k, 0 ≤ y ∧ y ≤ 255) ∧ (tkL k).length ≤ 11 * k
  | 0 => by simp [tkL, joinNl]
  | k + 1 => by
    obtain ⟨h1, h2⟩ := tkL_rng k
    obtain ⟨n1, n2, _, _⟩ := ntL_rng k
    rw [tkL_s]
    refine ⟨fun y hy => ?_, by simp; omega⟩
    rcases List.mem_append.1 hy with hy | hy
    · exact h1 y hy
    · exact n1 y hy
theorem tkL_parse (k : Nat) (s : List Int) : parseT (tkL k ++ s) = shiftBy k (parseT s) := by
  have := parseT_notes ((List.range k).map ntL) s (by
    intro l hl
    rw [List.mem_map] at hl
    obtain ⟨i, _, rfl⟩ := hl
    exact (ntL_rng i).2.2.1) (by
    intro l hl
    rw [List.mem_map] at hl
    obtain ⟨i, _, rfl⟩ := hl
    exact (ntL_rng i).2.2.2)
  simpa [tkL] using this
theorem notes_cells (k : Nat) : ∀ w : World, (w.alloc (.cells #[.string ⟨#[35, 32, 110, 111, 116, 101, 32, 59, 32, 120, 10]⟩, .string ⟨#[10]⟩, .string ⟨#[32, 9, 32, 10]⟩, .string ⟨#[35, 10]⟩] 9)).cell? ⟨w.heap.size, k % 4, none⟩ = some (.string (strOfNums (ntL k ++ [10]))) := by
  intro w
  rw [cell_of_row _ w.heap.size (k % 4) _ _ _ (heap_alloc_new w _)]
  rcases ntL_cases k with ⟨h1, h⟩ | ⟨h1, h⟩ | ⟨h1, h⟩ | ⟨h1, h⟩ <;> rw [h, h1] <;> rfl
set_option maxHeartbeats 4000000 in
theorem propsNotes_walk (s0 : ByteArray) (n0 : Int) (w : World) (hs0 : s0.size ≤ 9223372036854775807) (hg : Gl w) :
    Calls Tryz.prog 8 #[.string s0, .int .i64 n0] w fun e w' => e = .returned (.bool true) ∧ Below w.heap.size w w' := by
  obtain ⟨ls, hls⟩ : ∃ n, n = s0.size := ⟨_, rfl⟩
  obtain ⟨m, hm⟩ : ∃ n, n = min ls 1000 := ⟨_, rfl⟩
  have hmin1 := min_run ls m 1000 (by omega)
  obtain ⟨S, hS⟩ : ∃ S, S = (nums s0).take m := ⟨_, rfl⟩
  obtain ⟨bS, hbS⟩ : ∃ b, b = strOfNums S := ⟨_, rfl⟩
  have hcut1 : ∀ W, (Instr.slice 9 (.string s0) none (some (.int .i64 m)) none).run Tryz.prog W = .ok (.string bS) W := by rw [hbS, hS]; exact str_cut s0 ls m 1000 hls.symm (by omega) (by omega)
  have hSl : S.length = m := by rw [hS, List.length_take, nums_len]; omega
  have HSR : Hid (∀ y ∈ S, 0 ≤ y ∧ y ≤ 255) := by rw [hS]; exact fun y hy => nums_rng s0 y (List.mem_of_mem_take hy)
  have HSL : Hid (S.length ≤ 1000) := by show S.length ≤ 1000; omega
  have HBS : Hid (bS = strOfNums S) := hbS
  have hsz1 : s0.size = ls := hls.symm
  have HG : Hid (Gl w) := hg
  have hls63 : ls ≤ 9223372036854775807 := by omega
  obtain ⟨n, hn⟩ : ∃ n : Nat, (n : Int) = n0 % 2 ^ 4 := ⟨(n0 % 2 ^ 4).toNat, by have := Int.emod_nonneg n0 (show (2 ^ 4 : Int) ≠ 0 by decide); omega⟩
  have hand : bits .and .i64 n0 15 = (n : Int) := by rw [and_low n0 15 4 (by omega) (by decide)]; exact hn.symm
  have hn15 : n ≤ 15 := by have := Int.emod_lt_of_pos n0 (show (0 : Int) < 2 ^ 4 by decide); omega
  have HPC : Hid (parseT (tkL n ++ S) = shiftBy n (parseT S)) := tkL_parse n S
  clear hS hg hm hls hs0 hn hbS
  have mixed : Tryz.prog.follows .mixedOrders = true := by kernel_rfl
  go_enter Tryz.func8, Tryz.ntmps8
  go_wp2_with fail
  refine (shown_any w HG.out).mono ?_
  rintro e w1 ⟨rfl, hb1⟩
  have HB1 : Hid (Below w.heap.size w w1) := hb1
  clear hb1
  go_wp2
  go_loopw [6, 7] (fun x6 x7 wr => ∃ k : Nat, k ≤ n ∧ x7 = .int .i64 k ∧ x6 = .string (strOfNums (tkL k)) ∧ Below w.heap.size w wr) (fun _ x7 _ => n - (intOf x7).toNat)
  case atStart => exact ⟨0, by omega, rfl, rfl, HB1.out⟩
  case round =>
    obtain ⟨k, hk, hx7, hx6, hbel⟩ := hrel
    subst hx7 hx6
    have HB : Hid (Below w.heap.size w wr) := hbel
    obtain ⟨bt, hbt⟩ : ∃ b, b = strOfNums (tkL k) := ⟨_, rfl⟩
    rw [← hbt]
    clear hbel
    by_cases hlt : k < n
    · obtain ⟨r, hr⟩ : ∃ r, r = k % 4 := ⟨_, rfl⟩
      obtain ⟨bn, hbn⟩ : ∃ b, b = strOfNums (ntL k ++ [10]) := ⟨_, rfl⟩
      obtain ⟨bt2, hbt2⟩ : ∃ b, b = strOfNums (tkL (k + 1)) := ⟨_, rfl⟩
      have hc := notes_cells k wr
      rw [← hr, ← hbn] at hc
      have hand2 : bits .and .i64 (k : Int) 3 = (r : Int) := by rw [and_low (k : Int) 3 2 (by omega) (by decide), hr]; omega
      have hr4 : r < 4 := by omega
      have hri : (r : Int) < 4 := by omega
      have hadd : ∀ W, (Op.stringOp .add bt bn).run Tryz.prog W = .ok (.string bt2) W := by
        rw [hbt, hbn, hbt2, tkL_s]
        have h1 := (tkL_rng k).2
        have h2 := (ntL_rng k).2.1
        exact add_str (tkL k) (ntL k ++ [10]) (by simp; omega)
      have HBT2 : Hid (bt2 = strOfNums (tkL (k + 1))) := hbt2
      clear hr hbn hbt2 hbt
      go_wp2
      go_roundw
      case rel => exact ⟨k + 1, by omega, by go_num, by rw [← HBT2.out], HB.out.alloc HB.out.size _⟩
      case measure => simp [intOf]; omega
    · obtain rfl : k = n := by omega
      obtain ⟨bc, hbc⟩ : ∃ b, b = strOfNums (tkL k ++ S) := ⟨_, rfl⟩
      have HTR := (tkL_rng k).1
      have HTL := (tkL_rng k).2
      have hadd : ∀ W, (Op.stringOp .add bt bS).run Tryz.prog W = .ok (.string bc) W := by
        rw [hbt, HBS.out, hbc]
        exact add_str (tkL k) S (by have := HSL.out; omega)
      have HCR : Hid (∀ y ∈ tkL k ++ S, 0 ≤ y ∧ y ≤ 255) := by
        intro y hy
        rcases List.mem_append.1 hy with hy | hy
        · exact HTR y hy
        · exact HSR.out y hy
      have HCL : Hid ((tkL k ++ S).length < 4294967000) := by show _ < _; have := HSL.out; rw [List.length_append]; omega
      have HBC : Hid (bc = strOfNums (tkL k ++ S)) := hbc
      clear hbt hbc HTR HTL
      cases hp : parseT S with
      | inl out =>
        have HP : Hid (parseT S = .inl out) := hp
        have HP2 : Hid (parseT (tkL k ++ S) = .inl out) := by show _ = _; rw [HPC.out, hp]; rfl
        have HRS : Hid (RgS out) := rgS_parse S out hp
        have HC1 : Hid (Calls Tryz.prog 10 #[.string bS] wr fun e w' => Below wr.heap.size wr w' ∧ ∃ a cap, e = .returned (.tuple #[.slice a out.length cap, .nilIface]) ∧ RdR w' a out.length out ∧ (a = none → cap = 0)) := by
          rw [HBS.out]; exact parse_ok S out wr hp HSR.out (by have := HSL.out; omega) (HG.out.later HB.out)
        have HC2 : Hid (∀ W : World, Below w.heap.size w W → Calls Tryz.prog 10 #[.string bc] W fun e w' => Below W.heap.size W w' ∧ ∃ a cap, e = .returned (.tuple #[.slice a out.length cap, .nilIface]) ∧ RdR w' a out.length out ∧ (a = none → cap = 0)) := by
          intro W hW
          rw [HBC.out]; exact parse_ok (tkL k ++ S) out W HP2.out HCR.out HCL.out (HG.out.later hW)
        clear hp
        obtain ⟨lo, hlo⟩ : ∃ lo, lo = out.length := ⟨_, rfl⟩
        have HLO : Hid (lo ≤ 2000) := by show lo ≤ 2000; rw [hlo]; exact (parseT_fine S out HP.out).1
        rw [← hlo] at HC1 HC2
        clear hlo
        go_wp2_with fail
        refine HC1.out.mono ?_
        rintro e w2 ⟨hb2, a, cap, rfl, hrd2, _⟩
        have HB2 : Hid (Below w.heap.size w w2) := HB.out.trans (hb2.mono HB.out.size)
        have HD2 : Hid (RdR w2 a lo out) := hrd2
        clear hb2 hrd2
        go_wp2_with fail
        refine (HC2.out w2 HB2.out).mono ?_
        rintro e w3 ⟨hb3, a3, cap3, rfl, hrd3, _⟩
        have HB3 : Hid (Below w.heap.size w w3) := HB2.out.trans (hb3.mono HB2.out.size)
        have HD3 : Hid (RdR w3 a lo out ∧ RdR w3 a3 lo out) := ⟨HD2.out.later hb3, hrd3⟩
        clear hb3 hrd3
        go_wp2_with fail
        refine (line_nil w3).mono ?_
        rintro e w4 ⟨rfl, hb4⟩
        have HB4 : Hid (Below w.heap.size w w4) := HB3.out.trans (hb4.mono HB3.out.size)
        have HD4 : Hid (RdR w4 a lo out ∧ RdR w4 a3 lo out) := ⟨HD3.out.1.later hb4, HD3.out.2.later hb4⟩
        clear hb4
        go_wp2_with fail
        refine (line_nil w4).mono ?_
        rintro e w5 ⟨rfl, hb5⟩
        have HB5 : Hid (Below w.heap.size w w5) := HB4.out.trans (hb5.mono HB4.out.size)
        have HD5 : Hid (RdR w5 a lo out ∧ RdR w5 a3 lo out) := ⟨HD4.out.1.later hb5, HD4.out.2.later hb5⟩
        clear hb5
        have HSM : Hid (∀ nn os, Calls Tryz.prog 13 #[.slice a lo cap, .slice a3 lo cap3] (Sort.grow (w5.drewN nn) os) fun e w' => e = .returned (.bool true) ∧ ∃ q os', w' = Sort.grow ((Sort.grow (w5.drewN nn) os).drewN q) os') := by
          intro nn os
          refine (same_refl out a a3 lo cap cap3 _ HRS.out (HD5.out.1.later (below_grow w5 nn os)) (HD5.out.2.later (below_grow w5 nn os)) (by have := HLO.out; omega)).mono ?_
          rintro e w' ⟨rfl, q, rfl⟩
          exact ⟨rfl, q, #[], by rw [Sort.grow_empty]⟩
        go_upto_region 13 with fail
        go_quiet_grown (first | (go_at_call 13; refine Calls.grown_of (HSM.out _ _)))
        go_wp2
        go_ret
        exact ⟨rfl, HB5.out.trans ((below_grow w5 _ _).mono HB5.out.size)⟩
      | inr p =>
        obtain ⟨ln, en⟩ := p
        have hrng := parse_rng S ln en hp
        have HP2 : Hid (parseT (tkL k ++ S) = .inr (ln + k, en)) := by show _ = _; rw [HPC.out, hp]; rfl
        have HBP1 : Hid (BadP w bS ln en) := bad_of w HG.out S bS ln en HBS.out hp HSR.out (by have := HSL.out; omega)
        have HBP2 : Hid (BadP w bc (ln + k) en) := bad_of w HG.out _ bc (ln + k) en HBC.out HP2.out HCR.out HCL.out
        have hln2 : ln ≤ 3000 := by have := HSL.out; omega
        clear hp hrng
        have hkl : ((ln + k : Nat) : Int) = (ln : Int) + (k : Int) := by omega
        go_wp2_with fail
        refine (HBP1.out wr HB.out).mono ?_
        rintro e w2 ⟨hb2, p, rfl, hl2, _⟩
        have HB2 : Hid (Below w.heap.size w w2) := HB.out.trans (hb2.mono HB.out.size)
        have HL2 : Hid (LineP w2 p ln en) := hl2
        clear hb2 hl2
        go_wp2_with fail
        refine (HBP2.out w2 HB2.out).mono ?_
        rintro e w3 ⟨hb3, p3, rfl, hl3, _⟩
        have HB3 : Hid (Below w.heap.size w w3) := HB2.out.trans (hb3.mono HB2.out.size)
        have HL3 : Hid (LineP w3 p ln en ∧ LineP w3 p3 (ln + k) en) := ⟨HL2.out.later hb3, hl3⟩
        clear hb3 hl3
        go_wp2_with fail
        refine (HL3.out.1 w3 (Below.refl _ _)).mono ?_
        rintro e w4 ⟨rfl, hb4⟩
        have HB4 : Hid (Below w.heap.size w w4) := HB3.out.trans (hb4.mono HB3.out.size)
        have HL4 : Hid (LineP w4 p3 (ln + k) en) := HL3.out.2.later hb4
        clear hb4
        go_wp2_with fail
        refine (HL4.out w4 (Below.refl _ _)).mono ?_
        rw [hkl]
        rintro e w5 ⟨rfl, hb5⟩
        have HB5 : Hid (Below w.heap.size w w5) := HB4.out.trans (hb5.mono HB4.out.size)
        clear hb5
        have HSM : Hid (∀ nn os, Calls Tryz.prog 13 #[.slice none 0 0, .slice none 0 0] (Sort.grow (w5.drewN nn) os) fun e w' => e = .returned (.bool true) ∧ ∃ q os', w' = Sort.grow ((Sort.grow (w5.drewN nn) os).drewN q) os') := by
          intro nn os
          refine (same_refl [] none none 0 0 0 _ (fun r hr => by simp at hr) ⟨rfl, fun h => absurd h (by omega)⟩ ⟨rfl, fun h => absurd h (by omega)⟩ (by omega)).mono ?_
          rintro e w' ⟨rfl, q, rfl⟩
          exact ⟨rfl, q, #[], by rw [Sort.grow_empty]⟩
        clear hkl
        go_upto_region 13 with fail
        go_quiet_grown (first | (go_at_call 13; refine Calls.grown_of (HSM.out _ _)))
        go_wp2
        go_ret
        exact ⟨rfl, HB5.out.trans ((below_grow w5 _ _).mono HB5.out.size)⟩
end Go.Proofs.YtchdklbekfdgdaaGreatDoor
