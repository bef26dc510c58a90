/- The walk of the statement PropsSays: an error says what it wraps, and nothing else. -/
import Derived.Test.YtchdklbekfdgdabGreatDoorPropsZ
import Derived.Test.YtchdklbekfdgdabGreatDoorPropsIs
namespace Go.Proofs.YtchdklbekfdgdabGreatDoor
open Go.RowKit Go.Sort
set_option linter.unusedVariables false

theorem ch_of {w : World} {ev : Value} {ln : Nat} {en : Int} (h : ErrAt w ev ln en) : Ch w en ev 2 := by
  obtain ⟨p, q, rfl, h1, h2⟩ := h
  exact .wrong p q ln h1 h2
theorem grow0 (W : World) (os : Array Obj) : grow W os = grow (W.drewN 0) os := rfl

set_option maxHeartbeats 4000000 in
theorem propsSays_walk (s0 : ByteArray) (n0 : Int) (w : World) (hs0 : s0.size ≤ 9223372036854775807) (hg : Gl w) :
    Calls Tryz.prog 5 #[.string s0, .int .i64 n0] w fun e w' => e = .returned (.bool true) ∧ Below w.heap.size w w' := by
  obtain ⟨ls, hls⟩ : ∃ n, n = s0.size := ⟨_, rfl⟩
  obtain ⟨n, hn⟩ : ∃ n, n = min ls 1000 := ⟨_, rfl⟩
  have hmin1 := min_run ls n 1000 (by omega)
  obtain ⟨S, hS⟩ : ∃ S, S = (nums s0).take n := ⟨_, rfl⟩
  obtain ⟨bS, hbS⟩ : ∃ b, b = strOfNums S := ⟨_, rfl⟩
  have hcut1 : ∀ W, (Instr.slice 9 (.string s0) none (some (.int .i64 n)) none).run Tryz.prog W = .ok (.string bS) W := by rw [hbS, hS]; exact str_cut s0 ls n 1000 hls.symm (by omega) (by omega)
  have hSl : S.length = n := by rw [hS, List.length_take, nums_len]; omega
  have HSR : Hid (∀ y ∈ S, 0 ≤ y ∧ y ≤ 255) := by rw [hS]; exact fun y hy => nums_rng s0 y (List.mem_of_mem_take hy)
  have HSL : Hid (S.length ≤ 1000) := by show S.length ≤ 1000; omega
  have HBS : Hid (bS = strOfNums S) := hbS
  have hsz1 : s0.size = ls := hls.symm
  have HG : Hid (Gl w) := hg
  have hls63 : ls ≤ 9223372036854775807 := by omega
  have hn63 : n ≤ 1000 := by omega
  obtain ⟨m, hm⟩ : ∃ m : Nat, (m : Int) = n0 % 8 := ⟨(n0 % 8).toNat, by omega⟩
  have hand : bits .and .i64 n0 7 = (m : Int) := by rw [and_low n0 7 3 (by omega) (by decide)]; exact hm.symm
  have hm7 : m ≤ 7 := by omega
  have mixed : Tryz.prog.follows .mixedOrders = true := by kernel_rfl
  clear hS hg hn hls hs0 hSl hbS hm
  go_enter Tryz.func5, Tryz.ntmps5
  go_wp2_with fail
  refine (shown_any w HG.out).mono ?_
  rintro e w1 ⟨rfl, hb1⟩
  have HB1 : Hid (Below w.heap.size w w1) := hb1
  clear hb1
  go_wp2_with fail
  cases hp : parseT S with
  | inl out =>
    have HPO : Hid (Calls Tryz.prog 14 #[.string bS] w1 fun e w' => Below w1.heap.size w1 w' ∧ ∃ a cap, e = .returned (.tuple #[.slice a out.length cap, .nilIface])) := by
      rw [HBS.out]
      refine (parse_ok S out w1 hp HSR.out (by have := HSL.out; omega) (HG.out.later HB1.out)).mono ?_
      rintro e w' ⟨hb, a, cap, rfl, _⟩
      exact ⟨hb, a, cap, rfl⟩
    clear hp
    refine HPO.out.mono ?_
    rintro e w2 ⟨hb2, a, cap, rfl⟩
    have HB2 : Hid (Below w.heap.size w w2) := HB1.out.trans (hb2.mono HB1.out.size)
    clear hb2
    go_wp2_with fail
    refine (line_nil w2).mono ?_
    rintro e w3 ⟨rfl, hb3⟩
    have HB3 : Hid (Below w.heap.size w w3) := HB2.out.trans (hb3.mono HB2.out.size)
    clear hb3
    go_wp2
    go_loop [7, 10] (fun x7 x10 => x7 = .nilIface ∧ x10 = .int .i64 0) (fun _ _ => 0)
    case atStart => exact ⟨rfl, rfl⟩
    case round =>
      obtain ⟨hx7, hx10⟩ := hrel
      subst hx7 hx10
      by_cases hm0 : m = 0
      all_goals
        first | subst hm0 | (have hm1 : (0 : Int) < (m : Int) := by omega)
        go_wp2
        go_loopw [11] (fun x11 wr => ∃ k : Nat, 1 ≤ k ∧ k ≤ 9 ∧ x11 = .int .i64 k ∧ RowKit.Below w.heap.size w wr) (fun x11 _ => 9 - (intOf x11).toNat)
        case atStart => exact ⟨1, by omega, by omega, rfl, HB3.out⟩
        case round =>
          obtain ⟨k, hk1, hk9, hx11, hbel⟩ := hrel
          subst hx11
          have HB : Hid (RowKit.Below w.heap.size w wr) := hbel
          clear hbel
          by_cases hk8 : k ≤ 8
          · have HSY : Hid (∀ W : World, Calls Tryz.prog 9 #[.nilIface, .int .i64 k] W fun e w' => e = .returned (.bool false) ∧ ∃ q os', w' = grow (W.drewN q) os') := by
              intro W
              refine (says_nil k W).mono ?_
              rintro e w' ⟨rfl, rfl⟩
              exact ⟨rfl, 0, #[], by rw [grow_empty]; rfl⟩
            go_upto_region 11 with fail
            go_quiet_grown (first | (go_at_call 9; refine Calls.grown_of (HSY.out _)))
            go_wp2
            go_roundw
            case rel => exact ⟨k + 1, by omega, by omega, by go_num, HB.out.trans ((below_grow wr _ _).mono HB.out.size)⟩
            case measure => simp [intOf]; omega
          · obtain rfl : k = 9 := by omega
            go_wp2
            go_ret
            exact ⟨rfl, HB.out⟩
  | inr p =>
    obtain ⟨ln, en⟩ := p
    have hrng := parse_rng S ln en hp
    have he1 : 1 ≤ en := hrng.2.2.1
    have he8 : en ≤ 8 := hrng.2.2.2
    have HBP1 : Hid (BadP w bS ln en) := bad_of w HG.out S bS ln en HBS.out hp HSR.out (by have := HSL.out; omega)
    clear hp hrng
    refine (HBP1.out w1 HB1.out).mono ?_
    rintro e w2 ⟨hb2, p, rfl, hl2, hea⟩
    have HB2 : Hid (Below w.heap.size w w2) := HB1.out.trans (hb2.mono HB1.out.size)
    have HL2 : Hid (LineP w2 p ln en) := hl2
    have HE2 : Hid (Ch w2 en (.iface 76 (.pointer (some ⟨p, 0, none⟩))) 2) := ch_of hea
    clear hb2 hl2 hea
    go_wp2_with fail
    refine (HL2.out w2 (Below.refl _ _)).mono ?_
    rintro e w3 ⟨rfl, hb3⟩
    have HB3 : Hid (Below w.heap.size w w3) := HB2.out.trans (hb3.mono HB2.out.size)
    have HE3 : Hid (Ch w3 en (.iface 76 (.pointer (some ⟨p, 0, none⟩))) 2) := HE2.out.later hb3
    clear hb3
    go_wp2
    go_loop [7, 10] (fun x7 x10 => ∃ i d : Nat, i ≤ m ∧ x10 = .int .i64 i ∧ Ch w3 en x7 d) (fun _ x10 => m - (intOf x10).toNat)
    case atStart => exact ⟨0, 2, by omega, rfl, HE3.out⟩
    case round =>
      obtain ⟨i, d, hi, hx10, hch⟩ := hrel
      subst hx10
      have HCH : Hid (Ch w3 en u7 d) := hch
      obtain ⟨t1, v1, hx7⟩ := hch.iface
      subst hx7
      clear hch
      by_cases hlt : i < m
      · have HNX : Hid (Ch w3 en (.iface 34 (.agg #[.iface t1 v1])) (d + 1)) := .wrap _ _ HCH.out
        go_wp2
        go_round
        case rel => exact ⟨i + 1, d + 1, by omega, by go_num, HNX.out⟩
        case measure => simp [intOf]; omega
      · obtain rfl : i = m := by omega
        go_wp2
        go_loopw [11] (fun x11 wr => ∃ k : Nat, 1 ≤ k ∧ k ≤ 9 ∧ x11 = .int .i64 k ∧ RowKit.Below w3.heap.size w3 wr) (fun x11 _ => 9 - (intOf x11).toNat)
        case atStart => exact ⟨1, by omega, by omega, rfl, Below.refl _ _⟩
        case round =>
          obtain ⟨k, hk1, hk9, hx11, hbel⟩ := hrel
          subst hx11
          have HB : Hid (RowKit.Below w3.heap.size w3 wr) := hbel
          clear hbel
          by_cases hk8 : k ≤ 8
          · have HSY : Hid (∀ nn os, Calls Tryz.prog 9 #[.iface t1 v1, .int .i64 k] (grow (wr.drewN nn) os) fun e w' => e = .returned (.bool (en == k)) ∧ ∃ q os', w' = grow ((grow (wr.drewN nn) os).drewN q) os') := by
              intro nn os
              refine (says_ch en k _ d _ (HCH.out.later (HB.out.trans ((below_grow wr nn os).mono HB.out.size)))).mono ?_
              rintro e w' ⟨rfl, os', rfl⟩
              exact ⟨rfl, 0, os', grow0 _ _⟩
            have HRB : Hid (∀ nn os, RowKit.Below w3.heap.size w3 (grow (wr.drewN nn) os)) := fun nn os => HB.out.trans ((below_grow wr nn os).mono HB.out.size)
            by_cases hek : en = k
            · rw [show (en == (k : Int)) = true by simpa using hek] at HSY
              subst hek
              go_upto_region 11 with fail
              go_quiet_grown (first | (go_at_call 9; refine Calls.grown_of (HSY.out _ _)))
              go_wp2
              go_roundw
              case rel => exact ⟨k + 1, by omega, by omega, by go_num, HRB.out _ _⟩
              case measure => simp [intOf]; omega
            · rw [show (en == (k : Int)) = false by simpa using hek] at HSY
              have hek2 : ((k : Int) == en) = false := by simpa using fun h => hek h.symm
              go_upto_region 11 with fail
              go_quiet_grown (first | (go_at_call 9; refine Calls.grown_of (HSY.out _ _)))
              go_wp2
              go_roundw
              case rel => exact ⟨k + 1, by omega, by omega, by go_num, HRB.out _ _⟩
              case measure => simp [intOf]; omega
          · obtain rfl : k = 9 := by omega
            have hen0 : (en == 0) = false := by simpa using (by omega : ¬ en = 0)
            go_wp2
            go_ret
            exact ⟨rfl, HB3.out.trans (HB.out.mono HB3.out.size)⟩
end Go.Proofs.YtchdklbekfdgdabGreatDoor
