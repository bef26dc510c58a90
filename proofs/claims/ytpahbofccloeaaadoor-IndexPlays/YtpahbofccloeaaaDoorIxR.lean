/- The reference of layer 13 in memory: a plain row; the walks of its Rank, Select, Set. -/
import Derived.Test.YtpahbofccloeaaaDoorIndexBackW
namespace Go.Proofs.YtpahbofccloeaaaDoor
open Go.RowKit
set_option linter.unusedVariables false
set_option linter.unusedSimpArgs false

/-- The reference's row in memory. -/
def RfAt (W : World) (R B : Nat) (u : Value) (M : List Bool) : Prop :=
  W.heap[R]? = some (.cells #[u] 29) ∧ W.ownsRow B 4 1 u M.length (M.map Value.bool) ∧ u.ownBlock ≠ some R ∧ B ≤ R
theorem RfAt.keep {w W : World} {Q : Nat → Prop} {R B : Nat} {u : Value} {M : List Bool} (h : RfAt w R B u M) (hc : Chg w W Q) (hq : ∀ k, OwnX R u k → ¬ Q k) : RfAt W R B u M :=
  ⟨cg_heap hc h.1 (hq R (.inl rfl)), cg_own hc h.2.1 (fun k hk => hq k (.inr hk)), h.2.2⟩
theorem RfAt.cells {W : World} {R B : Nat} {u : Value} {M : List Bool} (h : RfAt W R B u M) : W.cell? ⟨R, 0, none⟩ = some u ∧ W.frozen? ⟨R, 0, none⟩ = false := ⟨cell_of_row W R 0 _ _ _ h.1, Lib.frozen_of_heap h.1 _⟩
set_option maxHeartbeats 1000000 in
theorem refRank_any (R B : Nat) (u : Value) (M : List Bool) (a : Int) (W : World) (h : RfAt W R B u M) (hM : M.length ≤ 100000) :
    Calls Tryd.prog 17 #[.pointer (some ⟨R, 0, none⟩), .int .i64 a] W fun e w' => e = .returned (.int .i64 (rnk M a : Int)) ∧ w' = W := by
  obtain ⟨c0, _⟩ := h.cells
  obtain ⟨sa, cap, rfl, hcap, hnone, hrd⟩ := rdT_own h.2.1
  have HD : Hid (RdT W sa M.length M) := hrd
  have HM : Hid (M.length ≤ 100000) := hM
  obtain ⟨X, hX⟩ : ∃ X : Nat, X = rnk M a := ⟨_, rfl⟩
  rw [← hX]
  have HX : Hid (X = cnt (M.take a.toNat)) := hX
  obtain ⟨N, hN⟩ : ∃ N, N = M.length := ⟨_, rfl⟩
  rw [← hN] at c0
  have HN : Hid (N = M.length) := hN
  clear h hcap hnone hrd hM hX hN
  go_enter Tryd.func17, Tryd.ntmps17
  go_wp2
  go_loopw [6, 5] (fun x6 x5 wr => ∃ i : Nat, x6 = .int .i64 (i : Int) ∧ x5 = .int .i64 (cnt (M.take i) : Int) ∧ i ≤ N ∧ i ≤ a.toNat ∧ wr = W) (fun x6 x5 _ => N - (intOf x6).toNat)
  case atStart => exact ⟨0, rfl, by simp [cnt], by omega, by omega, rfl⟩
  case round =>
    obtain ⟨i, hx6, hx5, hiN, hia, hwr⟩ := hrel
    subst hx6 hx5 hwr
    have hNM := HN.out
    by_cases h1 : i < N
    · have hd1 : decide ((i : Int) < (N : Int)) = true := by apply decide_eq_true; omega
      have hd1' : decide (i < N) = true := by apply decide_eq_true; omega
      by_cases h2 : (i : Int) < a
      · have hd2 : decide ((i : Int) < a) = true := by apply decide_eq_true; omega
        obtain ⟨gb, off, rfl, hc⟩ := HD.out.at i (by omega)
        have hcl := cnt_le (M.take i)
        rw [List.length_take] at hcl
        have hm := HM.out
        have hi0 : (0 : Int) ≤ (i : Int) := by omega
        have hi1 : (i : Int) < (N : Int) := by omega
        have hi2 : (i : Int) + 1 ≤ 100001 := by omega
        have hst : cnt (M.take (i + 1)) = cnt (M.take i) + (M.getD i false).toNat := by
          rw [List.take_add_one, List.getElem?_eq_getElem (by omega), cnt_app]
          simp [cnt, show i < M.length by omega]
        have HQ : Hid (i + 1 ≤ N ∧ i + 1 ≤ a.toNat) := by show _ ∧ _; omega
        have hc5 : (cnt (M.take i) : Int) ≤ 100000 := by omega
        have hc0 : (0 : Int) ≤ (cnt (M.take i) : Int) := by omega
        cases hz : M.getD i false
        · rw [hz] at hc hst
          have hst2 : cnt (M.take (i + 1)) = cnt (M.take i) := by simpa using hst
          have HST : Hid (cnt (M.take (i + 1)) = cnt (M.take i)) := hst2
          clear hst hst2 hz h1 h2 hiN hia hcl hm hNM
          go_wp2_with fail
          go_roundw
          case rel => exact ⟨i + 1, by rw [Int.natCast_add]; rfl, by rw [HST.out], HQ.out.1, HQ.out.2, trivial⟩
          case measure => have := HQ.out; simp [intOf]; omega
        · rw [hz] at hc hst
          have hst2 : cnt (M.take (i + 1)) = cnt (M.take i) + 1 := by simpa using hst
          have HST : Hid (cnt (M.take (i + 1)) = cnt (M.take i) + 1) := hst2
          clear hst hst2 hz h1 h2 hiN hia hcl hm hNM
          go_wp2_with fail
          go_roundw
          case rel => exact ⟨i + 1, by rw [Int.natCast_add]; rfl, by rw [HST.out, Int.natCast_add]; rfl, HQ.out.1, HQ.out.2, trivial⟩
          case measure => have := HQ.out; simp [intOf]; omega
      · have hd2 : decide ((i : Int) < a) = false := by apply decide_eq_false; omega
        have e : i = a.toNat := by omega
        have hXe : cnt (M.take i) = X := by rw [HX.out, e]
        rw [hXe]
        clear h1 h2 hiN hia e hNM HX hXe
        go_wp2_with fail
        go_ret
        exact ⟨rfl, rfl⟩
    · have hd1 : decide ((i : Int) < (N : Int)) = false := by apply decide_eq_false; omega
      have hd1' : decide (i < N) = false := by apply decide_eq_false; omega
      have hXe : cnt (M.take i) = X := by rw [HX.out, List.take_of_length_le (by omega), List.take_of_length_le (by omega)]
      rw [hXe]
      clear h1 hiN hia hNM HX hXe
      go_wp2_with fail
      go_ret
      exact ⟨rfl, rfl⟩
theorem wrap_step (k : Int) (c : Nat) : wrap64 (wrap64 (k - (c : Int)) - 1) = wrap64 (k - ((c + 1 : Nat) : Int)) := by unfold wrap64; omega
theorem wrap_zero (k : Int) (c : Nat) (h1 : -9223372036854775808 ≤ k) (h2 : k ≤ 9223372036854775807) (hc : c ≤ 100000) : wrap64 (k - (c : Int)) = 0 ↔ k = (c : Int) := by unfold wrap64; omega
set_option maxHeartbeats 1000000 in
theorem refSelect_any (R B : Nat) (u : Value) (M : List Bool) (k : Int) (W : World) (h : RfAt W R B u M) (hM : M.length ≤ 100000) (h1 : -9223372036854775808 ≤ k) (h2 : k ≤ 9223372036854775807) :
    Calls Tryd.prog 15 #[.pointer (some ⟨R, 0, none⟩), .int .i64 k] W fun e w' => e = .returned (.tuple #[.int .i64 (selI M k), .bool (selB M k)]) ∧ w' = W := by
  obtain ⟨c0, _⟩ := h.cells
  obtain ⟨sa, cap, rfl, hcap, hnone, hrd⟩ := rdT_own h.2.1
  have HD : Hid (RdT W sa M.length M) := hrd
  have HM : Hid (M.length ≤ 100000) := hM
  have HK : Hid (-9223372036854775808 ≤ k ∧ k ≤ 9223372036854775807) := ⟨h1, h2⟩
  obtain ⟨X, hX⟩ : ∃ X, X = selI M k := ⟨_, rfl⟩
  obtain ⟨Z, hZ⟩ : ∃ Z, Z = selB M k := ⟨_, rfl⟩
  have HX : Hid (X = selI M k ∧ Z = selB M k) := ⟨hX, hZ⟩
  rw [← hX, ← hZ]
  obtain ⟨N, hN⟩ : ∃ N, N = M.length := ⟨_, rfl⟩
  rw [← hN] at c0
  have HN : Hid (N = M.length) := hN
  clear h hcap hnone hrd hM hN h1 h2 hX hZ
  go_enter Tryd.func15, Tryd.ntmps15
  go_wp2
  go_loopw [6, 1] (fun x6 x1 wr => ∃ i : Nat, x6 = .int .i64 (i : Int) ∧ x1 = .int .i64 (wrap64 (k - (cnt (M.take i) : Int))) ∧ i ≤ N ∧ (k < 0 ∨ (cnt (M.take i) : Int) ≤ k) ∧ wr = W) (fun x6 x1 _ => N - (intOf x6).toNat)
  case atStart => exact ⟨0, rfl, by have := HK.out; simp [cnt, wrap64]; omega, by omega, by simp [cnt]; omega, rfl⟩
  case round =>
    obtain ⟨i, hx6, hx1, hiN, hik, hwr⟩ := hrel
    subst hx6 hx1 hwr
    have hNM := HN.out
    by_cases h1 : i < N
    · have hd1 : decide ((i : Int) < (N : Int)) = true := by apply decide_eq_true; omega
      have hd1' : decide (i < N) = true := by apply decide_eq_true; omega
      obtain ⟨gb, off, rfl, hc⟩ := HD.out.at i (by omega)
      have hcl := cnt_le (M.take i)
      rw [List.length_take] at hcl
      have hm := HM.out
      have hi0 : (0 : Int) ≤ (i : Int) := by omega
      have hi1 : (i : Int) < (N : Int) := by omega
      have hi2 : (i : Int) + 1 ≤ 100001 := by omega
      have hst : cnt (M.take (i + 1)) = cnt (M.take i) + (M.getD i false).toNat := by
        rw [List.take_add_one, List.getElem?_eq_getElem (by omega), cnt_app]
        simp [cnt, show i < M.length by omega]
      have hwz := wrap_zero k (cnt (M.take i)) HK.out.1 HK.out.2 (by omega)
      have HQ : Hid (i + 1 ≤ N) := by show _ ≤ _; omega
      cases hz : M.getD i false
      · rw [hz] at hc hst
        have hst2 : cnt (M.take (i + 1)) = cnt (M.take i) := by simpa using hst
        have HST : Hid (cnt (M.take (i + 1)) = cnt (M.take i) ∧ (k < 0 ∨ (cnt (M.take (i + 1)) : Int) ≤ k)) := ⟨hst2, by rw [hst2]; exact hik⟩
        clear hst hst2 hz h1 hiN hik hcl hm hNM hwz
        generalize hy : wrap64 (k - (cnt (M.take i) : Int)) = y
        have HY : Hid (wrap64 (k - (cnt (M.take i) : Int)) = y) := hy
        clear hy
        go_wp2_with fail
        go_roundw
        case rel => exact ⟨i + 1, by rw [Int.natCast_add]; rfl, by rw [HST.out.1, HY.out], HQ.out, HST.out.2, trivial⟩
        case measure => have := HQ.out; simp [intOf]; omega
      · rw [hz] at hc hst
        have hst2 : cnt (M.take (i + 1)) = cnt (M.take i) + 1 := by simpa using hst
        by_cases hk0 : k = (cnt (M.take i) : Int)
        · have hy0 : wrap64 (k - (cnt (M.take i) : Int)) = 0 := hwz.2 hk0
          obtain ⟨s1, s2⟩ := sel_back M i (by omega) hz
          have e : (rnk M (i : Int) : Int) = k := by rw [hk0]; rfl
          rw [e] at s1 s2
          obtain ⟨x1, x2⟩ := HX.out
          rw [s1] at x1
          rw [s2] at x2
          subst x1 x2
          rw [hy0]
          clear hst hst2 hz h1 hiN hik hcl hm hNM hwz hk0 hy0 s1 s2 e HX
          go_wp2_with fail
          go_ret2
          exact ⟨rfl, rfl⟩
        · have hy0 : (wrap64 (k - (cnt (M.take i) : Int)) == 0) = false := by rw [beq_eq_false_iff_ne]; exact fun e => hk0 (hwz.1 e)
          have hst3 := wrap_step k (cnt (M.take i))
          rw [← hst2] at hst3
          have HST : Hid (k < 0 ∨ (cnt (M.take (i + 1)) : Int) ≤ k) := by show _ ∨ _; rw [hst2]; omega
          clear hst hst2 hz h1 hiN hik hcl hm hNM hwz hk0
          generalize wrap64 (k - (cnt (M.take i) : Int)) = y at hy0 hst3
          go_wp2_with fail
          go_roundw
          case rel => exact ⟨i + 1, by rw [Int.natCast_add]; rfl, by first | rw [← hst3] | rfl, HQ.out, HST.out, trivial⟩
          case measure => have := HQ.out; simp [intOf]; omega
    · have hd1 : decide ((i : Int) < (N : Int)) = false := by apply decide_eq_false; omega
      have hd1' : decide (i < N) = false := by apply decide_eq_false; omega
      rw [List.take_of_length_le (by omega)] at hik
      obtain ⟨x1, x2⟩ := HX.out
      have y1 : selI M k = 0 := by unfold selI; rw [if_neg (by omega)]
      have y2 : selB M k = false := by
        unfold selB
        rw [← Bool.decide_and]
        exact decide_eq_false (by omega)
      rw [y1] at x1
      rw [y2] at x2
      subst x1 x2
      clear h1 hiN hik hNM HX y1 y2
      generalize wrap64 (k - (cnt (M.take i) : Int)) = y
      go_wp2_with fail
      go_ret2
      exact ⟨rfl, rfl⟩
end Go.Proofs.YtpahbofccloeaaaDoor
