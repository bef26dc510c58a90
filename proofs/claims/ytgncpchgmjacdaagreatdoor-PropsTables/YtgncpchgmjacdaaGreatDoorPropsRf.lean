/- The walks of the reference's Name and Find. -/
import Derived.Test.YtgncpchgmjacdaaGreatDoorPropsR
namespace Go.Proofs.YtgncpchgmjacdaaGreatDoor
open Go.RowKit
set_option linter.unusedVariables false

theorem nmOk_none : nmOk [] = false := rfl
set_option maxHeartbeats 2000000 in
theorem nameR_any (bs : List Int) (w : World) (hr : ∀ y ∈ bs, 0 ≤ y ∧ y ≤ 255) (hm : bs.length ≤ 9223372036854775807) :
    Calls Tryz.prog 29 #[.string (strOfNums bs)] w fun e w' => e = .returned (.bool (nmOk bs)) ∧ w' = w := by
  have HR : Hid (∀ y ∈ bs, 0 ≤ y ∧ y ≤ 255) := hr
  clear hr
  obtain ⟨s, hs⟩ : ∃ s, s = strOfNums bs := ⟨_, rfl⟩
  have hsz : s.size = bs.length := by rw [hs]; exact strOfNums_size bs
  obtain ⟨n, hn⟩ : ∃ n, n = bs.length := ⟨_, rfl⟩
  rw [← hn] at hsz hm
  rw [← hs]
  have HS : Hid (s = strOfNums bs) := hs
  have HN : Hid (n = bs.length) := hn
  have HXX : Hid (∀ k : Nat, k < n → ∀ W : World, (Instr.index 9 (.string s) (.int .i64 k)).run Tryz.prog W = .ok (.int .u8 (bs.getD k 0)) W) := by
    intro k hk W
    rw [HS.out]
    exact str_at bs k (by rw [← HN.out]; exact hk) HR.out W
  obtain ⟨B, hB⟩ : ∃ B, B = nmOk bs := ⟨_, rfl⟩
  rw [← hB]
  have HB : Hid (B = nmOk bs) := hB
  clear hs hn hB
  go_enter Tryz.func29, Tryz.ntmps29
  go_wp2
  go_loop [3] (fun x2 => ∃ k : Nat, k ≤ n ∧ x2 = .int .i64 k ∧ ∀ j, j < k → isNm (bs.getD j 0) = true) (fun x2 => n - (intOf x2).toNat)
  case atStart => exact ⟨0, by omega, rfl, fun j hj => absurd hj (by omega)⟩
  case round =>
    obtain ⟨k, hk, hx2, hat⟩ := hrel
    subst hx2
    have HA : Hid (∀ j, j < k → isNm (bs.getD j 0) = true) := hat
    clear hat
    by_cases hlt : k < n
    · have hix := HXX.out k hlt
      obtain ⟨x, hxd⟩ : ∃ x, x = bs.getD k 0 := ⟨_, rfl⟩
      rw [← hxd] at hix
      have HXD : Hid (x = bs.getD k 0) := hxd
      have HIT : Hid (isNm x = true → ∀ j, j < k + 1 → isNm (bs.getD j 0) = true) := by
        intro h j hj
        rcases Nat.lt_or_ge j k with h2 | h2
        · exact HA.out j h2
        · rw [show j = k by omega, ← HXD.out]; exact h
      have HIF : Hid (isNm x = false → B = false) := by
        intro h
        rw [HB.out]
        exact nmOk_bad bs k (by rw [← HN.out]; exact hlt) (by rw [← HXD.out]; exact h)
      clear hxd
      have HSP : Hid ((65 ≤ x ∧ x ≤ 90) ∨ (97 ≤ x ∧ x ≤ 122) ∨ (48 ≤ x ∧ x ≤ 57) ∨ x = 95 → isNm x = true) := by
        intro h
        unfold isNm
        rcases h with h | h | h | h
        · simp [h.1, h.2]
        · simp [h.1, h.2]
        · simp [h.1, h.2]
        · simp [h]
      have HSN : Hid (¬ ((65 ≤ x ∧ x ≤ 90) ∨ (97 ≤ x ∧ x ≤ 122) ∨ (48 ≤ x ∧ x ≤ 57) ∨ x = 95) → isNm x = false) := by
        intro h
        unfold isNm
        by_cases e : x = 95
        · exact absurd (.inr (.inr (.inr e))) h
        · simp [e]; omega
      by_cases h1 : 65 ≤ x ∧ x ≤ 90
      · obtain ⟨a1, a2⟩ := h1
        have HJ := HIT.out (HSP.out (.inl ⟨a1, a2⟩))
        have HJ' : Hid (∀ j, j < k + 1 → isNm (bs.getD j 0) = true) := HJ
        clear HJ
        go_wp2
        go_round
        case rel => exact ⟨k + 1, by omega, by go_num, HJ'.out⟩
        case measure => simp [intOf]; omega
      · by_cases h2 : 97 ≤ x ∧ x ≤ 122
        · obtain ⟨a1, a2⟩ := h2
          have HJ' : Hid (∀ j, j < k + 1 → isNm (bs.getD j 0) = true) := HIT.out (HSP.out (.inr (.inl ⟨a1, a2⟩)))
          have b1 : 65 ≤ x := by omega
          have b2 : ¬ x ≤ 90 := by omega
          go_wp2
          go_round
          case rel => exact ⟨k + 1, by omega, by go_num, HJ'.out⟩
          case measure => simp [intOf]; omega
        · by_cases h3 : 48 ≤ x ∧ x ≤ 57
          · obtain ⟨a1, a2⟩ := h3
            have HJ' : Hid (∀ j, j < k + 1 → isNm (bs.getD j 0) = true) := HIT.out (HSP.out (.inr (.inr (.inl ⟨a1, a2⟩))))
            have b1 : ¬ 65 ≤ x := by omega
            have b2 : ¬ 97 ≤ x := by omega
            go_wp2
            go_round
            case rel => exact ⟨k + 1, by omega, by go_num, HJ'.out⟩
            case measure => simp [intOf]; omega
          · by_cases h4 : x = 95
            · have HJ' : Hid (∀ j, j < k + 1 → isNm (bs.getD j 0) = true) := HIT.out (HSP.out (.inr (.inr (.inr h4))))
              subst h4
              go_wp2
              go_round
              case rel => exact ⟨k + 1, by omega, by go_num, HJ'.out⟩
              case measure => simp [intOf]; omega
            · have hB' : B = false := HIF.out (HSN.out (by omega))
              subst hB'
              have h5 : (x == 95) = false := by simpa using h4
              by_cases b1 : 65 ≤ x <;> by_cases b2 : x ≤ 90 <;> by_cases b3 : 97 ≤ x <;> by_cases b4 : x ≤ 122 <;> by_cases b5 : 48 ≤ x <;> by_cases b6 : x ≤ 57 <;> try omega
              all_goals
                clear h1 h2 h3
                go_wp2
                go_ret
                exact ⟨rfl, rfl⟩
    · obtain rfl : k = n := by omega
      by_cases h0 : k = 0
      · have hB' : B = false := by
          rw [HB.out, show bs = [] from List.eq_nil_of_length_eq_zero (by rw [← HN.out]; exact h0)]; exact nmOk_none
        subst hB'
        have h00 : ¬ 1 ≤ k := by omega
        go_wp2
        go_ret
        exact ⟨rfl, rfl⟩
      · by_cases h20 : k ≤ 20
        · have hB' : B = true := by
            rw [HB.out]
            exact nmOk_good bs (by rw [← HN.out]; omega) (by rw [← HN.out]; omega) (fun j hj => HA.out j (by rw [← HN.out] at hj; omega))
          subst hB'
          have h00 : 1 ≤ k := by omega
          go_wp2
          go_ret
          refine ⟨ret_bool ?_, rfl⟩
          simp
          omega
        · have hB' : B = false := by
            rw [HB.out]
            exact nmOk_long bs (by rw [← HN.out]; omega)
          subst hB'
          have h00 : 1 ≤ k := by omega
          go_wp2
          go_ret
          refine ⟨ret_bool ?_, rfl⟩
          simp
          omega

set_option maxHeartbeats 1000000 in
theorem find_any (ns : List (List Int)) (s : List Int) (a : Option Addr) (len cap : Nat) (w : World) (hn : Nms ns) (hs : ∀ y ∈ s, 0 ≤ y ∧ y ≤ 255) (hrd : RdS w a len ns) (hm : len ≤ 9223372036854775807) :
    Calls Tryz.prog 30 #[.slice a len cap, .string (strOfNums s)] w fun e w' => e = .returned (.int .i64 (ixOf s ns)) ∧ w' = w := by
  have HN : Hid (Nms ns) := hn
  have HS : Hid (∀ y ∈ s, 0 ≤ y ∧ y ≤ 255) := hs
  have HD : Hid (RdS w a len ns) := hrd
  have HL : Hid (ns.length = len) := hrd.1
  obtain ⟨R, hR⟩ : ∃ R, R = ixOf s ns := ⟨_, rfl⟩
  rw [← hR]
  have HR : Hid (R = ixOf s ns) := hR
  obtain ⟨ss, hss⟩ : ∃ ss, ss = strOfNums s := ⟨_, rfl⟩
  rw [← hss]
  have HSS : Hid (ss = strOfNums s) := hss
  clear hn hs hrd hR hss
  go_enter Tryz.func30, Tryz.ntmps30
  go_wp2
  go_loop [5] (fun x8 => ∃ k : Nat, k ≤ len ∧ x8 = .int .i64 k ∧ ∀ j, j < k → ns.getD j [] ≠ s) (fun x8 => len - (intOf x8).toNat)
  case atStart => exact ⟨0, by omega, rfl, fun j hj => absurd hj (by omega)⟩
  case round =>
    obtain ⟨k, hk, hx8, hat⟩ := hrel
    subst hx8
    have HA : Hid (∀ j, j < k → ns.getD j [] ≠ s) := hat
    clear hat
    by_cases hlt : k < len
    · obtain ⟨b, off, rfl, hcl⟩ := HD.out.2 (by omega)
      have hcc := hcl k hlt
      obtain ⟨xs, hxs⟩ : ∃ xs, xs = strOfNums (ns.getD k []) := ⟨_, rfl⟩
      rw [← hxs] at hcc
      have hat := HN.out.at k (by rw [HL.out]; exact hlt)
      by_cases he : ns.getD k [] = s
      · have hq : (xs.toList == ss.toList) = true := by
          rw [HSS.out, hxs, str_eq (ns.getD k []) s hat.1 HS.out, decide_eq_true_eq]; exact he
        have hR : R = k := HR.out.trans (ix_first s ns k (by rw [HL.out]; exact hlt) he HA.out)
        subst hR
        clear hcl hxs hat he
        go_wp2
        go_ret
        exact ⟨rfl, rfl⟩
      · have hq : (xs.toList == ss.toList) = false := by
          rw [HSS.out, hxs, str_eq (ns.getD k []) s hat.1 HS.out, decide_eq_false_iff_not]; exact he
        have HE : Hid (¬ ns.getD k [] = s) := he
        clear hcl hxs hat he
        go_wp2
        go_round
        case rel =>
          refine ⟨k + 1, by omega, by go_num, fun j hj => ?_⟩
          rcases Nat.lt_or_ge j k with h | h
          · exact HA.out j h
          · rw [show j = k by omega]; exact HE.out
        case measure => simp [intOf]; omega
    · have hR : R = -1 := HR.out.trans (ix_none s ns (fun j hj => HA.out j (by rw [HL.out] at hj; omega)))
      subst hR
      go_wp2
      go_ret
      exact ⟨rfl, rfl⟩
end Go.Proofs.YtgncpchgmjacdaaGreatDoor
