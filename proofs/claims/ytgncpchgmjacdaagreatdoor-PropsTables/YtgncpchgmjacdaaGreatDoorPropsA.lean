/- The walks of inName, isName: may it be a class name? -/
import Derived.Test.YtgncpchgmjacdaaGreatDoorBasS
import Derived.Test.YtgncpchgmjacdaaGreatDoorPropsQ
namespace Go.Proofs.YtgncpchgmjacdaaGreatDoor
open Go.RowKit
set_option linter.unusedVariables false

theorem inName_any (x : Int) (w : World) (h0 : 0 ≤ x) (h1 : x ≤ 255) :
    Calls Tryz.prog 112 #[.int .u8 x] w fun e w' => e = .returned (.bool (isNm x)) ∧ w' = w := by
  go_enter Tryz.func112, Tryz.ntmps112
  by_cases a1 : 65 ≤ x <;> by_cases a2 : x ≤ 90 <;> by_cases a3 : 97 ≤ x <;> by_cases a4 : x ≤ 122 <;> by_cases a5 : 48 ≤ x <;> by_cases a6 : x ≤ 57 <;> try omega
  all_goals
    go_wp2
    go_ret
    refine ⟨ret_bool ?_, rfl⟩
    simp [isNm, a1, a2, a3, a4, a5, a6]
    try omega

theorem nmOk_long (bs : List Int) (h : 20 < bs.length) : nmOk bs = false := by
  unfold nmOk
  rw [show decide (bs.length ≤ 20) = false by simpa using h, Bool.and_false]
theorem nmOk_bad (bs : List Int) (k : Nat) (hk : k < bs.length) (h : isNm (bs.getD k 0) = false) : nmOk bs = false := by
  unfold nmOk
  have : bs.all isNm = false := by
    rw [List.all_eq_false]
    refine ⟨bs.getD k 0, by simp [hk], by rw [h]; simp⟩
  rw [this]; simp
theorem nmOk_good (bs : List Int) (h1 : 1 ≤ bs.length) (h20 : bs.length ≤ 20) (h : ∀ j, j < bs.length → isNm (bs.getD j 0) = true) : nmOk bs = true := by
  unfold nmOk
  have : bs.all isNm = true := by
    rw [List.all_eq_true]
    intro x hx
    obtain ⟨j, hj, rfl⟩ := List.mem_iff_getElem.1 hx
    have := h j hj
    simpa [hj] using this
  rw [this]
  simp
  omega

set_option maxHeartbeats 1000000 in
theorem isName_any (bs : List Int) (w : World) (hr : ∀ y ∈ bs, 0 ≤ y ∧ y ≤ 255) (hm : bs.length ≤ 9223372036854775807) :
    Calls Tryz.prog 79 #[.string (strOfNums bs)] w fun e w' => e = .returned (.bool (nmOk bs)) ∧ w' = w := by
  have HR : Hid (∀ y ∈ bs, 0 ≤ y ∧ y ≤ 255) := hr
  clear hr
  obtain ⟨s, hs⟩ : ∃ s, s = strOfNums bs := ⟨_, rfl⟩
  have hsz : s.size = bs.length := by rw [hs]; exact strOfNums_size bs
  obtain ⟨n, hn⟩ : ∃ n, n = bs.length := ⟨_, rfl⟩
  rw [← hn] at hsz hm
  rw [← hs]
  have HS : Hid (s = strOfNums bs) := hs
  have HN : Hid (n = bs.length) := hn
  have HX : ∀ k : Nat, k < n → ∀ W : World, (Instr.index 9 (.string s) (.int .i64 k)).run Tryz.prog W = .ok (.int .u8 (bs.getD k 0)) W := by
    intro k hk W
    rw [HS.out]
    exact str_at bs k (by rw [← HN.out]; exact hk) HR.out W
  have HXX : Hid (∀ k : Nat, k < n → ∀ W : World, (Instr.index 9 (.string s) (.int .i64 k)).run Tryz.prog W = .ok (.int .u8 (bs.getD k 0)) W) := HX
  obtain ⟨B, hB⟩ : ∃ B, B = nmOk bs := ⟨_, rfl⟩
  rw [← hB]
  have HB : Hid (B = nmOk bs) := hB
  clear hs hn hB HX
  by_cases h0 : n = 0
  · have he : s.toList.isEmpty = true := by
      rw [HS.out, show bs = [] from List.eq_nil_of_length_eq_zero (by rw [← HN.out]; exact h0)]
      exact str_none
    have hB' : B = false := by
      rw [HB.out, show bs = [] from List.eq_nil_of_length_eq_zero (by rw [← HN.out]; exact h0)]
      rfl
    subst hB'
    go_enter Tryz.func79, Tryz.ntmps79
    go_wp2
    go_ret
    exact ⟨rfl, rfl⟩
  · have he : s.toList.isEmpty = false := by
      rw [HS.out]
      exact str_some bs (by rw [← HN.out]; omega)
    by_cases h20 : 20 < n
    · have hB' : B = false := by
        rw [HB.out]
        exact nmOk_long bs (by rw [← HN.out]; exact h20)
      subst hB'
      go_enter Tryz.func79, Tryz.ntmps79
      go_wp2
      go_ret
      exact ⟨rfl, rfl⟩
    · go_enter Tryz.func79, Tryz.ntmps79
      go_wp2
      go_loop [13] (fun x13 => ∃ k : Nat, k ≤ n ∧ x13 = .int .i64 k ∧ ∀ j, j < k → isNm (bs.getD j 0) = true) (fun x13 => n - (intOf x13).toNat)
      case atStart => exact ⟨0, by omega, rfl, fun j hj => absurd hj (by omega)⟩
      case round =>
        obtain ⟨k, hk, hx13, hat⟩ := hrel
        subst hx13
        have HA : Hid (∀ j, j < k → isNm (bs.getD j 0) = true) := hat
        clear hat
        by_cases hlt : k < n
        · have hix := HXX.out k hlt
          obtain ⟨x, hxd⟩ : ∃ x, x = bs.getD k 0 := ⟨_, rfl⟩
          rw [← hxd] at hix
          have hxr := HR.out x (by rw [hxd]; have := HN.out; simp [show k < bs.length by omega])
          have hx0 : 0 ≤ x := hxr.1
          have hx1 : x ≤ 255 := hxr.2
          have HXD : Hid (x = bs.getD k 0) := hxd
          clear hxd hxr
          cases hb : isNm x with
          | true =>
            have HBB : Hid (isNm x = true) := hb
            clear hb
            go_wp2_with (first | (go_at_call 112; refine (inName_any x _ hx0 hx1).mono ?_; rw [HBB.out]; rintro e w' ⟨rfl, hw'⟩; obtain rfl : w = w' := hw'.symm))
            go_round
            case rel =>
              refine ⟨k + 1, by omega, by go_num, fun j hj => ?_⟩
              rcases Nat.lt_or_ge j k with h | h
              · exact HA.out j h
              · rw [show j = k by omega, ← HXD.out]; exact HBB.out
            case measure => simp [intOf]; omega
          | false =>
            have HBB : Hid (isNm x = false) := hb
            have hB' : B = false := by
              rw [HB.out]
              exact nmOk_bad bs k (by rw [← HN.out]; exact hlt) (by rw [← HXD.out]; exact hb)
            subst hB'
            clear hb
            go_wp2_with (first | (go_at_call 112; refine (inName_any x _ hx0 hx1).mono ?_; rw [HBB.out]; rintro e w' ⟨rfl, hw'⟩; obtain rfl : w = w' := hw'.symm))
            go_ret
            exact ⟨rfl, rfl⟩
        · have hB' : B = true := by
            rw [HB.out]
            refine nmOk_good bs (by rw [← HN.out]; omega) (by rw [← HN.out]; omega) (fun j hj => HA.out j (by rw [← HN.out] at hj; omega))
          subst hB'
          go_wp2
          go_ret
          exact ⟨rfl, rfl⟩
end Go.Proofs.YtgncpchgmjacdaaGreatDoor
