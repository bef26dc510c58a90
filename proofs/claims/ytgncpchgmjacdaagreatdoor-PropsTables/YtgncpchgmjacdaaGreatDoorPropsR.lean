/- Rows of names in memory; the walks of the library's Index and Contains over names, of rightClasses. -/
import Derived.Test.YtgncpchgmjacdaaGreatDoorPropsB
namespace Go.Proofs.YtgncpchgmjacdaaGreatDoor
open Go.RowKit
set_option linter.unusedVariables false

/-- Names are rows of bytes, no longer than a text can be. -/
def Nms (ns : List (List Int)) : Prop := ∀ s ∈ ns, (∀ y ∈ s, 0 ≤ y ∧ y ≤ 255) ∧ s.length ≤ 9223372036854775807
/-- A slice of names that reads as these. -/
def RdS (w : World) (a : Option Addr) (len : Nat) (ns : List (List Int)) : Prop :=
  ns.length = len ∧ (0 < len → ∃ b off, a = some ⟨b, off, none⟩ ∧ ∀ i, i < len → w.cell? ⟨b, off + i, none⟩ = some (.string (strOfNums (ns.getD i []))))
theorem RdS.later {w w' : World} {a : Option Addr} {len : Nat} {ns : List (List Int)} (h : RdS w a len ns) (hb : Below w.heap.size w w') : RdS w' a len ns := by
  refine ⟨h.1, fun hp => ?_⟩
  obtain ⟨b, off, ha, hc⟩ := h.2 hp
  refine ⟨b, off, ha, fun i hi => ?_⟩
  exact (hb.cell (p := ⟨b, off + i, none⟩) (World.block_lt_of_cell? w _ (hc i hi))).trans (hc i hi)
theorem RdS.take {w : World} {a : Option Addr} {len : Nat} {ns : List (List Int)} (h : RdS w a len ns) (n : Nat) (hn : n ≤ len) : RdS w a n (ns.take n) := by
  refine ⟨by have := h.1; simp; omega, fun hp => ?_⟩
  obtain ⟨b, off, ha, hc⟩ := h.2 (by omega)
  refine ⟨b, off, ha, fun i hi => ?_⟩
  rw [hc i (by omega)]
  simp [hi]
theorem Nms.take {ns : List (List Int)} (h : Nms ns) (n : Nat) : Nms (ns.take n) := fun s hs => h s (List.mem_of_mem_take hs)
theorem Nms.at {ns : List (List Int)} (h : Nms ns) (i : Nat) (hi : i < ns.length) : (∀ y ∈ ns.getD i [], 0 ≤ y ∧ y ≤ 255) ∧ (ns.getD i []).length ≤ 9223372036854775807 := h _ (by simp [hi])
/-- The place of a name; -1: it is none of these. -/
def ixOf (s : List Int) : List (List Int) → Int
  | [] => -1
  | x :: r => if x = s then 0 else if ixOf s r = -1 then -1 else ixOf s r + 1
theorem ix_cases (s : List Int) : (ns : List (List Int)) → (ixOf s ns = -1 ∧ s ∉ ns) ∨ ∃ i : Nat, i < ns.length ∧ ixOf s ns = i ∧ ns.getD i [] = s ∧ ∀ j, j < i → ns.getD j [] ≠ s
  | [] => .inl ⟨rfl, by simp⟩
  | x :: r => by
    by_cases h : x = s
    · right; exact ⟨0, by simp, by simp [ixOf, h], by simp [h], fun j hj => absurd hj (by omega)⟩
    · rcases ix_cases s r with ⟨h1, h2⟩ | ⟨i, h1, h2, h3, h4⟩
      · left; exact ⟨by simp [ixOf, h, h1], by simp [h2]; exact fun e => h e.symm⟩
      · right
        refine ⟨i + 1, by simp; omega, ?_, by simpa using h3, fun j hj => ?_⟩
        · unfold ixOf
          rw [if_neg h, if_neg (by omega), h2]
          simp
        · cases j with
          | zero => simpa using h
          | succ j => simpa using h4 j (by omega)
theorem ix_first (s : List Int) (ns : List (List Int)) (i : Nat) (hi : i < ns.length) (h1 : ns.getD i [] = s) (h2 : ∀ j, j < i → ns.getD j [] ≠ s) : ixOf s ns = i := by
  rcases ix_cases s ns with ⟨_, h⟩ | ⟨k, hk, e, h3, h4⟩
  · exact absurd (by rw [← h1]; simp [hi]) h
  · rw [e]
    rcases Nat.lt_trichotomy i k with h | h | h
    · exact absurd h1 (h4 i h)
    · rw [h]
    · exact absurd h3 (h2 k h)
theorem ix_none (s : List Int) (ns : List (List Int)) (h : ∀ j, j < ns.length → ns.getD j [] ≠ s) : ixOf s ns = -1 := by
  rcases ix_cases s ns with ⟨e, _⟩ | ⟨k, hk, _, h3, _⟩
  · exact e
  · exact absurd h3 (h k hk)

set_option maxHeartbeats 1000000 in
theorem index_any (ns : List (List Int)) (s : List Int) (a : Option Addr) (len cap : Nat) (w : World) (hn : Nms ns) (hs : ∀ y ∈ s, 0 ≤ y ∧ y ≤ 255) (hrd : RdS w a len ns) (hm : len ≤ 9223372036854775807) :
    Calls Tryz.prog 84 #[.slice a len cap, .string (strOfNums s)] w fun e w' => e = .returned (.int .i64 (ixOf s ns)) ∧ w' = w := by
  have HN : Hid (Nms ns) := hn
  have HS : Hid (∀ y ∈ s, 0 ≤ y ∧ y ≤ 255) := hs
  have HD : Hid (RdS w a len ns) := hrd
  have HL : Hid (ns.length = len) := hrd.1
  obtain ⟨R, hR⟩ : ∃ R, R = ixOf s ns := ⟨_, rfl⟩
  rw [← hR]
  have HR : Hid (R = ixOf s ns) := hR
  obtain ⟨ss, hss⟩ : ∃ ss, ss = strOfNums s := ⟨_, rfl⟩
  rw [← hss]
  have HSS : Hid (ss = strOfNums s) := hss
  clear hn hs hrd hR hss
  go_enter Tryz.func84, Tryz.ntmps84
  go_wp2
  go_loop [8] (fun x8 => ∃ k : Nat, k ≤ len ∧ x8 = .int .i64 k ∧ ∀ j, j < k → ns.getD j [] ≠ s) (fun x8 => len - (intOf x8).toNat)
  case atStart => exact ⟨0, by omega, rfl, fun j hj => absurd hj (by omega)⟩
  case round =>
    obtain ⟨k, hk, hx8, hat⟩ := hrel
    subst hx8
    have HA : Hid (∀ j, j < k → ns.getD j [] ≠ s) := hat
    clear hat
    by_cases hlt : k < len
    · obtain ⟨b, off, rfl, hcl⟩ := HD.out.2 (by omega)
      have hcc := hcl k hlt
      obtain ⟨xs, hxs⟩ : ∃ xs, xs = strOfNums (ns.getD k []) := ⟨_, rfl⟩
      rw [← hxs] at hcc
      have hat := HN.out.at k (by rw [HL.out]; exact hlt)
      by_cases he : ns.getD k [] = s
      · have hq : (ss.toList == xs.toList) = true := by
          rw [HSS.out, hxs, str_eq s (ns.getD k []) HS.out hat.1, decide_eq_true_eq]; exact he.symm
        have hR : R = k := HR.out.trans (ix_first s ns k (by rw [HL.out]; exact hlt) he HA.out)
        subst hR
        clear hcl hxs hat he
        go_wp2
        go_ret
        exact ⟨rfl, rfl⟩
      · have hq : (ss.toList == xs.toList) = false := by
          rw [HSS.out, hxs, str_eq s (ns.getD k []) HS.out hat.1, decide_eq_false_iff_not]; exact fun h => he h.symm
        have HE : Hid (¬ ns.getD k [] = s) := he
        clear hcl hxs hat he
        go_wp2
        go_round
        case rel =>
          refine ⟨k + 1, by omega, by go_num, fun j hj => ?_⟩
          rcases Nat.lt_or_ge j k with h | h
          · exact HA.out j h
          · rw [show j = k by omega]; exact HE.out
        case measure => simp [intOf]; omega
    · have hR : R = -1 := HR.out.trans (ix_none s ns (fun j hj => HA.out j (by rw [HL.out] at hj; omega)))
      subst hR
      go_wp2
      go_ret
      exact ⟨rfl, rfl⟩

theorem contains_any (ns : List (List Int)) (s : List Int) (a : Option Addr) (len cap : Nat) (w : World) (hn : Nms ns) (hs : ∀ y ∈ s, 0 ≤ y ∧ y ≤ 255) (hrd : RdS w a len ns) (hm : len ≤ 9223372036854775807) :
    Calls Tryz.prog 80 #[.slice a len cap, .string (strOfNums s)] w fun e w' => e = .returned (.bool (decide (s ∈ ns))) ∧ w' = w := by
  have HC : Hid (Calls Tryz.prog 84 #[.slice a len cap, .string (strOfNums s)] w fun e w' => e = .returned (.int .i64 (ixOf s ns)) ∧ w' = w) := index_any ns s a len cap w hn hs hrd hm
  obtain ⟨B, hB⟩ : ∃ B, B = decide (s ∈ ns) := ⟨_, rfl⟩
  rw [← hB]
  rcases ix_cases s ns with ⟨e, h⟩ | ⟨i, hi, e, h3, _⟩
  · rw [decide_eq_false h] at hB
    subst hB
    rw [e] at HC
    clear e h hn hs hrd
    go_enter Tryz.func80, Tryz.ntmps80
    go_wp2_with (first | (go_at_call 84; refine HC.out.mono ?_; rintro e w' ⟨rfl, hw'⟩; obtain rfl : w = w' := hw'.symm))
    go_ret
    exact ⟨rfl, rfl⟩
  · rw [decide_eq_true (show s ∈ ns by rw [← h3]; simp [hi])] at hB
    subst hB
    rw [e] at HC
    have h0 : (0 : Int) ≤ (i : Int) := by omega
    clear e h3 hn hs hrd hi
    go_enter Tryz.func80, Tryz.ntmps80
    go_wp2_with (first | (go_at_call 84; refine HC.out.mono ?_; rintro e w' ⟨rfl, hw'⟩; obtain rfl : w = w' := hw'.symm))
    go_ret
    exact ⟨rfl, rfl⟩

/-- May these be the names of classes? -/
def clsOk (ns : List (List Int)) : Bool := decide (1 ≤ ns.length) && decide (ns.length ≤ 24) && (List.range ns.length).all fun i => nmOk (ns.getD i []) && !decide (ns.getD i [] ∈ ns.take i)
theorem clsOk_bad (ns : List (List Int)) (i : Nat) (hi : i < ns.length) (h : nmOk (ns.getD i []) = false ∨ ns.getD i [] ∈ ns.take i) : clsOk ns = false := by
  unfold clsOk
  have : ((List.range ns.length).all fun i => nmOk (ns.getD i []) && !decide (ns.getD i [] ∈ ns.take i)) = false := by
    rw [List.all_eq_false]
    refine ⟨i, by simp [hi], ?_⟩
    rcases h with h | h
    · rw [h]; simp
    · rw [decide_eq_true h]; simp
  rw [this, Bool.and_false]
theorem clsOk_good (ns : List (List Int)) (h1 : 1 ≤ ns.length) (h2 : ns.length ≤ 24) (h : ∀ i, i < ns.length → nmOk (ns.getD i []) = true ∧ ns.getD i [] ∉ ns.take i) : clsOk ns = true := by
  unfold clsOk
  rw [decide_eq_true h1, decide_eq_true h2, Bool.true_and, Bool.true_and, List.all_eq_true]
  intro i hi
  have := h i (by simpa using hi)
  rw [this.1, decide_eq_false this.2]
  rfl
theorem clsOk_len (ns : List (List Int)) (h : ns.length = 0 ∨ 24 < ns.length) : clsOk ns = false := by
  unfold clsOk
  rcases h with h | h
  · rw [decide_eq_false (show ¬ 1 ≤ ns.length by omega), Bool.false_and, Bool.false_and]
  · rw [decide_eq_false (show ¬ ns.length ≤ 24 by omega), Bool.and_false, Bool.false_and]
theorem cutS_to (a : Option Addr) (len cap n : Nat) (h : n ≤ cap) (W : World) : (Instr.slice 35 (.slice a len cap) none (some (.int .i64 n)) none).run Tryz.prog W = .ok (.slice a n cap) W := by
  have h0 : (0 : Int) ≤ (n : Int) := by omega
  have h1 : (n : Int) ≤ (cap : Int) := by omega
  go_simp

set_option maxHeartbeats 1000000 in
theorem rightClasses_any (ns : List (List Int)) (a : Option Addr) (len cap : Nat) (w : World) (hn : Nms ns) (hrd : RdS w a len ns) (hc : len ≤ cap) (hm : len ≤ 9223372036854775807) :
    Calls Tryz.prog 47 #[.slice a len cap] w fun e w' => e = .returned (.bool (clsOk ns)) ∧ w' = w := by
  have HN : Hid (Nms ns) := hn
  have HD : Hid (RdS w a len ns) := hrd
  have HL : Hid (ns.length = len) := hrd.1
  obtain ⟨R, hR⟩ : ∃ R, R = clsOk ns := ⟨_, rfl⟩
  rw [← hR]
  have HR : Hid (R = clsOk ns) := hR
  clear hn hrd hR
  by_cases h0 : len = 0
  · have hR : R = false := HR.out.trans (clsOk_len ns (by rw [HL.out]; omega))
    subst hR
    subst h0
    go_enter Tryz.func47, Tryz.ntmps47
    go_wp2
    go_ret
    exact ⟨rfl, rfl⟩
  · by_cases h24 : 24 < len
    · have hR : R = false := HR.out.trans (clsOk_len ns (by rw [HL.out]; omega))
      subst hR
      go_enter Tryz.func47, Tryz.ntmps47
      go_wp2
      go_ret
      exact ⟨rfl, rfl⟩
    · have hz0 : ¬ ((len : Int) = 0) := by omega
      have hz1 : ¬ (24 < (len : Int)) := by omega
      have hz2 : decide ((len : Int) = 0) = false := decide_eq_false hz0
      have hz3 : decide (24 < (len : Int)) = false := decide_eq_false hz1
      go_enter Tryz.func47, Tryz.ntmps47
      go_wp2
      go_loop [15] (fun x15 => ∃ k : Nat, k ≤ len ∧ x15 = .int .i64 k ∧ ∀ i, i < k → nmOk (ns.getD i []) = true ∧ ns.getD i [] ∉ ns.take i) (fun x15 => len - (intOf x15).toNat)
      case atStart => exact ⟨0, by omega, rfl, fun j hj => absurd hj (by omega)⟩
      case round =>
        obtain ⟨k, hk, hx15, hat⟩ := hrel
        subst hx15
        have HA : Hid (∀ i, i < k → nmOk (ns.getD i []) = true ∧ ns.getD i [] ∉ ns.take i) := hat
        clear hat
        by_cases hlt : k < len
        · obtain ⟨b, off, rfl, hcl⟩ := HD.out.2 (by omega)
          have hcc := hcl k hlt
          have hat := HN.out.at k (by rw [HL.out]; exact hlt)
          obtain ⟨x, hx⟩ : ∃ x, x = ns.getD k [] := ⟨_, rfl⟩
          rw [← hx] at hcc hat
          have HX : Hid (x = ns.getD k []) := hx
          have HXR : Hid ((∀ y ∈ x, 0 ≤ y ∧ y ≤ 255) ∧ x.length ≤ 9223372036854775807) := hat
          have hcut := cutS_to (some ⟨b, off, none⟩) len cap k (by omega)
          have HCO : Hid (Calls Tryz.prog 80 #[.slice (some ⟨b, off, none⟩) k cap, .string (strOfNums x)] w fun e w' => e = .returned (.bool (decide (x ∈ ns.take k))) ∧ w' = w) :=
            contains_any (ns.take k) x (some ⟨b, off, none⟩) k cap w (HN.out.take k) hat.1 (HD.out.take k (by omega)) (by omega)
          clear hcl hat hx
          cases hnm : nmOk x with
          | false =>
            have HNM : Hid (nmOk x = false) := hnm
            have hR : R = false := HR.out.trans (clsOk_bad ns k (by rw [HL.out]; exact hlt) (.inl (by rw [← HX.out]; exact hnm)))
            subst hR
            clear hnm
            go_wp2_with (first | (go_at_call 79; refine (isName_any x _ HXR.out.1 HXR.out.2).mono ?_; rw [HNM.out]; rintro e w' ⟨rfl, hw'⟩; obtain rfl : w = w' := hw'.symm))
            go_ret
            exact ⟨rfl, rfl⟩
          | true =>
            have HNM : Hid (nmOk x = true) := hnm
            clear hnm
            by_cases hin : x ∈ ns.take k
            · have HIN : Hid (decide (x ∈ ns.take k) = true) := decide_eq_true hin
              have hR : R = false := HR.out.trans (clsOk_bad ns k (by rw [HL.out]; exact hlt) (.inr (by rw [← HX.out]; exact hin)))
              subst hR
              clear hin
              go_wp2_with (first | (go_at_call 79; refine (isName_any x _ HXR.out.1 HXR.out.2).mono ?_; rw [HNM.out]; rintro e w' ⟨rfl, hw'⟩; obtain rfl : w = w' := hw'.symm) | (go_at_call 80; refine HCO.out.mono ?_; rw [HIN.out]; rintro e w' ⟨rfl, hw'⟩; obtain rfl : w = w' := hw'.symm))
              go_ret
              exact ⟨rfl, rfl⟩
            · have HIN : Hid (decide (x ∈ ns.take k) = false) := decide_eq_false hin
              have HNI : Hid (¬ x ∈ ns.take k) := hin
              clear hin
              go_wp2_with (first | (go_at_call 79; refine (isName_any x _ HXR.out.1 HXR.out.2).mono ?_; rw [HNM.out]; rintro e w' ⟨rfl, hw'⟩; obtain rfl : w = w' := hw'.symm) | (go_at_call 80; refine HCO.out.mono ?_; rw [HIN.out]; rintro e w' ⟨rfl, hw'⟩; obtain rfl : w = w' := hw'.symm))
              go_round
              case rel =>
                refine ⟨k + 1, by omega, by go_num, fun j hj => ?_⟩
                rcases Nat.lt_or_ge j k with h | h
                · exact HA.out j h
                · rw [show j = k by omega, ← HX.out]; exact ⟨HNM.out, HNI.out⟩
              case measure => simp [intOf]; omega
        · have hR : R = true := HR.out.trans (clsOk_good ns (by rw [HL.out]; omega) (by rw [HL.out]; omega) (fun i hi => HA.out i (by rw [HL.out] at hi; omega)))
          subst hR
          go_wp2
          go_ret
          exact ⟨rfl, rfl⟩
end Go.Proofs.YtgncpchgmjacdaaGreatDoor
