/- The walks of bare, readNumber, readRange: a line without what does not matter; the number, the range that is written so. -/
import Derived.Test.YtgncpchgmjacdaaGreatDoorPropsL
import Derived.Test.YtgncpchgmjacdaaGreatDoorPropsA
namespace Go.Proofs.YtgncpchgmjacdaaGreatDoor
open Go.RowKit
set_option linter.unusedVariables false

theorem tup2 {a b c d : Value} (h1 : a = c) (h2 : b = d) : Ending.returned (.tuple #[a, b]) = .returned (.tuple #[c, d]) := by rw [h1, h2]
theorem cut1_rng (c : Int) : (bs : List Int) → (∀ y ∈ bs, 0 ≤ y ∧ y ≤ 255) → (∀ y ∈ (cut1 c bs).1, 0 ≤ y ∧ y ≤ 255) ∧ (∀ y ∈ (cut1 c bs).2.1, 0 ≤ y ∧ y ≤ 255) ∧ (cut1 c bs).1.length ≤ bs.length ∧ (cut1 c bs).2.1.length ≤ bs.length := fun bs h => by
  rcases cut1_cases c bs with ⟨e, _⟩ | ⟨l, r, e0, _, e⟩
  · rw [e]; exact ⟨h, by simp, Nat.le_refl _, by simp⟩
  · rw [e]
    refine ⟨fun y hy => h y (by rw [e0]; simp [show y ∈ l from hy]), fun y hy => h y (by rw [e0]; simp [show y ∈ r from hy]), by rw [e0]; simp, by rw [e0]; simp; omega⟩
theorem cut2_rng (bs : List Int) (h : ∀ y ∈ bs, 0 ≤ y ∧ y ≤ 255) : (∀ y ∈ (cut2 bs).1, 0 ≤ y ∧ y ≤ 255) ∧ (∀ y ∈ (cut2 bs).2.1, 0 ≤ y ∧ y ≤ 255) ∧ (cut2 bs).1.length ≤ bs.length ∧ (cut2 bs).2.1.length ≤ bs.length := by
  rcases cut2_cases bs with e | ⟨l, r, e0, e⟩
  · rw [e]; exact ⟨h, by simp, Nat.le_refl _, by simp⟩
  · rw [e]
    refine ⟨fun y hy => h y (by rw [e0]; simp [show y ∈ l from hy]), fun y hy => h y (by rw [e0]; simp [show y ∈ r from hy]), by rw [e0]; simp, by rw [e0]; simp; omega⟩
theorem ltr_rng (bs : List Int) (h : ∀ y ∈ bs, 0 ≤ y ∧ y ≤ 255) : (∀ y ∈ ltr bs, 0 ≤ y ∧ y ≤ 255) ∧ (ltr bs).length ≤ bs.length := by
  obtain ⟨n, h1, h2, _, _⟩ := ltr_drop bs
  rw [h2]
  exact ⟨fun y hy => h y (List.mem_of_mem_drop hy), by simp⟩
theorem rtr_rng (bs : List Int) (h : ∀ y ∈ bs, 0 ≤ y ∧ y ≤ 255) : (∀ y ∈ rtr bs, 0 ≤ y ∧ y ≤ 255) ∧ (rtr bs).length ≤ bs.length := by
  obtain ⟨n, h1, h2⟩ := rtr_take bs
  rw [h2]
  exact ⟨fun y hy => h y (List.mem_of_mem_take hy), by simp; omega⟩
theorem trm_rng (bs : List Int) (h : ∀ y ∈ bs, 0 ≤ y ∧ y ≤ 255) : (∀ y ∈ trm bs, 0 ≤ y ∧ y ≤ 255) ∧ (trm bs).length ≤ bs.length := by
  obtain ⟨a1, a2⟩ := ltr_rng bs h
  obtain ⟨b1, b2⟩ := rtr_rng (ltr bs) a1
  exact ⟨b1, Nat.le_trans b2 a2⟩
theorem cut1_note : (bs : List Int) → (cut1 35 bs).1 = noNote bs
  | [] => rfl
  | x :: r => by
    by_cases h : x = 35
    · simp [cut1, noNote, h]
    · simp only [cut1, h, if_false]
      rw [cut1_note r]
      simp [noNote, h]

theorem bare_any (bs : List Int) (w : World) (hr : ∀ y ∈ bs, 0 ≤ y ∧ y ≤ 255) (hl : bs.length < 4294967281) (hg : Gl w) :
    Calls Tryz.prog 68 #[.string (strOfNums bs)] w fun e w' => e = .returned (.string (strOfNums (trm (noNote bs)))) ∧ Below w.heap.size w w' := by
  obtain ⟨c1, c2, c3, c4⟩ := cut1_rng 35 bs hr
  rw [cut1_note] at c1 c3
  have HC : Hid (∀ y ∈ noNote bs, 0 ≤ y ∧ y ≤ 255) := c1
  have HL : Hid ((noNote bs).length < 4294967281) := by show _ < _; omega
  have HR : Hid (∀ y ∈ bs, 0 ≤ y ∧ y ≤ 255) := hr
  have HG : Hid (Gl w) := hg
  clear c1 c2 c3 c4 hr hg
  go_enter Tryz.func68, Tryz.ntmps68
  go_wp2_with fail
  refine (cut_one 35 (by omega) bs _ HR.out hl HG.out).mono ?_
  rw [show ((35 : Nat) : Int) = 35 from rfl, cut1_note]
  rintro e w1 ⟨rfl, hb1⟩
  have HB1 : Hid (Below w.heap.size w w1) := hb1
  clear hb1
  go_wp2_with fail
  refine (trim_any (noNote bs) _ HC.out HL.out).mono ?_
  rintro e w2 ⟨rfl, hb2⟩
  have HB2 : Hid (Below w.heap.size w w2) := HB1.out.trans (hb2.mono HB1.out.size)
  clear hb2
  go_wp2
  go_ret
  exact ⟨rfl, HB2.out⟩

/-- What readNumber answers. -/
def rn (s : List Int) : Int × Bool := match rnum s with
  | some v => (v, true)
  | none => (0, false)
theorem hval_snoc (l : List Int) (c : Int) : hval (l ++ [c]) = hval l * 16 + hexv c := by
  unfold hval; rw [List.foldl_append]; rfl
theorem hexv_rng (c : Int) (h : isHex c = true) : 0 ≤ hexv c ∧ hexv c ≤ 15 := by
  simp [isHex] at h
  unfold hexv
  split <;> omega
theorem pow16_s (k : Nat) : (16 : Int) ^ (k + 1) = 16 * 16 ^ k := by rw [Int.pow_succ]; omega
theorem hval_rng (l : List Int) (h : ∀ c ∈ l, isHex c = true) : 0 ≤ hval l ∧ hval l < 16 ^ l.length := by
  have key : ∀ n (l : List Int), l.length = n → (∀ c ∈ l, isHex c = true) → 0 ≤ hval l ∧ hval l < 16 ^ l.length := by
    intro n
    induction n with
    | zero =>
      intro l hl _
      have : l = [] := List.eq_nil_of_length_eq_zero hl
      subst this
      exact ⟨by decide, by decide⟩
    | succ n ih =>
      intro l hl hh
      rcases List.eq_nil_or_concat l with rfl | ⟨m, c, rfl⟩
      · simp at hl
      · rw [List.concat_eq_append] at *
        have hm : m.length = n := by simp at hl; omega
        obtain ⟨i1, i2⟩ := ih m hm (fun d hd => hh d (by simp [hd]))
        obtain ⟨j1, j2⟩ := hexv_rng c (hh c (by simp))
        rw [hval_snoc, List.length_append, List.length_singleton, pow16_s]
        omega
  exact key _ l rfl h
theorem take_s (bs : List Int) (k : Nat) (h : k < bs.length) : bs.take (k + 1) = bs.take k ++ [bs.getD k 0] := by
  rw [List.take_add_one]; simp [h]
theorem rn_bad (bs : List Int) (k : Nat) (h : k < bs.length) (hh : isHex (bs.getD k 0) = false) : rn bs = (0, false) := by
  have : rnum bs = none := by
    unfold rnum
    rw [if_neg]
    intro hc
    have := (all_hex bs).1 hc.2.2 (bs.getD k 0) (by simp [h])
    rw [hh] at this
    cases this
  unfold rn; rw [this]
theorem rn_len (bs : List Int) (h : bs.length < 4 ∨ 6 < bs.length) : rn bs = (0, false) := by
  have : rnum bs = none := by
    unfold rnum
    rw [if_neg]
    omega
  unfold rn; rw [this]
theorem rn_good (bs : List Int) (h4 : 4 ≤ bs.length) (h6 : bs.length ≤ 6) (h : ∀ c ∈ bs, isHex c = true) : rn bs = (hval bs, true) := by
  unfold rn; rw [rnum_run bs h h4 h6]
/-- Where readNumber stands: behind k digits, which came to v. -/
def RnAt (bs : List Int) (k : Nat) (v : Int) : Prop := (∀ c ∈ bs.take k, isHex c = true) ∧ v = hval (bs.take k)
theorem rnAt_rng (bs : List Int) (k : Nat) (v : Int) (hk : k ≤ 6) (h : RnAt bs k v) : 0 ≤ v ∧ (k ≤ 5 → v < 1048576) ∧ v < 16777216 := by
  obtain ⟨h1, rfl⟩ := h
  obtain ⟨a1, a2⟩ := hval_rng _ h1
  have hl : (bs.take k).length ≤ k := by simp; omega
  have mono : ∀ a b : Nat, a ≤ b → (16 : Int) ^ a ≤ 16 ^ b := by
    intro a b hab
    have : (16 : Nat) ^ a ≤ 16 ^ b := Nat.pow_le_pow_right (by decide) hab
    exact_mod_cast this
  refine ⟨a1, fun h5 => ?_, ?_⟩
  · have := mono (bs.take k).length 5 (by omega)
    have e : (16 : Int) ^ 5 = 1048576 := by decide
    omega
  · have := mono (bs.take k).length 6 (by omega)
    have e : (16 : Int) ^ 6 = 16777216 := by decide
    omega
theorem rnAt_step (bs : List Int) (k : Nat) (v x : Int) (hk : k < bs.length) (h : RnAt bs k v) (hx : x = bs.getD k 0) (hh : isHex x = true) : RnAt bs (k + 1) (v * 16 + hexv x) := by
  obtain ⟨h1, rfl⟩ := h
  refine ⟨?_, ?_⟩
  · intro c hc
    rw [take_s bs k hk, List.mem_append] at hc
    rcases hc with hc | hc
    · exact h1 c hc
    · simp only [List.mem_singleton] at hc
      rw [hc, ← hx]; exact hh
  · rw [take_s bs k hk, hval_snoc, ← hx]
theorem hidx_hex (x : Int) (h : isHex x = true) : hidx x = hexv x := by unfold hidx; rw [if_pos h]
theorem hidx_no (x : Int) (h : isHex x = false) : hidx x = -1 := by unfold hidx; rw [h]; rfl

set_option maxHeartbeats 1000000 in
theorem readNumber_any (bs : List Int) (w : World) (hr : ∀ y ∈ bs, 0 ≤ y ∧ y ≤ 255) (hm : bs.length ≤ 9223372036854775807) :
    Calls Tryz.prog 105 #[.string (strOfNums bs)] w fun e w' => e = .returned (.tuple #[.int .i32 (rn bs).1, .bool (rn bs).2]) ∧ w' = w := by
  have HR : Hid (∀ y ∈ bs, 0 ≤ y ∧ y ≤ 255) := hr
  clear hr
  obtain ⟨s, hs⟩ : ∃ s, s = strOfNums bs := ⟨_, rfl⟩
  have hsz : s.size = bs.length := by rw [hs]; exact strOfNums_size bs
  obtain ⟨n, hn⟩ : ∃ n, n = bs.length := ⟨_, rfl⟩
  rw [← hn] at hsz hm
  rw [← hs]
  have HS : Hid (s = strOfNums bs) := hs
  have HN : Hid (n = bs.length) := hn
  have HXX : Hid (∀ k : Nat, k < n → ∀ W : World, (Instr.index 9 (.string s) (.int .i64 k)).run Tryz.prog W = .ok (.int .u8 (bs.getD k 0)) W) := by
    intro k hk W
    rw [HS.out]
    exact str_at bs k (by rw [← HN.out]; exact hk) HR.out W
  obtain ⟨⟨r1, r2⟩, hR⟩ : ∃ R, R = rn bs := ⟨_, rfl⟩
  rw [← hR]
  have HB : Hid ((r1, r2) = rn bs) := hR
  clear hs hn hR
  by_cases h4 : n < 4
  · have hB' := HB.out.trans (rn_len bs (by rw [← HN.out]; omega))
    cases hB'
    go_enter Tryz.func105, Tryz.ntmps105
    go_wp2
    go_ret2
    exact ⟨rfl, rfl⟩
  · by_cases h6 : 6 < n
    · have hB' := HB.out.trans (rn_len bs (by rw [← HN.out]; omega))
      cases hB'
      go_enter Tryz.func105, Tryz.ntmps105
      go_wp2
      go_ret2
      exact ⟨rfl, rfl⟩
    · go_enter Tryz.func105, Tryz.ntmps105
      go_wp2
      go_loop [4, 17] (fun x4 x17 => ∃ (k : Nat) (v : Int), k ≤ n ∧ x17 = .int .i64 k ∧ x4 = .int .i32 v ∧ RnAt bs k v) (fun _ x17 => n - (intOf x17).toNat)
      case atStart => exact ⟨0, 0, by omega, rfl, rfl, by simp [RnAt, hval]⟩
      case round =>
        obtain ⟨k, v, hk, hx17, hx4, hat⟩ := hrel
        subst hx17 hx4
        have HA : Hid (RnAt bs k v) := hat
        obtain ⟨v0, v1, v2⟩ := rnAt_rng bs k v (by omega) hat
        clear hat
        by_cases hlt : k < n
        · have hv5 : v < 1048576 := v1 (by omega)
          clear v1 v2
          have hix := HXX.out k hlt
          obtain ⟨x, hxd⟩ : ∃ x, x = bs.getD k 0 := ⟨_, rfl⟩
          rw [← hxd] at hix
          have hxr := HR.out x (by rw [hxd]; have := HN.out; simp [show k < bs.length by omega])
          have hx0 : 0 ≤ x := hxr.1
          have hx1 : x ≤ 255 := hxr.2
          have HXD : Hid (x = bs.getD k 0) := hxd
          clear hxd hxr
          cases hb : isHex x with
          | true =>
            have HBB : Hid (isHex x = true) := hb
            obtain ⟨d0, d1⟩ := hexv_rng x hb
            obtain ⟨d, hd⟩ : ∃ d, d = hexv x := ⟨_, rfl⟩
            rw [← hd] at d0 d1
            have HD : Hid (hidx x = d) := by show hidx x = d; rw [hidx_hex x hb, hd]
            have HST : Hid (RnAt bs (k + 1) (v * 16 + d)) := by
              show RnAt bs (k + 1) (v * 16 + d)
              rw [hd]; exact rnAt_step bs k v x (by rw [← HN.out]; exact hlt) HA.out HXD.out hb
            clear hb hd
            go_wp2_with (first | (go_at_call 141; refine (digit_any x _ hx0 hx1).mono ?_; rw [HD.out]; rintro e w' ⟨rfl, hw'⟩; obtain rfl : w = w' := hw'.symm))
            go_round
            case rel => exact ⟨k + 1, v * 16 + d, by omega, by go_num, by go_num, HST.out⟩
            case measure => simp [intOf]; omega
          | false =>
            have HD : Hid (hidx x = -1) := hidx_no x hb
            have hB' := HB.out.trans (rn_bad bs k (by rw [← HN.out]; exact hlt) (by rw [← HXD.out]; exact hb))
            cases hB'
            clear hb
            go_wp2_with (first | (go_at_call 141; refine (digit_any x _ hx0 hx1).mono ?_; rw [HD.out]; rintro e w' ⟨rfl, hw'⟩; obtain rfl : w = w' := hw'.symm))
            go_ret2
            exact ⟨rfl, rfl⟩
        · obtain rfl : k = n := by omega
          have HT : Hid (bs.take k = bs) := List.take_of_length_le (by rw [← HN.out]; omega)
          have hB' : (r1, r2) = (v, true) := by
            have hA := HA.out
            unfold RnAt at hA
            rw [HT.out] at hA
            rw [HB.out, rn_good bs (by rw [← HN.out]; omega) (by rw [← HN.out]; omega) hA.1, hA.2]
          cases hB'
          go_wp2
          go_ret2
          exact ⟨rfl, rfl⟩
end Go.Proofs.YtgncpchgmjacdaaGreatDoor
