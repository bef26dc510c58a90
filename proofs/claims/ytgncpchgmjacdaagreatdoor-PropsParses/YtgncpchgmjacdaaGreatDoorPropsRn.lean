/- The walks of the reference's number, One: the range of a line. -/
import Derived.Test.YtgncpchgmjacdaaGreatDoorPropsRl
namespace Go.Proofs.YtgncpchgmjacdaaGreatDoor
open Go.RowKit
set_option linter.unusedVariables false

/-- What number answers. -/
def nm2 (bs : List Int) : Int × Nat := (numAt bs).getD (0, 0)
theorem hexs_at (bs : List Int) (k : Nat) (hk : k ≤ bs.length) (h : ∀ c ∈ bs.take k, isHex c = true) (he : k < bs.length → isHex (bs.getD k 0) = false) : hexs bs = bs.take k := by
  conv => lhs; rw [← List.take_append_drop k bs]
  refine hexs_run _ _ h fun c hc => ?_
  have hk' : k < bs.length := by
    rcases Nat.lt_or_ge k bs.length with h | h
    · exact h
    · rw [List.drop_of_length_le h] at hc; cases hc
  have := he hk'
  rw [List.head?_drop] at hc
  rw [List.getElem?_eq_getElem hk'] at hc
  cases hc
  simpa [hk'] using this
theorem hexs_long (bs : List Int) (h7 : 7 ≤ bs.length) (h : ∀ c ∈ bs.take 7, isHex c = true) : 7 ≤ (hexs bs).length := by
  have e : hexs bs = bs.take 7 ++ hexs (bs.drop 7) := by
    unfold hexs
    conv => lhs; rw [← List.take_append_drop 7 bs]
    rw [List.takeWhile_append_of_pos h]
  rw [e]
  simp
  omega
theorem nm2_of (bs : List Int) (k : Nat) (v : Int) (h : RnAt bs k v) (hk : k ≤ bs.length) (hk7 : k ≤ 7) (he : k = 7 ∨ k = bs.length ∨ (k < bs.length ∧ isHex (bs.getD k 0) = false)) :
    (k < 4 ∨ 6 < k → nm2 bs = (0, 0)) ∧ (¬ k < 4 → ¬ 6 < k → nm2 bs = (v, k)) := by
  obtain ⟨h1, h2⟩ := h
  rcases Nat.lt_or_ge 6 k with h7 | h7
  · obtain rfl : k = 7 := by omega
    refine ⟨fun _ => ?_, fun _ h => absurd h (by omega)⟩
    have := hexs_long bs hk h1
    unfold nm2 numAt
    rw [if_neg (by omega)]
    rfl
  · have e := hexs_at bs k hk h1 (fun hlt => by
      rcases he with h | h | h
      · omega
      · omega
      · exact h.2)
    have hl : (hexs bs).length = k := by rw [e]; simp; omega
    refine ⟨fun hc => ?_, fun c1 c2 => ?_⟩
    · unfold nm2 numAt
      rw [if_neg (by omega)]
      rfl
    · unfold nm2 numAt
      rw [if_pos (by omega), hl, e, ← h2]
      rfl
theorem rnAt_zero (bs : List Int) : RnAt bs 0 0 := ⟨by simp, by simp [hval]⟩
theorem rnAt_up (bs : List Int) (k : Nat) (v : Int) (hk : k ≤ 7) (h : RnAt bs k v) : 0 ≤ v ∧ v < 268435456 := by
  have := hval_rng (bs.take k) h.1
  rw [← h.2] at this
  refine ⟨this.1, ?_⟩
  have hl : (bs.take k).length ≤ 7 := by simp; omega
  have : v < 16 ^ (bs.take k).length := this.2
  rcases (by omega : (bs.take k).length = 0 ∨ (bs.take k).length = 1 ∨ (bs.take k).length = 2 ∨ (bs.take k).length = 3 ∨ (bs.take k).length = 4 ∨ (bs.take k).length = 5 ∨ (bs.take k).length = 6 ∨ (bs.take k).length = 7) with e | e | e | e | e | e | e | e <;> rw [e] at this <;> omega

set_option maxHeartbeats 4000000 in
theorem numberR_any (bs : List Int) (w : World) (hr : ∀ y ∈ bs, 0 ≤ y ∧ y ≤ 255) (hm : bs.length ≤ 9223372036854775806) :
    Calls Tryz.prog 74 #[.string (strOfNums bs)] w fun e w' => e = .returned (.tuple #[.int .i64 (nm2 bs).1, .int .i64 ((nm2 bs).2 : Nat)]) ∧ w' = w := by
  have HR : Hid (∀ y ∈ bs, 0 ≤ y ∧ y ≤ 255) := hr
  obtain ⟨s, hs⟩ : ∃ s, s = strOfNums bs := ⟨_, rfl⟩
  have hsz : s.size = bs.length := by rw [hs]; exact strOfNums_size bs
  obtain ⟨n, hn⟩ : ∃ n, n = bs.length := ⟨_, rfl⟩
  rw [← hn] at hsz hm
  rw [← hs]
  have HS : Hid (s = strOfNums bs) := hs
  have HN : Hid (n = bs.length) := hn
  have HXX : Hid (∀ k : Nat, k < n → ∀ W : World, (Instr.index 9 (.string s) (.int .i64 k)).run Tryz.prog W = .ok (.int .u8 (bs.getD k 0)) W) := by
    intro k hk W
    rw [HS.out]
    exact str_at bs k (by rw [← HN.out]; exact hk) HR.out W
  obtain ⟨p1, p2, hP⟩ : ∃ p1 p2, nm2 bs = (p1, p2) := ⟨_, _, rfl⟩
  rw [hP]
  have HP : Hid (nm2 bs = (p1, p2)) := hP
  clear hs hn hr hP
  have HEXIT : Hid (∀ (k : Nat) (v : Int), RnAt bs k v → k ≤ n → k ≤ 7 → (k = 7 ∨ k = n ∨ (k < n ∧ isHex (bs.getD k 0) = false)) → (k < 4 ∨ 6 < k → p1 = 0 ∧ p2 = 0) ∧ (¬ k < 4 → ¬ 6 < k → p1 = v ∧ p2 = k)) := by
    intro k v h1 h2 h3 h4
    rw [HN.out] at h2 h4
    have := nm2_of bs k v h1 h2 h3 h4
    rw [HP.out] at this
    exact ⟨fun h => by have := this.1 h; cases this; exact ⟨rfl, rfl⟩, fun c1 c2 => by have := this.2 c1 c2; cases this; exact ⟨rfl, rfl⟩⟩
  go_enter Tryz.func74, Tryz.ntmps74
  go_wp2
  go_loop [4, 5] (fun x4 x5 => ∃ (k : Nat) (v : Int), k ≤ n ∧ k ≤ 7 ∧ x4 = .int .i64 v ∧ x5 = .int .i64 k ∧ RnAt bs k v) (fun _ x5 => n - (intOf x5).toNat)
  case atStart => exact ⟨0, 0, by omega, by omega, rfl, rfl, rnAt_zero bs⟩
  case round =>
    obtain ⟨k, v, hk, hk7, hx4, hx5, hat⟩ := hrel
    subst hx4 hx5
    have hv := rnAt_up bs k v hk7 hat
    have hv0 : 0 ≤ v := hv.1
    have hv1 : v < 268435456 := hv.2
    have HA : Hid (RnAt bs k v) := hat
    clear hat hv
    by_cases hlt : k < n
    · by_cases h7 : k < 7
      · have hix := HXX.out k hlt
        obtain ⟨x, hxd⟩ : ∃ x, x = bs.getD k 0 := ⟨_, rfl⟩
        rw [← hxd] at hix
        have hxr := HR.out x (by rw [hxd]; have := HN.out; simp [show k < bs.length by omega])
        have hx0 : 0 ≤ x := hxr.1
        have hx1 : x ≤ 255 := hxr.2
        have HXD : Hid (x = bs.getD k 0) := hxd
        clear hxd hxr
        have HHEX : Hid (isHex x = true → RnAt bs (k + 1) (v * 16 + hexv x)) := fun h => rnAt_step bs k v x (by rw [← HN.out]; exact hlt) HA.out HXD.out h
        have HNOT : Hid (isHex x = false → (k < 4 ∨ 6 < k → p1 = 0 ∧ p2 = 0) ∧ (¬ k < 4 → ¬ 6 < k → p1 = v ∧ p2 = k)) := fun h => HEXIT.out k v HA.out (by omega) (by omega) (.inr (.inr ⟨hlt, by rw [← HXD.out]; exact h⟩))
        by_cases a1 : 65 ≤ x ∧ x ≤ 70
        · obtain ⟨b1, b2⟩ := a1
          have HJ : Hid (RnAt bs (k + 1) (v * 16 + (x - 65 + 10))) := by
            have := HHEX.out (by unfold isHex; simp [b1, b2])
            unfold hexv at this
            rw [if_neg (by omega)] at this
            rw [show x - 65 + 10 = x - 55 by omega]; exact this
          go_wp2
          go_round
          case rel => exact ⟨k + 1, _, by omega, by omega, rfl, by go_num, by first | exact HJ.out | (go_num; exact HJ.out)⟩
          case measure => simp [intOf]; omega
        · by_cases a2 : 48 ≤ x ∧ x ≤ 57
          · obtain ⟨b1, b2⟩ := a2
            have HJ : Hid (RnAt bs (k + 1) (v * 16 + (x - 48))) := by
              have := HHEX.out (by unfold isHex; simp [b1, b2])
              unfold hexv at this
              rw [if_pos (by omega)] at this
              exact this
            have c1 : ¬ 65 ≤ x := by omega
            go_wp2
            go_round
            case rel => exact ⟨k + 1, _, by omega, by omega, rfl, by go_num, by first | exact HJ.out | (go_num; exact HJ.out)⟩
            case measure => simp [intOf]; omega
          · have hh : isHex x = false := by
              unfold isHex
              rw [Bool.or_eq_false_iff]
              constructor
              · rw [Bool.and_eq_false_iff]
                by_cases h : 48 ≤ x
                · right; exact decide_eq_false fun h2 => a2 ⟨h, h2⟩
                · left; exact decide_eq_false h
              · rw [Bool.and_eq_false_iff]
                by_cases h : 65 ≤ x
                · right; exact decide_eq_false fun h2 => a1 ⟨h, h2⟩
                · left; exact decide_eq_false h
            obtain ⟨e1, e2⟩ := HNOT.out hh
            have HE1 : Hid (k < 4 ∨ 6 < k → p1 = 0 ∧ p2 = 0) := e1
            have HE2 : Hid (¬ k < 4 → ¬ 6 < k → p1 = v ∧ p2 = k) := e2
            clear e1 e2 hh
            by_cases h65 : 65 ≤ x <;> by_cases h70 : x ≤ 70 <;> by_cases h48 : 48 ≤ x <;> by_cases h57 : x ≤ 57 <;> try omega
            all_goals
              by_cases k4 : k < 4
              · obtain ⟨rfl, rfl⟩ := HE1.out (.inl k4)
                go_wp2
                go_ret2
                exact ⟨rfl, rfl⟩
              · obtain ⟨rfl, rfl⟩ := HE2.out k4 (by omega)
                go_wp2
                go_ret2
                exact ⟨rfl, rfl⟩
      · obtain ⟨rfl, rfl⟩ := (HEXIT.out k v HA.out hk hk7 (.inl (by omega))).1 (.inr (by omega))
        obtain rfl : k = 7 := by omega
        go_wp2
        go_ret2
        exact ⟨rfl, rfl⟩
    · obtain ⟨e1, e2⟩ := HEXIT.out k v HA.out hk hk7 (.inr (.inl (by omega)))
      have HE1 : Hid (k < 4 ∨ 6 < k → p1 = 0 ∧ p2 = 0) := e1
      have HE2 : Hid (¬ k < 4 → ¬ 6 < k → p1 = v ∧ p2 = k) := e2
      clear e1 e2
      by_cases k4 : k < 4
      · obtain ⟨rfl, rfl⟩ := HE1.out (.inl k4)
        go_wp2
        go_ret2
        exact ⟨rfl, rfl⟩
      · by_cases k6 : 6 < k
        · obtain ⟨rfl, rfl⟩ := HE1.out (.inr k6)
          go_wp2
          go_ret2
          exact ⟨rfl, rfl⟩
        · obtain ⟨rfl, rfl⟩ := HE2.out k4 k6
          go_wp2
          go_ret2
          exact ⟨rfl, rfl⟩

theorem results_tmp4 {fn : Func} {t u v x : Tmp} (h : fn.results = #[.tmp t, .tmp u, .tmp v, .tmp x]) (tmps : Array Value) (P : Program) (w : World) :
    (results fn tmps).run P w = .ok (.tuple #[tmps.getD t undef, tmps.getD u undef, tmps.getD v undef, tmps.getD x undef]) w := by
  simp [results, h]
theorem nm2_num (bs : List Int) (a : Int) (n : Nat) (h : nm2 bs = (a, n)) : (n = 0 → numAt bs = none) ∧ (n ≠ 0 → numAt bs = some (a, n)) ∧ n ≤ bs.length ∧ n ≤ 6 ∧ 0 ≤ a ∧ a < 16777216 := by
  unfold nm2 at h
  cases hn : numAt bs with
  | none =>
    rw [hn] at h
    cases h
    exact ⟨fun _ => rfl, fun h => absurd rfl h, by omega, by omega, by omega, by omega⟩
  | some p =>
    obtain ⟨v, m⟩ := p
    rw [hn] at h
    cases h
    obtain ⟨l, r, h1, h2, h4, h6, hv, hm⟩ := numAt_some bs a n hn
    have hb := hval_rng l h2
    rw [← hv] at hb
    refine ⟨fun h => by omega, fun _ => rfl, by rw [h1, hm]; simp, by omega, hb.1, ?_⟩
    have := hb.2
    rcases (by omega : l.length = 4 ∨ l.length = 5 ∨ l.length = 6) with e | e | e <;> rw [e] at this <;> omega
/-- What One answers. -/
def OnPost (bs : List Int) (w : World) (e : Ending) (w' : World) : Prop :=
  w' = w ∧ ∃ (a b : Int) (nm : List Int) (ok : Bool), e = .returned (.tuple #[.int .i64 a, .int .i64 b, .string (strOfNums nm), .bool ok]) ∧ (ok = true → oneOf bs = some (a, b, nm)) ∧ (ok = false → oneOf bs = none) ∧ (0 ≤ a ∧ a < 16777216) ∧ (0 ≤ b ∧ b < 16777216) ∧ (∀ y ∈ nm, 0 ≤ y ∧ y ≤ 255)
/-- The end of One: behind the numbers. -/
def tl1 (s : List Int) : Bool := match trm s with
  | [] => true
  | c :: _ => decide (c ≠ 59)
theorem tl1_no (s : List Int) (h : tl1 s = true) : clsOf s = none := by
  unfold tl1 at h
  unfold clsOf
  cases e : trm s with
  | nil => rfl
  | cons c r =>
    rw [e] at h
    have hc : c ≠ 59 := by simpa using h
    simp [hc]
theorem tl1_yes (s : List Int) (h : tl1 s = false) : ∃ r, trm s = 59 :: r ∧ clsOf s = if nmOk (trm r) = true then some (trm r) else none := by
  unfold tl1 at h
  split at h
  · cases h
  · rename_i c r e
    have : c = 59 := by simpa using h
    subst this
    refine ⟨r, e, ?_⟩
    unfold clsOf
    rw [e]
    simp
theorem one_none (bs : List Int) (h : numAt bs = none) : oneOf bs = none := by unfold oneOf; rw [h]
theorem one_tail (bs : List Int) (a : Int) (n : Nat) (h : numAt bs = some (a, n)) (h2 : tailOf a (bs.drop n) = none) : oneOf bs = none := by unfold oneOf; rw [h]; simp only []; rw [h2]
theorem one_cls (bs : List Int) (a b : Int) (n : Nat) (r : List Int) (h : numAt bs = some (a, n)) (h2 : tailOf a (bs.drop n) = some (b, r)) : oneOf bs = (clsOf r).map fun nm => (a, b, nm) := by
  unfold oneOf; rw [h]; simp only []; rw [h2]; simp only []
  cases clsOf r <;> rfl

set_option maxHeartbeats 4000000 in
theorem oneR_any (bs : List Int) (w : World) (hr : ∀ y ∈ bs, 0 ≤ y ∧ y ≤ 255) (hm : bs.length ≤ 4000000000) :
    Calls Tryz.prog 44 #[.string (strOfNums bs)] w (OnPost bs w) := by
  have HR : Hid (∀ y ∈ bs, 0 ≤ y ∧ y ≤ 255) := hr
  obtain ⟨a, n, hP⟩ : ∃ a n, nm2 bs = (a, n) := ⟨_, _, rfl⟩
  have hN := numberR_any bs w hr (by omega)
  rw [hP] at hN
  simp only [] at hN
  obtain ⟨n0, n1, n2, n3, n4, n5⟩ := nm2_num bs a n hP
  obtain ⟨s, hs⟩ : ∃ s, s = strOfNums bs := ⟨_, rfl⟩
  rw [← hs] at hN ⊢
  have HNU : Hid (Calls Tryz.prog 74 #[.string s] w fun e w' => e = .returned (.tuple #[.int .i64 a, .int .i64 n]) ∧ w' = w) := hN
  have HS : Hid (s = strOfNums bs) := hs
  have HA : Hid (0 ≤ a ∧ a < 16777216) := ⟨n4, n5⟩
  have HAN : Hid (n ≠ 0 → numAt bs = some (a, n)) := n1
  clear hr hs hN
  by_cases hn0 : n = 0
  · have HNO : Hid (oneOf bs = none) := one_none bs (n0 hn0)
    subst hn0
    clear n0 n1 hP
    go_enter Tryz.func44, Tryz.ntmps44
    go_wp2_with (first | (go_at_call 74; refine HNU.out.mono ?_; rintro e w' ⟨rfl, hw'⟩; obtain rfl : w = w' := hw'.symm))
    (try simp only [Exit.inBlock, Exit.then]); refine bodyPost_ret (results_tmp4 rfl _ _ _) rfl ?_
    exact ⟨rfl, 0, 0, [], false, rfl, (fun h => by cases h), fun _ => HNO.out, by omega, by omega, (fun y hy => by cases hy)⟩
  · have HNA : Hid (numAt bs = some (a, n)) := n1 hn0
    have hnz : ¬ (n : Int) = 0 := by omega
    obtain ⟨r, hrr⟩ : ∃ r, r = bs.drop n := ⟨_, rfl⟩
    have HRD : Hid (r = bs.drop n) := hrr
    have HRR : Hid (∀ y ∈ r, 0 ≤ y ∧ y ≤ 255) := fun y hy => HR.out y (by rw [hrr] at hy; exact List.mem_of_mem_drop hy)
    have hrl : r.length ≤ 4000000000 := by rw [hrr]; simp; omega
    obtain ⟨sr, hsr⟩ : ∃ sr, sr = strOfNums r := ⟨_, rfl⟩
    have HSR : Hid (sr = strOfNums r) := hsr
    have hcut : ∀ W : World, (Instr.slice 9 (.string s) (some (.int .i64 n)) none none).run Tryz.prog W = .ok (.string sr) W := by
      intro W
      rw [HS.out, hsr, hrr]
      exact str_drop bs n n2 W
    have hsz : sr.size = r.length := by rw [hsr]; exact strOfNums_size r
    obtain ⟨l, hl⟩ : ∃ l, l = r.length := ⟨_, rfl⟩
    rw [← hl] at hsz hrl
    have HL : Hid (l = r.length) := hl
    clear n0 n1 hP hrr hsr hl
    -- the end, from whatever is left
    have LAST : Hid (∀ (b : Int) (q : List Int), (0 ≤ b ∧ b < 16777216) → tailOf a r = some (b, q) → (∀ y ∈ q, 0 ≤ y ∧ y ≤ 255) → q.length ≤ 4000000000 →
        (tl1 q = true ∧ oneOf bs = none) ∨ (tl1 q = false ∧ ∃ t, trm q = 59 :: t ∧ (nmOk (trm t) = true → oneOf bs = some (a, b, trm t)) ∧ (nmOk (trm t) = false → oneOf bs = none))) := by
      intro b q hb ht hq hql
      have h1 := one_cls bs a b n q HNA.out (by rw [← HRD.out]; exact ht)
      cases hc : tl1 q with
      | true => left; refine ⟨rfl, ?_⟩; rw [h1, tl1_no q hc]; rfl
      | false =>
        right
        obtain ⟨t, ht1, ht2⟩ := tl1_yes q hc
        refine ⟨rfl, t, ht1, fun h => ?_, fun h => ?_⟩
        · rw [h1, ht2, if_pos h]; rfl
        · rw [h1, ht2, if_neg (by rw [h]; decide)]; rfl
    by_cases h2 : 2 ≤ l
    · obtain ⟨t2, ht2⟩ : ∃ t2, t2 = strOfNums (r.take 2) := ⟨_, rfl⟩
      have hcut2 : ∀ W : World, (Instr.slice 9 (.string sr) none (some (.int .i64 2)) none).run Tryz.prog W = .ok (.string t2) W := by
        intro W
        rw [HSR.out, ht2]
        exact str_take r 2 (by rw [← HL.out]; exact h2) W
      have heq : (t2.toList == [46, 46]) = decide (r.take 2 = [46, 46]) := by
        rw [ht2, show ([46, 46] : List UInt8) = (strOfNums [46, 46]).toList by rw [Lib.toList_data, strOfNums_data]; rfl]
        exact str_eq (r.take 2) [46, 46] (fun y hy => HRR.out y (List.mem_of_mem_take hy)) (by decide)
      clear ht2
      by_cases hdd : r.take 2 = [46, 46]
      · rw [decide_eq_true hdd] at heq
        obtain ⟨r2, hr2⟩ : ∃ r2, r2 = r.drop 2 := ⟨_, rfl⟩
        obtain ⟨s2, hs2⟩ : ∃ s2, s2 = strOfNums r2 := ⟨_, rfl⟩
        have hcut3 : ∀ W : World, (Instr.slice 9 (.string sr) (some (.int .i64 2)) none none).run Tryz.prog W = .ok (.string s2) W := by
          intro W
          rw [HSR.out, hs2, hr2]
          exact str_drop r 2 (by rw [← HL.out]; exact h2) W
        have hr2r : ∀ y ∈ r2, 0 ≤ y ∧ y ≤ 255 := fun y hy => HRR.out y (by rw [hr2] at hy; exact List.mem_of_mem_drop hy)
        have hr2l : r2.length + 2 = l := by rw [hr2, HL.out]; simp; have := HL.out; omega
        obtain ⟨b, m, hP2⟩ : ∃ b m, nm2 r2 = (b, m) := ⟨_, _, rfl⟩
        have hN2 := numberR_any r2 w hr2r (by omega)
        rw [hP2, ← hs2] at hN2
        simp only [] at hN2
        obtain ⟨m0, m1, m2, m3, m4, m5⟩ := nm2_num r2 b m hP2
        have HNU2 : Hid (Calls Tryz.prog 74 #[.string s2] w fun e w' => e = .returned (.tuple #[.int .i64 b, .int .i64 m]) ∧ w' = w) := hN2
        have HB2 : Hid (0 ≤ b ∧ b < 16777216) := ⟨m4, m5⟩
        have HT0 : Hid (tailOf a r = match numAt r2 with | none => none | some p => some (p.1, r.drop (2 + p.2))) := by
          show _ = _
          unfold tailOf
          rw [if_pos hdd, hr2]
          rfl
        clear hN2 hP2 hs2 hdd
        by_cases hm0 : m = 0
        · have HNO : Hid (oneOf bs = none) := one_tail bs a n HNA.out (by rw [← HRD.out, HT0.out, m0 hm0])
          subst hm0
          clear m0 m1 hr2
          go_enter Tryz.func44, Tryz.ntmps44
          go_wp2_with (first | (go_at_call_of 74 (Value.string s); refine HNU.out.mono ?_; rintro e w' ⟨rfl, hw'⟩; obtain rfl : w = w' := hw'.symm) | (go_at_call_of 74 (Value.string s2); refine HNU2.out.mono ?_; rintro e w' ⟨rfl, hw'⟩; obtain rfl : w = w' := hw'.symm))
          (try simp only [Exit.inBlock, Exit.then]); refine bodyPost_ret (results_tmp4 rfl _ _ _) rfl ?_
          exact ⟨rfl, 0, 0, [], false, rfl, (fun h => by cases h), fun _ => HNO.out, by omega, by omega, (fun y hy => by cases hy)⟩
        · have hmz : ¬ (m : Int) = 0 := by omega
          obtain ⟨q, hq⟩ : ∃ q, q = r.drop (2 + m) := ⟨_, rfl⟩
          have HTO : Hid (tailOf a r = some (b, q)) := by show _ = _; rw [HT0.out, m1 hm0, hq]
          have HQR : Hid (∀ y ∈ q, 0 ≤ y ∧ y ≤ 255) := fun y hy => HRR.out y (by rw [hq] at hy; exact List.mem_of_mem_drop hy)
          have HQL : Hid (q.length ≤ 4000000000) := by show q.length ≤ _; rw [hq]; simp; have := HL.out; omega
          obtain ⟨sq, hsq⟩ : ∃ sq, sq = strOfNums q := ⟨_, rfl⟩
          have HQS : Hid (sq = strOfNums q) := hsq
          have hcut4 : ∀ W : World, (Instr.slice 9 (.string sr) (some (.int .i64 (2 + (m : Int)))) none none).run Tryz.prog W = .ok (.string sq) W := by
            intro W
            rw [HSR.out, hsq, hq, show (2 + (m : Int)) = ((2 + m : Nat) : Int) by omega]
            exact str_drop r (2 + m) (by rw [← HL.out]; omega) W
          have hw2 : IntKind.i64.wrap (2 + (m : Int)) = 2 + (m : Int) := by rw [IntKind.wrap_i64]; omega
          clear m0 m1 hr2 hq hsq
          obtain ⟨st, hst⟩ : ∃ st, st = strOfNums (trm q) := ⟨_, rfl⟩
          have HST : Hid (st = strOfNums (trm q)) := hst
          have hTRM := trm_rng q HQR.out
          have HTR0 : Hid (∀ y ∈ trm q, 0 ≤ y ∧ y ≤ 255) := hTRM.1
          have HT1 : Hid (Calls Tryz.prog 73 #[.string sq] w fun e w' => e = .returned (.string st) ∧ w' = w) := by rw [HQS.out, hst]; exact trimRef_any q w HQR.out (by have := HQL.out; omega)
          have HTL : Hid ((trm q).length ≤ 4000000000) := by show (trm q).length ≤ _; have := hTRM.2; have := HQL.out; omega
          clear hst hTRM
          rcases LAST.out b q HB2.out HTO.out HQR.out HQL.out with ⟨ht1, hno⟩ | ⟨ht1, t, ht2, hy1, hy2⟩
          · have HNO : Hid (oneOf bs = none) := hno
            clear hno
            by_cases he : trm q = []
            · have hemp : st.toList.isEmpty = true := by rw [HST.out, he]; exact str_none
              clear he ht1
              go_enter Tryz.func44, Tryz.ntmps44
              go_wp2_with (first | (go_at_call_of 74 (Value.string s); refine HNU.out.mono ?_; rintro e w' ⟨rfl, hw'⟩; obtain rfl : w = w' := hw'.symm) | (go_at_call_of 74 (Value.string s2); refine HNU2.out.mono ?_; rintro e w' ⟨rfl, hw'⟩; obtain rfl : w = w' := hw'.symm) | (go_at_call_of 73 (Value.string sq); refine HT1.out.mono ?_; rintro e w' ⟨rfl, hw'⟩; obtain rfl : w = w' := hw'.symm))
              (try simp only [Exit.inBlock, Exit.then]); refine bodyPost_ret (results_tmp4 rfl _ _ _) rfl ?_
              exact ⟨rfl, 0, 0, [], false, rfl, (fun h => by cases h), fun _ => HNO.out, by omega, by omega, (fun y hy => by cases hy)⟩
            · have hln : 0 < (trm q).length := by cases h : trm q with
                | nil => exact absurd h he
                | cons _ _ => simp
              have hemp : st.toList.isEmpty = false := by rw [HST.out]; exact str_some _ hln
              obtain ⟨x, hx⟩ : ∃ x, x = (trm q).getD 0 0 := ⟨_, rfl⟩
              have hix : ∀ W : World, (Instr.index 9 (.string st) (.int .i64 0)).run Tryz.prog W = .ok (.int .u8 x) W := by intro W; rw [HST.out]; exact str_lit (trm q) 0 0 x rfl hx.symm hln HTR0.out W
              have hx59 : ¬ x = 59 := by
                unfold tl1 at ht1
                rw [hx]
                cases h : trm q with
                | nil => exact absurd h he
                | cons c r => rw [h] at ht1; simpa using ht1
              clear he ht1 hln hx
              go_enter Tryz.func44, Tryz.ntmps44
              go_wp2_with (first | (go_at_call_of 74 (Value.string s); refine HNU.out.mono ?_; rintro e w' ⟨rfl, hw'⟩; obtain rfl : w = w' := hw'.symm) | (go_at_call_of 74 (Value.string s2); refine HNU2.out.mono ?_; rintro e w' ⟨rfl, hw'⟩; obtain rfl : w = w' := hw'.symm) | (go_at_call_of 73 (Value.string sq); refine HT1.out.mono ?_; rintro e w' ⟨rfl, hw'⟩; obtain rfl : w = w' := hw'.symm))
              (try simp only [Exit.inBlock, Exit.then]); refine bodyPost_ret (results_tmp4 rfl _ _ _) rfl ?_
              exact ⟨rfl, 0, 0, [], false, rfl, (fun h => by cases h), fun _ => HNO.out, by omega, by omega, (fun y hy => by cases hy)⟩
          · have hln : 0 < (trm q).length := by rw [ht2]; simp
            have hemp : st.toList.isEmpty = false := by rw [HST.out]; exact str_some _ hln
            have hix : ∀ W : World, (Instr.index 9 (.string st) (.int .i64 0)).run Tryz.prog W = .ok (.int .u8 59) W := by intro W; rw [HST.out]; exact str_lit (trm q) 0 0 59 rfl (by rw [ht2]; rfl) hln HTR0.out W
            obtain ⟨s5, hs5⟩ : ∃ s5, s5 = strOfNums t := ⟨_, rfl⟩
            have hcut5 : ∀ W : World, (Instr.slice 9 (.string st) (some (.int .i64 1)) none none).run Tryz.prog W = .ok (.string s5) W := by intro W; rw [HST.out, hs5, show t = (trm q).drop 1 by rw [ht2]; rfl]; exact str_drop (trm q) 1 hln W
            have htr : ∀ y ∈ t, 0 ≤ y ∧ y ≤ 255 := fun y hy => HTR0.out y (by rw [ht2]; simp [hy])
            have htl : t.length ≤ 4000000000 := by have := HTL.out; rw [ht2] at this; simp at this; omega
            have hTM := trm_rng t htr
            obtain ⟨nm, hnm⟩ : ∃ nm, nm = trm t := ⟨_, rfl⟩
            rw [← hnm] at hTM hy1 hy2
            obtain ⟨s6, hs6⟩ : ∃ s6, s6 = strOfNums nm := ⟨_, rfl⟩
            have HT2 : Hid (Calls Tryz.prog 73 #[.string s5] w fun e w' => e = .returned (.string s6) ∧ w' = w) := by rw [hs5, hs6, hnm]; exact trimRef_any t w htr (by omega)
            obtain ⟨ok, hok⟩ : ∃ ok, ok = nmOk nm := ⟨_, rfl⟩
            have HNM : Hid (Calls Tryz.prog 29 #[.string s6] w fun e w' => e = .returned (.bool ok) ∧ w' = w) := by rw [hs6, hok]; exact nameR_any nm w hTM.1 (by have := hTM.2; omega)
            have HFIN : Hid ((ok = true → oneOf bs = some (a, b, nm)) ∧ (ok = false → oneOf bs = none) ∧ ∀ y ∈ nm, 0 ≤ y ∧ y ≤ 255) := ⟨fun h => hy1 (by rw [← hok]; exact h), fun h => hy2 (by rw [← hok]; exact h), hTM.1⟩
            have HS6 : Hid (s6 = strOfNums nm) := hs6
            clear ht1 ht2 hln htr htl hTM hy1 hy2 hs5 hs6 hnm hok
            go_enter Tryz.func44, Tryz.ntmps44
            go_wp2_with (first | (go_at_call_of 74 (Value.string s); refine HNU.out.mono ?_; rintro e w' ⟨rfl, hw'⟩; obtain rfl : w = w' := hw'.symm) | (go_at_call_of 74 (Value.string s2); refine HNU2.out.mono ?_; rintro e w' ⟨rfl, hw'⟩; obtain rfl : w = w' := hw'.symm) | (go_at_call_of 73 (Value.string sq); refine HT1.out.mono ?_; rintro e w' ⟨rfl, hw'⟩; obtain rfl : w = w' := hw'.symm) | (go_at_call_of 73 (Value.string s5); refine HT2.out.mono ?_; rintro e w' ⟨rfl, hw'⟩; obtain rfl : w = w' := hw'.symm) | (go_at_call 29; refine HNM.out.mono ?_; rintro e w' ⟨rfl, hw'⟩; obtain rfl : w = w' := hw'.symm))
            (try simp only [Exit.inBlock, Exit.then]); refine bodyPost_ret (results_tmp4 rfl _ _ _) rfl ?_
            exact ⟨rfl, a, b, nm, ok, (by rw [← HS6.out]; rfl), HFIN.out.1, HFIN.out.2.1, HA.out, HB2.out, HFIN.out.2.2⟩
      · rw [decide_eq_false hdd] at heq
        have HTO : Hid (tailOf a r = some (a, r)) := by show _ = _; unfold tailOf; rw [if_neg hdd]
        have HQR := HRR
        have HQL : Hid (r.length ≤ 4000000000) := by show r.length ≤ _; rw [← HL.out]; exact hrl
        have HB2 := HA
        clear hdd
        obtain ⟨st, hst⟩ : ∃ st, st = strOfNums (trm r) := ⟨_, rfl⟩
        have HST : Hid (st = strOfNums (trm r)) := hst
        have hTRM := trm_rng r HQR.out
        have HTR0 : Hid (∀ y ∈ trm r, 0 ≤ y ∧ y ≤ 255) := hTRM.1
        have HT1 : Hid (Calls Tryz.prog 73 #[.string sr] w fun e w' => e = .returned (.string st) ∧ w' = w) := by rw [HSR.out, hst]; exact trimRef_any r w HQR.out (by have := HQL.out; omega)
        have HTL : Hid ((trm r).length ≤ 4000000000) := by show (trm r).length ≤ _; have := hTRM.2; have := HQL.out; omega
        clear hst hTRM
        rcases LAST.out a r HB2.out HTO.out HQR.out HQL.out with ⟨ht1, hno⟩ | ⟨ht1, t, ht2, hy1, hy2⟩
        · have HNO : Hid (oneOf bs = none) := hno
          clear hno
          by_cases he : trm r = []
          · have hemp : st.toList.isEmpty = true := by rw [HST.out, he]; exact str_none
            clear he ht1
            go_enter Tryz.func44, Tryz.ntmps44
            go_wp2_with (first | (go_at_call_of 74 (Value.string s); refine HNU.out.mono ?_; rintro e w' ⟨rfl, hw'⟩; obtain rfl : w = w' := hw'.symm) | (go_at_call_of 73 (Value.string sr); refine HT1.out.mono ?_; rintro e w' ⟨rfl, hw'⟩; obtain rfl : w = w' := hw'.symm))
            (try simp only [Exit.inBlock, Exit.then]); refine bodyPost_ret (results_tmp4 rfl _ _ _) rfl ?_
            exact ⟨rfl, 0, 0, [], false, rfl, (fun h => by cases h), fun _ => HNO.out, by omega, by omega, (fun y hy => by cases hy)⟩
          · have hln : 0 < (trm r).length := by cases h : trm r with
              | nil => exact absurd h he
              | cons _ _ => simp
            have hemp : st.toList.isEmpty = false := by rw [HST.out]; exact str_some _ hln
            obtain ⟨x, hx⟩ : ∃ x, x = (trm r).getD 0 0 := ⟨_, rfl⟩
            have hix : ∀ W : World, (Instr.index 9 (.string st) (.int .i64 0)).run Tryz.prog W = .ok (.int .u8 x) W := by intro W; rw [HST.out]; exact str_lit (trm r) 0 0 x rfl hx.symm hln HTR0.out W
            have hx59 : ¬ x = 59 := by
              unfold tl1 at ht1
              rw [hx]
              cases h : trm r with
              | nil => exact absurd h he
              | cons c r => rw [h] at ht1; simpa using ht1
            clear he ht1 hln hx
            go_enter Tryz.func44, Tryz.ntmps44
            go_wp2_with (first | (go_at_call_of 74 (Value.string s); refine HNU.out.mono ?_; rintro e w' ⟨rfl, hw'⟩; obtain rfl : w = w' := hw'.symm) | (go_at_call_of 73 (Value.string sr); refine HT1.out.mono ?_; rintro e w' ⟨rfl, hw'⟩; obtain rfl : w = w' := hw'.symm))
            (try simp only [Exit.inBlock, Exit.then]); refine bodyPost_ret (results_tmp4 rfl _ _ _) rfl ?_
            exact ⟨rfl, 0, 0, [], false, rfl, (fun h => by cases h), fun _ => HNO.out, by omega, by omega, (fun y hy => by cases hy)⟩
        · have hln : 0 < (trm r).length := by rw [ht2]; simp
          have hemp : st.toList.isEmpty = false := by rw [HST.out]; exact str_some _ hln
          have hix : ∀ W : World, (Instr.index 9 (.string st) (.int .i64 0)).run Tryz.prog W = .ok (.int .u8 59) W := by intro W; rw [HST.out]; exact str_lit (trm r) 0 0 59 rfl (by rw [ht2]; rfl) hln HTR0.out W
          obtain ⟨s5, hs5⟩ : ∃ s5, s5 = strOfNums t := ⟨_, rfl⟩
          have hcut5 : ∀ W : World, (Instr.slice 9 (.string st) (some (.int .i64 1)) none none).run Tryz.prog W = .ok (.string s5) W := by intro W; rw [HST.out, hs5, show t = (trm r).drop 1 by rw [ht2]; rfl]; exact str_drop (trm r) 1 hln W
          have htr : ∀ y ∈ t, 0 ≤ y ∧ y ≤ 255 := fun y hy => HTR0.out y (by rw [ht2]; simp [hy])
          have htl : t.length ≤ 4000000000 := by have := HTL.out; rw [ht2] at this; simp at this; omega
          have hTM := trm_rng t htr
          obtain ⟨nm, hnm⟩ : ∃ nm, nm = trm t := ⟨_, rfl⟩
          rw [← hnm] at hTM hy1 hy2
          obtain ⟨s6, hs6⟩ : ∃ s6, s6 = strOfNums nm := ⟨_, rfl⟩
          have HT2 : Hid (Calls Tryz.prog 73 #[.string s5] w fun e w' => e = .returned (.string s6) ∧ w' = w) := by rw [hs5, hs6, hnm]; exact trimRef_any t w htr (by omega)
          obtain ⟨ok, hok⟩ : ∃ ok, ok = nmOk nm := ⟨_, rfl⟩
          have HNM : Hid (Calls Tryz.prog 29 #[.string s6] w fun e w' => e = .returned (.bool ok) ∧ w' = w) := by rw [hs6, hok]; exact nameR_any nm w hTM.1 (by have := hTM.2; omega)
          have HFIN : Hid ((ok = true → oneOf bs = some (a, a, nm)) ∧ (ok = false → oneOf bs = none) ∧ ∀ y ∈ nm, 0 ≤ y ∧ y ≤ 255) := ⟨fun h => hy1 (by rw [← hok]; exact h), fun h => hy2 (by rw [← hok]; exact h), hTM.1⟩
          have HS6 : Hid (s6 = strOfNums nm) := hs6
          clear ht1 ht2 hln htr htl hTM hy1 hy2 hs5 hs6 hnm hok
          go_enter Tryz.func44, Tryz.ntmps44
          go_wp2_with (first | (go_at_call_of 74 (Value.string s); refine HNU.out.mono ?_; rintro e w' ⟨rfl, hw'⟩; obtain rfl : w = w' := hw'.symm) | (go_at_call_of 73 (Value.string sr); refine HT1.out.mono ?_; rintro e w' ⟨rfl, hw'⟩; obtain rfl : w = w' := hw'.symm) | (go_at_call_of 73 (Value.string s5); refine HT2.out.mono ?_; rintro e w' ⟨rfl, hw'⟩; obtain rfl : w = w' := hw'.symm) | (go_at_call 29; refine HNM.out.mono ?_; rintro e w' ⟨rfl, hw'⟩; obtain rfl : w = w' := hw'.symm))
          (try simp only [Exit.inBlock, Exit.then]); refine bodyPost_ret (results_tmp4 rfl _ _ _) rfl ?_
          exact ⟨rfl, a, a, nm, ok, (by rw [← HS6.out]; rfl), HFIN.out.1, HFIN.out.2.1, HA.out, HB2.out, HFIN.out.2.2⟩
    · have HTO : Hid (tailOf a r = some (a, r)) := by
        show _ = _
        unfold tailOf
        rw [if_neg (by intro e; have := congrArg List.length e; simp at this; have := HL.out; omega)]
      have HQR := HRR
      have HQL : Hid (r.length ≤ 4000000000) := by show r.length ≤ _; rw [← HL.out]; exact hrl
      have HB2 := HA
      obtain ⟨st, hst⟩ : ∃ st, st = strOfNums (trm r) := ⟨_, rfl⟩
      have HST : Hid (st = strOfNums (trm r)) := hst
      have hTRM := trm_rng r HQR.out
      have HTR0 : Hid (∀ y ∈ trm r, 0 ≤ y ∧ y ≤ 255) := hTRM.1
      have HT1 : Hid (Calls Tryz.prog 73 #[.string sr] w fun e w' => e = .returned (.string st) ∧ w' = w) := by rw [HSR.out, hst]; exact trimRef_any r w HQR.out (by have := HQL.out; omega)
      have HTL : Hid ((trm r).length ≤ 4000000000) := by show (trm r).length ≤ _; have := hTRM.2; have := HQL.out; omega
      clear hst hTRM
      rcases LAST.out a r HB2.out HTO.out HQR.out HQL.out with ⟨ht1, hno⟩ | ⟨ht1, t, ht2, hy1, hy2⟩
      · have HNO : Hid (oneOf bs = none) := hno
        clear hno
        by_cases he : trm r = []
        · have hemp : st.toList.isEmpty = true := by rw [HST.out, he]; exact str_none
          clear he ht1
          go_enter Tryz.func44, Tryz.ntmps44
          go_wp2_with (first | (go_at_call_of 74 (Value.string s); refine HNU.out.mono ?_; rintro e w' ⟨rfl, hw'⟩; obtain rfl : w = w' := hw'.symm) | (go_at_call_of 73 (Value.string sr); refine HT1.out.mono ?_; rintro e w' ⟨rfl, hw'⟩; obtain rfl : w = w' := hw'.symm))
          (try simp only [Exit.inBlock, Exit.then]); refine bodyPost_ret (results_tmp4 rfl _ _ _) rfl ?_
          exact ⟨rfl, 0, 0, [], false, rfl, (fun h => by cases h), fun _ => HNO.out, by omega, by omega, (fun y hy => by cases hy)⟩
        · have hln : 0 < (trm r).length := by cases h : trm r with
            | nil => exact absurd h he
            | cons _ _ => simp
          have hemp : st.toList.isEmpty = false := by rw [HST.out]; exact str_some _ hln
          obtain ⟨x, hx⟩ : ∃ x, x = (trm r).getD 0 0 := ⟨_, rfl⟩
          have hix : ∀ W : World, (Instr.index 9 (.string st) (.int .i64 0)).run Tryz.prog W = .ok (.int .u8 x) W := by intro W; rw [HST.out]; exact str_lit (trm r) 0 0 x rfl hx.symm hln HTR0.out W
          have hx59 : ¬ x = 59 := by
            unfold tl1 at ht1
            rw [hx]
            cases h : trm r with
            | nil => exact absurd h he
            | cons c r => rw [h] at ht1; simpa using ht1
          clear he ht1 hln hx
          go_enter Tryz.func44, Tryz.ntmps44
          go_wp2_with (first | (go_at_call_of 74 (Value.string s); refine HNU.out.mono ?_; rintro e w' ⟨rfl, hw'⟩; obtain rfl : w = w' := hw'.symm) | (go_at_call_of 73 (Value.string sr); refine HT1.out.mono ?_; rintro e w' ⟨rfl, hw'⟩; obtain rfl : w = w' := hw'.symm))
          (try simp only [Exit.inBlock, Exit.then]); refine bodyPost_ret (results_tmp4 rfl _ _ _) rfl ?_
          exact ⟨rfl, 0, 0, [], false, rfl, (fun h => by cases h), fun _ => HNO.out, by omega, by omega, (fun y hy => by cases hy)⟩
      · have hln : 0 < (trm r).length := by rw [ht2]; simp
        have hemp : st.toList.isEmpty = false := by rw [HST.out]; exact str_some _ hln
        have hix : ∀ W : World, (Instr.index 9 (.string st) (.int .i64 0)).run Tryz.prog W = .ok (.int .u8 59) W := by intro W; rw [HST.out]; exact str_lit (trm r) 0 0 59 rfl (by rw [ht2]; rfl) hln HTR0.out W
        obtain ⟨s5, hs5⟩ : ∃ s5, s5 = strOfNums t := ⟨_, rfl⟩
        have hcut5 : ∀ W : World, (Instr.slice 9 (.string st) (some (.int .i64 1)) none none).run Tryz.prog W = .ok (.string s5) W := by intro W; rw [HST.out, hs5, show t = (trm r).drop 1 by rw [ht2]; rfl]; exact str_drop (trm r) 1 hln W
        have htr : ∀ y ∈ t, 0 ≤ y ∧ y ≤ 255 := fun y hy => HTR0.out y (by rw [ht2]; simp [hy])
        have htl : t.length ≤ 4000000000 := by have := HTL.out; rw [ht2] at this; simp at this; omega
        have hTM := trm_rng t htr
        obtain ⟨nm, hnm⟩ : ∃ nm, nm = trm t := ⟨_, rfl⟩
        rw [← hnm] at hTM hy1 hy2
        obtain ⟨s6, hs6⟩ : ∃ s6, s6 = strOfNums nm := ⟨_, rfl⟩
        have HT2 : Hid (Calls Tryz.prog 73 #[.string s5] w fun e w' => e = .returned (.string s6) ∧ w' = w) := by rw [hs5, hs6, hnm]; exact trimRef_any t w htr (by omega)
        obtain ⟨ok, hok⟩ : ∃ ok, ok = nmOk nm := ⟨_, rfl⟩
        have HNM : Hid (Calls Tryz.prog 29 #[.string s6] w fun e w' => e = .returned (.bool ok) ∧ w' = w) := by rw [hs6, hok]; exact nameR_any nm w hTM.1 (by have := hTM.2; omega)
        have HFIN : Hid ((ok = true → oneOf bs = some (a, a, nm)) ∧ (ok = false → oneOf bs = none) ∧ ∀ y ∈ nm, 0 ≤ y ∧ y ≤ 255) := ⟨fun h => hy1 (by rw [← hok]; exact h), fun h => hy2 (by rw [← hok]; exact h), hTM.1⟩
        have HS6 : Hid (s6 = strOfNums nm) := hs6
        clear ht1 ht2 hln htr htl hTM hy1 hy2 hs5 hs6 hnm hok
        go_enter Tryz.func44, Tryz.ntmps44
        go_wp2_with (first | (go_at_call_of 74 (Value.string s); refine HNU.out.mono ?_; rintro e w' ⟨rfl, hw'⟩; obtain rfl : w = w' := hw'.symm) | (go_at_call_of 73 (Value.string sr); refine HT1.out.mono ?_; rintro e w' ⟨rfl, hw'⟩; obtain rfl : w = w' := hw'.symm) | (go_at_call_of 73 (Value.string s5); refine HT2.out.mono ?_; rintro e w' ⟨rfl, hw'⟩; obtain rfl : w = w' := hw'.symm) | (go_at_call 29; refine HNM.out.mono ?_; rintro e w' ⟨rfl, hw'⟩; obtain rfl : w = w' := hw'.symm))
        (try simp only [Exit.inBlock, Exit.then]); refine bodyPost_ret (results_tmp4 rfl _ _ _) rfl ?_
        exact ⟨rfl, a, a, nm, ok, (by rw [← HS6.out]; rfl), HFIN.out.1, HFIN.out.2.1, HA.out, HB2.out, HFIN.out.2.2⟩
end Go.Proofs.YtgncpchgmjacdaaGreatDoor
