/- The walks of the reference's blank, Trim, Cut: a line without what does not matter. -/
import Derived.Test.YtgncpchgmjacdaaGreatDoorPropsB
namespace Go.Proofs.YtgncpchgmjacdaaGreatDoor
open Go.RowKit
set_option linter.unusedVariables false

theorem blankR_any (x : Int) (w : World) (h0 : 0 ≤ x) (h1 : x ≤ 255) :
    Calls Tryz.prog 108 #[.int .u8 x] w fun e w' => e = .returned (.bool (isBl x)) ∧ w' = w := by
  go_enter Tryz.func108, Tryz.ntmps108
  by_cases a1 : x = 32
  · subst a1
    go_wp2
    go_ret
    exact ⟨rfl, rfl⟩
  · go_wp2
    go_ret
    refine ⟨ret_bool ?_, rfl⟩
    simp [isBl]

theorem ltr_head (r : List Int) (h : ∀ c, r.head? = some c → isBl c = false) : ltr r = r := by
  cases r with
  | nil => rfl
  | cons c r => rw [ltr_cons, h c rfl]; rfl
theorem ltr_dropOne (r : List Int) (hl : 0 < r.length) (h : isBl (r.getD 0 0) = true) : ltr (r.drop 1) = ltr r := by
  cases r with
  | nil => simp at hl
  | cons c r =>
    have h' : isBl c = true := by simpa using h
    rw [ltr_cons, h']
    rfl
theorem rtr_dropOne (r : List Int) (hl : 0 < r.length) (h : isBl (r.getD (r.length - 1) 0) = true) : rtr (r.take (r.length - 1)) = rtr r := by
  have e : r = r.take (r.length - 1) ++ [r.getD (r.length - 1) 0] := by
    rw [← take_s r (r.length - 1) (by omega), show r.length - 1 + 1 = r.length by omega, List.take_length]
  conv => rhs; rw [e, rtr_snoc, if_pos h]
theorem rtr_last (r : List Int) (hl : 0 < r.length) (h : isBl (r.getD (r.length - 1) 0) = false) : rtr r = r := by
  have e : r = r.take (r.length - 1) ++ [r.getD (r.length - 1) 0] := by
    rw [← take_s r (r.length - 1) (by omega), show r.length - 1 + 1 = r.length by omega, List.take_length]
  conv => lhs; rw [e, rtr_snoc, if_neg (by rw [h]; decide)]
  exact e.symm

set_option maxHeartbeats 2000000 in
theorem trimRef_any (bs : List Int) (w : World) (hr : ∀ y ∈ bs, 0 ≤ y ∧ y ≤ 255) (hm : bs.length ≤ 9223372036854775807) :
    Calls Tryz.prog 73 #[.string (strOfNums bs)] w fun e w' => e = .returned (.string (strOfNums (trm bs))) ∧ w' = w := by
  have HR : Hid (∀ y ∈ bs, 0 ≤ y ∧ y ≤ 255) := hr
  have HM : Hid (bs.length ≤ 9223372036854775807) := hm
  clear hr hm
  go_enter Tryz.func73, Tryz.ntmps73
  go_wp2
  go_loop [0] (fun x0 => ∃ r : List Int, x0 = .string (strOfNums r) ∧ ltr r = ltr bs ∧ (∀ y ∈ r, 0 ≤ y ∧ y ≤ 255) ∧ r.length ≤ bs.length) (fun x0 => (match x0 with | .string s => s.size | _ => 0))
  case atStart => exact ⟨bs, rfl, rfl, HR.out, Nat.le_refl _⟩
  case round =>
    obtain ⟨r, hx0, hltr, hrr, hrl⟩ := hrel
    subst hx0
    have HLT : Hid (ltr r = ltr bs) := hltr
    have HRR : Hid (∀ y ∈ r, 0 ≤ y ∧ y ≤ 255) := hrr
    have HRL : Hid (r.length ≤ bs.length) := hrl
    obtain ⟨s, hs⟩ : ∃ s, s = strOfNums r := ⟨_, rfl⟩
    have hsz : s.size = r.length := by rw [hs]; exact strOfNums_size r
    obtain ⟨n, hn⟩ : ∃ n, n = r.length := ⟨_, rfl⟩
    rw [← hn] at hsz
    rw [← hs]
    have HS : Hid (s = strOfNums r) := hs
    have HN : Hid (n = r.length) := hn
    have hmn : n ≤ 9223372036854775807 := by rw [hn]; exact Nat.le_trans hrl HM.out
    clear hltr hrr hrl hs hn
    have HEND : Hid ((∀ c, r.head? = some c → isBl c = false) → trm bs = rtr r) := by
      intro h
      unfold trm
      rw [← HLT.out, ltr_head r h]
    have HSEC : Hid ((∀ c, r.head? = some c → isBl c = false) → True) := fun _ => trivial
    by_cases h0 : n = 0
    · have hrn : r = [] := List.eq_nil_of_length_eq_zero (by rw [← HN.out]; exact h0)
      have he : s.toList.isEmpty = true := by rw [HS.out, hrn]; exact str_none
      have HT : Hid (trm bs = []) := by
        show _ = _
        rw [HEND.out (by rw [hrn]; intro c hc; cases hc), hrn]; rfl
      have HSE : Hid (s = strOfNums []) := by rw [← hrn]; exact HS.out
      clear hrn
      go_wp2
      go_loop [0] (fun x0 => x0 = .string s) (fun _ => 0)
      case atStart => exact rfl
      case round =>
        subst hrel
        go_wp2
        go_ret
        rw [HT.out, ← HSE.out]
        exact ⟨rfl, rfl⟩
    · have he : s.toList.isEmpty = false := by rw [HS.out]; exact str_some r (by rw [← HN.out]; omega)
      obtain ⟨x, hx⟩ : ∃ x, x = r.getD 0 0 := ⟨_, rfl⟩
      have hix : ∀ W : World, (Instr.index 9 (.string s) (.int .i64 0)).run Tryz.prog W = .ok (.int .u8 x) W := by
        intro W
        rw [HS.out]
        exact str_lit r 0 0 x rfl hx.symm (by rw [← HN.out]; omega) HRR.out W
      have hxr := HRR.out x (by rw [hx]; have := HN.out; simp [show 0 < r.length by omega])
      have hx0 : 0 ≤ x := hxr.1
      have hx1 : x ≤ 255 := hxr.2
      have HXD : Hid (x = r.getD 0 0) := hx
      clear hx hxr
      cases hb : isBl x with
      | true =>
        have HBB : Hid (isBl x = true) := hb
        have HNX : Hid (ltr (r.drop 1) = ltr bs) := by
          show _ = _
          rw [ltr_dropOne r (by rw [← HN.out]; omega) (by rw [← HXD.out]; exact hb)]; exact HLT.out
        have hcut : ∀ W : World, (Instr.slice 9 (.string s) (some (.int .i64 1)) none none).run Tryz.prog W = .ok (.string (strOfNums (r.drop 1))) W := by
          intro W
          rw [HS.out]
          exact str_drop r 1 (by rw [← HN.out]; omega) W
        clear hb
        go_wp2_with (first | (go_at_call 108; refine (blankR_any x _ hx0 hx1).mono ?_; rw [HBB.out]; rintro e w' ⟨rfl, hw'⟩; obtain rfl : w = w' := hw'.symm))
        go_round
        case rel => exact ⟨r.drop 1, by simp, HNX.out, fun y hy => HRR.out y (List.mem_of_mem_drop hy), by have := HRL.out; simp; omega⟩
        case measure => simp only []; rw [strOfNums_size, hsz]; simp; rw [← HN.out]; omega
      | false =>
        have HBB : Hid (isBl x = false) := hb
        have HT : Hid (trm bs = rtr r) := by
          refine HEND.out ?_
          intro c hc
          have : r.getD 0 0 = c := by cases r with
            | nil => cases hc
            | cons d r => simp at hc; simp [hc]
          rw [← this, ← HXD.out]; exact hb
        clear hb
        go_wp2_with (first | (go_at_call 108; refine (blankR_any x _ hx0 hx1).mono ?_; rw [HBB.out]; rintro e w' ⟨rfl, hw'⟩; obtain rfl : w = w' := hw'.symm))
        go_loop [0] (fun x0 => ∃ q : List Int, x0 = .string (strOfNums q) ∧ rtr q = trm bs ∧ (∀ y ∈ q, 0 ≤ y ∧ y ≤ 255) ∧ q.length ≤ bs.length) (fun x0 => (match x0 with | .string s => s.size | _ => 0))
        case atStart => exact ⟨r, by rw [← HS.out], HT.out.symm, HRR.out, HRL.out⟩
        case round =>
          obtain ⟨q, hx0', hrt, hqr, hql⟩ := hrel
          subst hx0'
          have HQT : Hid (rtr q = trm bs) := hrt
          have HQR : Hid (∀ y ∈ q, 0 ≤ y ∧ y ≤ 255) := hqr
          have HQL : Hid (q.length ≤ bs.length) := hql
          obtain ⟨t, ht⟩ : ∃ t, t = strOfNums q := ⟨_, rfl⟩
          have htz : t.size = q.length := by rw [ht]; exact strOfNums_size q
          obtain ⟨m, hm⟩ : ∃ m, m = q.length := ⟨_, rfl⟩
          rw [← hm] at htz
          rw [← ht]
          have HTS : Hid (t = strOfNums q) := ht
          have HMN : Hid (m = q.length) := hm
          have hmm : m ≤ 9223372036854775807 := by rw [hm]; exact Nat.le_trans hql HM.out
          clear hrt hqr hql ht hm
          by_cases g0 : m = 0
          · have hqn : q = [] := List.eq_nil_of_length_eq_zero (by rw [← HMN.out]; exact g0)
            have he2 : t.toList.isEmpty = true := by rw [HTS.out, hqn]; exact str_none
            have HFIN : Hid (t = strOfNums (trm bs)) := by
              show _ = _
              rw [HTS.out, ← HQT.out, hqn]; rfl
            clear hqn
            go_wp2
            go_ret
            rw [← HFIN.out]
            exact ⟨rfl, rfl⟩
          · have he2 : t.toList.isEmpty = false := by rw [HTS.out]; exact str_some q (by rw [← HMN.out]; omega)
            obtain ⟨z, hz⟩ : ∃ z, z = q.getD (m - 1) 0 := ⟨_, rfl⟩
            have hkk : ((m - 1 : Nat) : Int) = (m : Int) - 1 := by omega
            have hix2 : ∀ W : World, (Instr.index 9 (.string t) (.int .i64 ((m : Int) - 1))).run Tryz.prog W = .ok (.int .u8 z) W := by
              intro W
              rw [HTS.out, ← hkk, hz]
              exact str_at q (m - 1) (by rw [← HMN.out]; omega) HQR.out W
            have hw1 : IntKind.i64.wrap ((m : Int) - 1) = (m : Int) - 1 := by rw [IntKind.wrap_i64]; omega
            have hzr := HQR.out z (by rw [hz]; have := HMN.out; simp [show m - 1 < q.length by omega])
            have hz0 : 0 ≤ z := hzr.1
            have hz1 : z ≤ 255 := hzr.2
            have HZD : Hid (z = q.getD (q.length - 1) 0) := by rw [← HMN.out]; exact hz
            clear hz hzr
            cases hc : isBl z with
            | true =>
              have HCC : Hid (isBl z = true) := hc
              have HNX : Hid (rtr (q.take (m - 1)) = trm bs) := by
                show _ = _
                rw [HMN.out, rtr_dropOne q (by rw [← HMN.out]; omega) (by rw [← HZD.out]; exact hc)]; exact HQT.out
              have hcut : ∀ W : World, (Instr.slice 9 (.string t) none (some (.int .i64 ((m : Int) - 1))) none).run Tryz.prog W = .ok (.string (strOfNums (q.take (m - 1)))) W := by
                intro W
                rw [HTS.out, ← hkk]
                exact str_take q (m - 1) (by rw [← HMN.out]; omega) W
              clear hc hkk
              go_wp2_with (first | (go_at_call 108; refine (blankR_any z _ hz0 hz1).mono ?_; rw [HCC.out]; rintro e w' ⟨rfl, hw'⟩; obtain rfl : w = w' := hw'.symm))
              go_round
              case rel => exact ⟨q.take (m - 1), rfl, HNX.out, fun y hy => HQR.out y (List.mem_of_mem_take hy), by have := HQL.out; simp; omega⟩
              case measure => simp only []; rw [strOfNums_size, htz]; simp; omega
            | false =>
              have HCC : Hid (isBl z = false) := hc
              have HFIN : Hid (t = strOfNums (trm bs)) := by
                show _ = _
                rw [HTS.out, ← HQT.out, rtr_last q (by rw [← HMN.out]; omega) (by rw [← HZD.out]; exact hc)]
              clear hc hkk
              go_wp2_with (first | (go_at_call 108; refine (blankR_any z _ hz0 hz1).mono ?_; rw [HCC.out]; rintro e w' ⟨rfl, hw'⟩; obtain rfl : w = w' := hw'.symm))
              go_ret
              rw [← HFIN.out]
              exact ⟨rfl, rfl⟩

theorem noNote_at (bs : List Int) (k : Nat) (hk : k < bs.length) (h : ∀ j, j < k → bs.getD j 0 ≠ 35) (he : bs.getD k 0 = 35) : noNote bs = bs.take k := by
  have e : bs = bs.take k ++ 35 :: bs.drop (k + 1) := by
    conv => lhs; rw [← List.take_append_drop k bs, List.drop_eq_getElem_cons hk]
    congr 2
    simpa [hk] using he
  conv => lhs; rw [e]
  refine (noNote_run (bs.take k) _ fun c hc => ?_).1
  obtain ⟨j, hj, rfl⟩ := List.mem_iff_getElem.1 hc
  have hj' : j < k := by simp at hj; omega
  have := h j hj'
  rw [List.getElem_take]
  simpa [show j < bs.length by omega] using this
theorem noNote_no (bs : List Int) (h : ∀ j, j < bs.length → bs.getD j 0 ≠ 35) : noNote bs = bs := by
  refine (noNote_run bs [] fun c hc => ?_).2
  obtain ⟨j, hj, rfl⟩ := List.mem_iff_getElem.1 hc
  simpa [hj] using h j hj

set_option maxHeartbeats 2000000 in
theorem cutR_any (bs : List Int) (w : World) (hr : ∀ y ∈ bs, 0 ≤ y ∧ y ≤ 255) (hm : bs.length ≤ 9223372036854775807) :
    Calls Tryz.prog 43 #[.string (strOfNums bs)] w fun e w' => e = .returned (.string (strOfNums (trm (noNote bs)))) ∧ w' = w := by
  have HR : Hid (∀ y ∈ bs, 0 ≤ y ∧ y ≤ 255) := hr
  obtain ⟨s, hs⟩ : ∃ s, s = strOfNums bs := ⟨_, rfl⟩
  have hsz : s.size = bs.length := by rw [hs]; exact strOfNums_size bs
  obtain ⟨n, hn⟩ : ∃ n, n = bs.length := ⟨_, rfl⟩
  rw [← hn] at hsz hm
  have HTR : Hid (∀ (k : Nat) (W : World), k ≤ bs.length → Calls Tryz.prog 73 #[.string (strOfNums (bs.take k))] W fun e w' => e = .returned (.string (strOfNums (trm (bs.take k)))) ∧ w' = W) := by
    intro k W hk
    exact trimRef_any (bs.take k) W (fun y hy => HR.out y (List.mem_of_mem_take hy)) (by simp; omega)
  rw [← hs]
  have HS : Hid (s = strOfNums bs) := hs
  have HN : Hid (n = bs.length) := hn
  have HXX : Hid (∀ k : Nat, k < n → ∀ W : World, (Instr.index 9 (.string s) (.int .i64 k)).run Tryz.prog W = .ok (.int .u8 (bs.getD k 0)) W) := by
    intro k hk W
    rw [HS.out]
    exact str_at bs k (by rw [← HN.out]; exact hk) HR.out W
  obtain ⟨T, hT⟩ : ∃ T, T = trm (noNote bs) := ⟨_, rfl⟩
  rw [← hT]
  have HT : Hid (T = trm (noNote bs)) := hT
  clear hs hn hT hr
  go_enter Tryz.func43, Tryz.ntmps43
  go_wp2
  go_loop [3] (fun x3 => ∃ k : Nat, k ≤ n ∧ x3 = .int .i64 k ∧ ∀ j, j < k → bs.getD j 0 ≠ 35) (fun x3 => n - (intOf x3).toNat)
  case atStart => exact ⟨0, by omega, rfl, fun j hj => absurd hj (by omega)⟩
  case round =>
    obtain ⟨k, hk, hx3, hat⟩ := hrel
    subst hx3
    have HA : Hid (∀ j, j < k → bs.getD j 0 ≠ 35) := hat
    clear hat
    by_cases hlt : k < n
    · have hix := HXX.out k hlt
      obtain ⟨x, hxd⟩ : ∃ x, x = bs.getD k 0 := ⟨_, rfl⟩
      rw [← hxd] at hix
      have HXD : Hid (x = bs.getD k 0) := hxd
      clear hxd
      by_cases h35 : x = 35
      · have HC : Hid (T = trm (bs.take k)) := by
          show _ = _
          rw [HT.out, noNote_at bs k (by rw [← HN.out]; exact hlt) HA.out (by rw [← HXD.out]; exact h35)]
        have hcut : ∀ W : World, (Instr.slice 9 (.string s) none (some (.int .i64 k)) none).run Tryz.prog W = .ok (.string (strOfNums (bs.take k))) W := by
          intro W
          rw [HS.out]
          exact str_take bs k (by rw [← HN.out]; omega) W
        go_wp2_with (first | (go_at_call 73; refine (HTR.out k _ (by rw [← HN.out]; omega)).mono ?_; rw [← HC.out]; rintro e w' ⟨rfl, hw'⟩; obtain rfl : w = w' := hw'.symm))
        go_ret
        exact ⟨rfl, rfl⟩
      · have HE : Hid (¬ x = 35) := h35
        go_wp2
        go_round
        case rel =>
          refine ⟨k + 1, by omega, by go_num, fun j hj => ?_⟩
          rcases Nat.lt_or_ge j k with h | h
          · exact HA.out j h
          · rw [show j = k by omega, ← HXD.out]; exact HE.out
        case measure => simp [intOf]; omega
    · have HC : Hid (T = trm bs ∧ bs.take n = bs) := by
        refine ⟨?_, ?_⟩
        · rw [HT.out, noNote_no bs (fun j hj => HA.out j (by rw [← HN.out] at hj; omega))]
        · rw [HN.out, List.take_length]
      have HC2 : Hid (∀ W : World, Calls Tryz.prog 73 #[.string s] W fun e w' => e = .returned (.string (strOfNums T)) ∧ w' = W) := by
        intro W
        have := HTR.out n W (by rw [← HN.out]; exact Nat.le_refl _)
        rw [HC.out.2, ← HC.out.1, ← HS.out] at this
        exact this
      go_wp2_with (first | (go_at_call 73; refine (HC2.out _).mono ?_; rintro e w' ⟨rfl, hw'⟩; obtain rfl : w = w' := hw'.symm))
      go_ret
      exact ⟨rfl, rfl⟩
end Go.Proofs.YtgncpchgmjacdaaGreatDoor
