/- The walks of the reference's Right and Class. -/
import Derived.Test.YtgncpchgmjacdaaGreatDoorPropsRf
import Derived.Test.YtgncpchgmjacdaaGreatDoorPropsX
namespace Go.Proofs.YtgncpchgmjacdaaGreatDoor
open Go.RowKit
set_option linter.unusedVariables false

/-- The number that Right answers. -/
def RtOf (rs : List Rg) (ns : List (List Int)) (R : Int) : Prop :=
  (clsOk ns = false ∧ R = 1) ∨ (clsOk ns = true ∧ (∃ r ∈ rs, reR r = false) ∧ R = 3) ∨
    (clsOk ns = true ∧ (∀ r ∈ rs, reR r = true) ∧ ((¬ rs.Pairwise ApR ∧ R = 6) ∨ (rs.Pairwise ApR ∧ (∃ r ∈ rs, r.2.2 ∉ ns) ∧ R = 5) ∨ (rs.Pairwise ApR ∧ (∀ r ∈ rs, r.2.2 ∈ ns) ∧ R = 0)))
def RtPost (rs : List Rg) (ns : List (List Int)) (w : World) (e : Ending) (w' : World) : Prop := ∃ R, RtOf rs ns R ∧ e = .returned (.int .i64 R) ∧ ∃ n, w' = w.drewN n
theorem ix_take (ns : List (List Int)) (i : Nat) (hi : i < ns.length) : (ixOf (ns.getD i []) ns = i) ↔ ns.getD i [] ∉ ns.take i := by
  constructor
  · intro h hm
    obtain ⟨j, hj, e⟩ := List.mem_iff_getElem.1 hm
    have hj1 : j < i := by simp at hj; omega
    rcases ix_cases (ns.getD i []) ns with ⟨e2, h2⟩ | ⟨k, hk, e2, h3, h4⟩
    · rw [h] at e2; omega
    · have hki : k = i := by rw [h] at e2; omega
      subst hki
      refine h4 j hj1 ?_
      rw [← e]
      simp [show j < ns.length by omega]
  · intro h
    refine ix_first _ ns i hi rfl fun j hj e => h ?_
    rw [← e]
    have : (ns.take i)[j]'(by simp; omega) ∈ ns.take i := List.getElem_mem _
    simpa [show j < ns.length by omega] using this
theorem reR_bad (x y : Int) (n : List Int) (h : x < 0 ∨ 1114111 < y ∨ y < x) : reR (x, y, n) = false := by
  unfold reR
  by_cases h1 : 0 ≤ x <;> by_cases h2 : x ≤ y <;> by_cases h3 : y ≤ 1114111 <;> simp [h1, h2, h3]
  omega
theorem reR_good (x y : Int) (n : List Int) (h1 : 0 ≤ x) (h2 : y ≤ 1114111) (h3 : x ≤ y) : reR (x, y, n) = true := by
  unfold reR; simp [h1, h2, h3]
theorem mem_take_succ (rs : List Rg) (k : Nat) (hk : k < rs.length) (P : Rg → Prop) (h : ∀ r ∈ rs.take k, P r) (hx : P (rs.getD k (0, 0, []))) : ∀ r ∈ rs.take (k + 1), P r := by
  intro r hr
  rw [List.take_add_one] at hr
  simp only [List.mem_append] at hr
  rcases hr with hr | hr
  · exact h r hr
  · rw [List.getElem?_eq_getElem hk] at hr
    simp at hr
    rw [hr]
    simpa [hk] using hx
theorem pair_take (rs : List Rg) (h : ∀ i k, k < i → i < rs.length → ApR (rs.getD k (0, 0, [])) (rs.getD i (0, 0, []))) : rs.Pairwise ApR := by
  rw [List.pairwise_iff_getElem]
  intro i j hi hj hij
  have := h j i hij hj
  simpa [hi, hj] using this

set_option maxHeartbeats 4000000 in
theorem rightR_any (rs : List Rg) (ns : List (List Int)) (a a2 : Option Addr) (len cap len2 cap2 : Nat) (w : World) (hrd : RdR w a len rs) (hrs : RgS rs) (hn : Nms ns) (hrd2 : RdS w a2 len2 ns) (hm : len ≤ 100000000) (hm2 : len2 ≤ 100000000) :
    Calls Tryz.prog 22 #[.slice a len cap, .slice a2 len2 cap2] w (RtPost rs ns w) := by
  have HD : Hid (RdR w a len rs) := hrd
  have HL : Hid (rs.length = len) := hrd.1
  have HRS : Hid (RgS rs) := hrs
  have HN : Hid (Nms ns) := hn
  have HD2 : Hid (RdS w a2 len2 ns) := hrd2
  have HL2 : Hid (ns.length = len2) := hrd2.1
  have HM : Hid (len ≤ 100000000) := hm
  have HM2 : Hid (len2 ≤ 100000000) := hm2
  have mixed : Tryz.prog.follows .mixedOrders = true := by kernel_rfl
  have HFIND : Hid (∀ s : List Int, (∀ y ∈ s, 0 ≤ y ∧ y ≤ 255) → ∀ n, Calls Tryz.prog 30 #[.slice a2 len2 cap2, .string (strOfNums s)] (w.drewN n) fun e w' => e = .returned (.int .i64 (ixOf s ns)) ∧ w' = w.drewN n) := fun s hs n => find_any ns s a2 len2 cap2 _ hn hs (hrd2.later (below_drewN w n)) (by omega)
  clear hrd hrs hn hrd2 hm hm2
  go_enter Tryz.func22, Tryz.ntmps22
  by_cases h0 : len2 < 1
  · have HC : Hid (clsOk ns = false) := clsOk_len ns (by rw [HL2.out]; omega)
    go_wp2
    go_ret
    exact ⟨1, .inl ⟨HC.out, rfl⟩, rfl, 0, rfl⟩
  by_cases h24 : 24 < len2
  · have HC : Hid (clsOk ns = false) := clsOk_len ns (by rw [HL2.out]; omega)
    go_wp2
    go_ret
    exact ⟨1, .inl ⟨HC.out, rfl⟩, rfl, 0, rfl⟩
  go_wp2
  go_loop [5] (fun x => ∃ k : Nat, k ≤ len2 ∧ x = .int .i64 k ∧ ∀ i, i < k → nmOk (ns.getD i []) = true ∧ ns.getD i [] ∉ ns.take i) (fun x => len2 - (intOf x).toNat)
  case atStart => exact ⟨0, by omega, rfl, fun j hj => absurd hj (by omega)⟩
  case round =>
    obtain ⟨k, hk, hx, hat⟩ := hrel
    subst hx
    have HA : Hid (∀ i, i < k → nmOk (ns.getD i []) = true ∧ ns.getD i [] ∉ ns.take i) := hat
    clear hat
    by_cases hlt : k < len2
    · obtain ⟨b, off, rfl, hcl⟩ := HD2.out.2 (by omega)
      have hcc := hcl k hlt
      obtain ⟨xs, hxs⟩ : ∃ xs, xs = strOfNums (ns.getD k []) := ⟨_, rfl⟩
      rw [← hxs] at hcc
      have hat := HN.out.at k (by rw [HL2.out]; exact hlt)
      have hkl : k < ns.length := by rw [HL2.out]; exact hlt
      have HNM : Hid (Calls Tryz.prog 29 #[.string xs] w fun e w' => e = .returned (.bool (nmOk (ns.getD k []))) ∧ w' = w) := by rw [hxs]; exact nameR_any _ w hat.1 hat.2
      obtain ⟨ix, hix⟩ : ∃ ix, ix = ixOf (ns.getD k []) ns := ⟨_, rfl⟩
      have HFD : Hid (Calls Tryz.prog 30 #[.slice (some ⟨b, off, none⟩) len2 cap2, .string xs] w fun e w' => e = .returned (.int .i64 ix) ∧ w' = w) := by rw [hxs, hix]; exact HFIND.out _ hat.1 0
      have HIX : Hid (ix = k ↔ ns.getD k [] ∉ ns.take k) := by rw [hix]; exact ix_take ns k hkl
      clear hcl hxs hat hix
      cases hnm : nmOk (ns.getD k []) with
      | false =>
        have HC : Hid (clsOk ns = false) := clsOk_bad ns k hkl (.inl hnm)
        rw [hnm] at HNM
        clear hnm hkl
        go_wp2_with (first | (go_at_call 29; refine HNM.out.mono ?_; rintro e w' ⟨rfl, hw'⟩; obtain rfl : w = w' := hw'.symm))
        go_ret
        exact ⟨1, .inl ⟨HC.out, rfl⟩, rfl, 0, rfl⟩
      | true =>
        rw [hnm] at HNM
        have HNK : Hid (nmOk (ns.getD k []) = true) := hnm
        by_cases hix : ix = k
        · have HNX : Hid (∀ i, i < k + 1 → nmOk (ns.getD i []) = true ∧ ns.getD i [] ∉ ns.take i) := by
            intro i hi
            rcases Nat.lt_or_ge i k with h | h
            · exact HA.out i h
            · rw [show i = k by omega]; exact ⟨HNK.out, HIX.out.1 hix⟩
          subst hix
          clear hnm hkl
          go_wp2_with (first | (go_at_call 29; refine HNM.out.mono ?_; rintro e w' ⟨rfl, hw'⟩; obtain rfl : w = w' := hw'.symm) | (go_at_call 30; refine HFD.out.mono ?_; rintro e w' ⟨rfl, hw'⟩; obtain rfl : w = w' := hw'.symm))
          go_round
          case rel => exact ⟨k + 1, by omega, by go_num, HNX.out⟩
          case measure => simp [intOf]; omega
        · have HC : Hid (clsOk ns = false) := clsOk_bad ns k hkl (.inr (Classical.byContradiction fun h => hix (HIX.out.2 h)))
          clear hnm hkl
          go_wp2_with (first | (go_at_call 29; refine HNM.out.mono ?_; rintro e w' ⟨rfl, hw'⟩; obtain rfl : w = w' := hw'.symm) | (go_at_call 30; refine HFD.out.mono ?_; rintro e w' ⟨rfl, hw'⟩; obtain rfl : w = w' := hw'.symm))
          go_ret
          exact ⟨1, .inl ⟨HC.out, rfl⟩, rfl, 0, rfl⟩
    · have HC : Hid (clsOk ns = true) := clsOk_good ns (by rw [HL2.out]; omega) (by rw [HL2.out]; omega) (fun i hi => HA.out i (by rw [HL2.out] at hi; omega))
      obtain rfl : k = len2 := by omega
      have hlm := HM.out
      have hh1 : (len : Int) ≤ 9223372036854775806 := by omega
      clear h0 h24 hlt
      go_wp2
      go_loopw [7] (fun x wr => ∃ k : Nat, k ≤ len ∧ x = .int .i64 k ∧ (∀ r ∈ rs.take k, reR r = true) ∧ ∃ n, wr = w.drewN n) (fun x _ => len - (intOf x).toNat)
      case atStart => exact ⟨0, by omega, rfl, by simp, 0, rfl⟩
      case round =>
        obtain ⟨k2, hk2, hx2, hat2, n2, hwr2⟩ := hrel
        subst hx2
        have HA2 : Hid (∀ r ∈ rs.take k2, reR r = true) := hat2
        have HW2 : Hid (wr = w.drewN n2) := hwr2
        have HDW : Hid (RdR wr a len rs) := by rw [hwr2]; exact HD.out.later (below_drewN w n2)
        clear hat2 hwr2
        by_cases hlt2 : k2 < len
        · obtain ⟨b, off, hab, c0, c1, c2⟩ := HDW.out.at k2 hlt2
          subst hab
          have hkl2 : k2 < rs.length := by rw [HL.out]; exact hlt2
          have hmem := at_mem rs k2 hkl2
          obtain ⟨x, hx⟩ : ∃ x, x = rs.getD k2 (0, 0, []) := ⟨_, rfl⟩
          rw [← hx] at c0 c1 c2 hmem
          obtain ⟨x1, x2, x3⟩ := x
          have HMEM : Hid ((x1, x2, x3) ∈ rs) := hmem
          have HTK : Hid (reR (x1, x2, x3) = true → ∀ r ∈ rs.take (k2 + 1), reR r = true) := fun h => mem_take_succ rs k2 hkl2 _ HA2.out (by rw [← hx]; exact h)
          simp only [] at c0 c1
          have HRT : Hid (∀ n, RtPost rs ns w (.returned (.int .i64 3)) ((w.drewN n2).drewN n) ∨ reR (x1, x2, x3) = true) := by
            intro n
            cases hre : reR (x1, x2, x3) with
            | true => exact .inr rfl
            | false => exact .inl ⟨3, .inr (.inl ⟨HC.out, ⟨_, HMEM.out, hre⟩, rfl⟩), rfl, n2 + n, by rw [World.drewN_drewN]⟩
          clear hmem hx c2 hkl2
          by_cases e1 : x1 < 0
          · have HBAD : Hid (reR (x1, x2, x3) = false) := reR_bad x1 x2 x3 (.inl e1)
            go_upto_region 12 with fail
            go_quiet (fail)
            go_wp2
            go_ret
            rw [HW2.out]
            exact (HRT.out _).resolve_right (by rw [HBAD.out]; simp)
          · by_cases e2 : 1114111 < x2
            · have HBAD : Hid (reR (x1, x2, x3) = false) := reR_bad x1 x2 x3 (.inr (.inl e2))
              go_upto_region 12 with fail
              go_quiet (fail)
              go_wp2
              go_ret
              rw [HW2.out]
              exact (HRT.out _).resolve_right (by rw [HBAD.out]; simp)
            · by_cases e3 : x2 < x1
              · have HBAD : Hid (reR (x1, x2, x3) = false) := reR_bad x1 x2 x3 (.inr (.inr e3))
                go_upto_region 12 with fail
                go_quiet (fail)
                go_wp2
                go_ret
                rw [HW2.out]
                exact (HRT.out _).resolve_right (by rw [HBAD.out]; simp)
              · have HNX : Hid (∀ r ∈ rs.take (k2 + 1), reR r = true) := HTK.out (reR_good x1 x2 x3 (by omega) (by omega) (by omega))
                go_upto_region 12 with fail
                go_quiet (fail)
                go_wp2
                go_roundw
                case rel => exact ⟨k2 + 1, by omega, by go_num, HNX.out, n2 + nq, by rw [HW2.out, World.drewN_drewN]⟩
                case measure => simp [intOf]; omega
        · have HRE : Hid (∀ r ∈ rs, reR r = true) := by
            intro r hr
            exact HA2.out r (by rw [List.take_of_length_le (by rw [HL.out]; omega)]; exact hr)
          obtain rfl : len = k2 := by omega
          clear hlt2
          go_wp2
          go_loopw [8] (fun x wr => ∃ k : Nat, k ≤ len ∧ x = .int .i64 k ∧ (∀ i j, j < i → i < k → ApR (rs.getD j (0, 0, [])) (rs.getD i (0, 0, []))) ∧ ∃ n, wr = w.drewN n) (fun x _ => len - (intOf x).toNat)
          case atStart => exact ⟨0, by omega, rfl, fun i j _ h => absurd h (by omega), n2, HW2.out⟩
          case round =>
            obtain ⟨k3, hk3, hx3, hat3, n3, hwr3⟩ := hrel
            subst hx3
            have HA3 : Hid (∀ i j, j < i → i < k3 → ApR (rs.getD j (0, 0, [])) (rs.getD i (0, 0, []))) := hat3
            have HW3 : Hid (wr = w.drewN n3) := hwr3
            clear hat3 hwr3
            by_cases hlt3 : k3 < len
            · go_wp2
              go_loopw [9] (fun x wr => ∃ k : Nat, k ≤ k3 ∧ x = .int .i64 k ∧ (∀ j, j < k → ApR (rs.getD j (0, 0, [])) (rs.getD k3 (0, 0, []))) ∧ ∃ n, wr = w.drewN n) (fun x _ => k3 - (intOf x).toNat)
              case atStart => exact ⟨0, by omega, rfl, fun j h => absurd h (by omega), n3, HW3.out⟩
              case round =>
                obtain ⟨k4, hk4, hx4, hat4, n4, hwr4⟩ := hrel
                subst hx4
                have HA4 : Hid (∀ j, j < k4 → ApR (rs.getD j (0, 0, [])) (rs.getD k3 (0, 0, []))) := hat4
                have HW4 : Hid (wr = w.drewN n4) := hwr4
                have HDW4 : Hid (RdR wr a len rs) := by rw [hwr4]; exact HD.out.later (below_drewN w n4)
                clear hat4 hwr4
                by_cases hlt4 : k4 < k3
                · obtain ⟨b, off, hab, c0, c1, c2⟩ := HDW4.out.at k4 (by omega)
                  obtain ⟨b2, off2, hab2, d0, d1, d2⟩ := HDW4.out.at k3 hlt3
                  subst hab
                  cases hab2
                  obtain ⟨x, hx⟩ : ∃ x, x = rs.getD k4 (0, 0, []) := ⟨_, rfl⟩
                  obtain ⟨y, hy⟩ : ∃ y, y = rs.getD k3 (0, 0, []) := ⟨_, rfl⟩
                  rw [← hx] at c0 c1 c2
                  rw [← hy] at d0 d1 d2
                  obtain ⟨x1, x2, x3⟩ := x
                  obtain ⟨y1, y2, y3⟩ := y
                  simp only [] at c0 c1 d0 d1
                  have HRT : Hid (x1 ≤ y2 → y1 ≤ x2 → ∀ n, RtPost rs ns w (.returned (.int .i64 6)) ((w.drewN n4).drewN n)) := by
                    intro h1 h2 n
                    refine ⟨6, .inr (.inr ⟨HC.out, HRE.out, .inl ⟨fun hp => ?_, rfl⟩⟩), rfl, n4 + n, by rw [World.drewN_drewN]⟩
                    have hap := pair_at rs ApR hp k4 k3 hlt4 (by rw [HL.out]; exact hlt3)
                    rw [← hx, ← hy] at hap
                    unfold ApR meets at hap
                    simp only [] at hap
                    rw [decide_eq_true h1, decide_eq_true h2] at hap
                    cases hap
                  have HNX : Hid (¬ (x1 ≤ y2 ∧ y1 ≤ x2) → ∀ j, j < k4 + 1 → ApR (rs.getD j (0, 0, [])) (rs.getD k3 (0, 0, []))) := by
                    intro h j hj
                    rcases Nat.lt_or_ge j k4 with h2 | h2
                    · exact HA4.out j h2
                    · rw [show j = k4 by omega, ← hx, ← hy]
                      unfold ApR meets
                      by_cases h3 : x1 ≤ y2
                      · rw [decide_eq_true h3, decide_eq_false (fun h4 => h ⟨h3, h4⟩)]; rfl
                      · rw [decide_eq_false h3]; rfl
                  clear hx hy c2 d2
                  by_cases e1 : x1 ≤ y2
                  · by_cases e2 : y1 ≤ x2
                    · have HR6 : Hid (∀ n, RtPost rs ns w (.returned (.int .i64 6)) ((w.drewN n4).drewN n)) := HRT.out e1 e2
                      go_upto_region 20 with fail
                      go_quiet (fail)
                      go_wp2
                      go_ret
                      rw [HW4.out]
                      exact HR6.out _
                    · have HN : Hid (∀ j, j < k4 + 1 → ApR (rs.getD j (0, 0, [])) (rs.getD k3 (0, 0, []))) := HNX.out (fun h => e2 h.2)
                      go_upto_region 20 with fail
                      go_quiet (fail)
                      go_wp2
                      go_roundw
                      case rel => exact ⟨k4 + 1, by omega, by go_num, HN.out, n4 + nq, by rw [HW4.out, World.drewN_drewN]⟩
                      case measure => simp [intOf]; omega
                  · have HN : Hid (∀ j, j < k4 + 1 → ApR (rs.getD j (0, 0, [])) (rs.getD k3 (0, 0, []))) := HNX.out (fun h => e1 h.1)
                    go_upto_region 20 with fail
                    go_quiet (fail)
                    go_wp2
                    go_roundw
                    case rel => exact ⟨k4 + 1, by omega, by go_num, HN.out, n4 + nq, by rw [HW4.out, World.drewN_drewN]⟩
                    case measure => simp [intOf]; omega
                · have HNX : Hid (∀ i j, j < i → i < k3 + 1 → ApR (rs.getD j (0, 0, [])) (rs.getD i (0, 0, []))) := by
                    intro i j hij hi
                    rcases Nat.lt_or_ge i k3 with h2 | h2
                    · exact HA3.out i j hij h2
                    · obtain rfl : i = k3 := by omega
                      exact HA4.out j (by omega)
                  go_wp2
                  go_roundw
                  case rel => exact ⟨k3 + 1, by omega, by go_num, HNX.out, n4, HW4.out⟩
                  case measure => simp [intOf]; omega
            · have HPW : Hid (rs.Pairwise ApR) := pair_take rs (fun i k h1 h2 => HA3.out i k h1 (by rw [HL.out] at h2; omega))
              obtain rfl : len = k3 := by omega
              clear hlt3
              go_wp2
              go_loopw [10] (fun x wr => ∃ k : Nat, k ≤ len ∧ x = .int .i64 k ∧ (∀ r ∈ rs.take k, r.2.2 ∈ ns) ∧ wr = w.drewN n3) (fun x _ => len - (intOf x).toNat)
              case atStart => exact ⟨0, by omega, rfl, by simp, HW3.out⟩
              case round =>
                obtain ⟨k5, hk5, hx5, hat5, hwr5⟩ := hrel
                subst hx5
                have HA5 : Hid (∀ r ∈ rs.take k5, r.2.2 ∈ ns) := hat5
                have HW5 : Hid (wr = w.drewN n3) := hwr5
                have HDW5 : Hid (RdR wr a len rs) := by rw [hwr5]; exact HD.out.later (below_drewN w n3)
                clear hat5 hwr5
                by_cases hlt5 : k5 < len
                · obtain ⟨b, off, hab, c0, c1, c2⟩ := HDW5.out.at k5 hlt5
                  subst hab
                  have hkl5 : k5 < rs.length := by rw [HL.out]; exact hlt5
                  have hmem := at_mem rs k5 hkl5
                  obtain ⟨x, hx⟩ : ∃ x, x = rs.getD k5 (0, 0, []) := ⟨_, rfl⟩
                  rw [← hx] at c0 c1 c2 hmem
                  obtain ⟨x1, x2, x3⟩ := x
                  simp only [] at c2
                  have HMEM : Hid ((x1, x2, x3) ∈ rs) := hmem
                  obtain ⟨sx, hsx⟩ : ∃ sx, sx = strOfNums x3 := ⟨_, rfl⟩
                  rw [← hsx] at c2
                  obtain ⟨ix, hix⟩ : ∃ ix, ix = ixOf x3 ns := ⟨_, rfl⟩
                  have HFD : Hid (Calls Tryz.prog 30 #[.slice a2 k cap2, .string sx] wr fun e w' => e = .returned (.int .i64 ix) ∧ w' = wr) := by rw [hsx, hix, HW5.out]; exact HFIND.out x3 (HRS.out _ HMEM.out) n3
                  have HIN : Hid (x3 ∈ ns → ∀ r ∈ rs.take (k5 + 1), r.2.2 ∈ ns) := fun h => mem_take_succ rs k5 hkl5 _ HA5.out (by rw [← hx]; exact h)
                  have hcase : (ix < 0 ∧ x3 ∉ ns) ∨ (¬ ix < 0 ∧ x3 ∈ ns) := by
                    rcases ix_cases x3 ns with ⟨h1, h2⟩ | ⟨j, hj, h1, h2, _⟩
                    · exact .inl ⟨by rw [hix, h1]; decide, h2⟩
                    · exact .inr ⟨by rw [hix, h1]; omega, by rw [← h2]; simp [hj]⟩
                  have HBAD : Hid (x3 ∉ ns → ∃ r ∈ rs, r.2.2 ∉ ns) := fun h => ⟨_, HMEM.out, h⟩
                  clear hsx hix hx hmem hkl5 c0 c1
                  rcases hcase with ⟨hneg, hni⟩ | ⟨hnn, hin⟩
                  · have HB' : Hid (∃ r ∈ rs, r.2.2 ∉ ns) := HBAD.out hni
                    clear hni
                    go_wp2_with (first | (go_at_call 30; refine HFD.out.mono ?_; rintro e w' ⟨rfl, hw'⟩; obtain rfl : wr = w' := hw'.symm))
                    go_ret
                    exact ⟨5, .inr (.inr ⟨HC.out, HRE.out, .inr (.inl ⟨HPW.out, HB'.out, rfl⟩)⟩), rfl, n3, HW5.out⟩
                  · have HN : Hid (∀ r ∈ rs.take (k5 + 1), r.2.2 ∈ ns) := HIN.out hin
                    clear hin
                    go_wp2_with (first | (go_at_call 30; refine HFD.out.mono ?_; rintro e w' ⟨rfl, hw'⟩; obtain rfl : wr = w' := hw'.symm))
                    go_roundw
                    case rel => exact ⟨k5 + 1, by omega, by go_num, HN.out, HW5.out⟩
                    case measure => simp [intOf]; omega
                · have HALL : Hid (∀ r ∈ rs, r.2.2 ∈ ns) := by
                    intro r hr
                    exact HA5.out r (by rw [List.take_of_length_le (by rw [HL.out]; omega)]; exact hr)
                  go_wp2
                  go_ret
                  exact ⟨0, .inr (.inr ⟨HC.out, HRE.out, .inr (.inr ⟨HPW.out, HALL.out, rfl⟩)⟩), rfl, n3, HW5.out⟩
end Go.Proofs.YtgncpchgmjacdaaGreatDoor
