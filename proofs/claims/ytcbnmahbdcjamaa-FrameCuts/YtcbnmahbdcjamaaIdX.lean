/- The walk of the statements' vector. -/
import Derived.Test.YtcbnmahbdcjamaaIdW
namespace Go.Proofs.Ytcbnmahbdcjamaa
open Go.RowKit Go.Sort
set_option linter.unusedVariables false

theorem take_eq_next (A B : List (Int × Int)) (i : Nat) (ha : i < A.length) (hb : i < B.length) : A.take (i + 1) = B.take (i + 1) ↔ A.take i = B.take i ∧ A.getD i (0, 0) = B.getD i (0, 0) := by
  have e1 : A.take (i + 1) = A.take i ++ [A.getD i (0, 0)] := by rw [List.take_add_one]; simp [ha]
  have e2 : B.take (i + 1) = B.take i ++ [B.getD i (0, 0)] := by rw [List.take_add_one]; simp [hb]
  rw [e1, e2]
  constructor
  · intro h
    have h3 := List.append_inj h (by simp; omega)
    exact ⟨h3.1, by simpa using h3.2⟩
  · rintro ⟨h1, h2⟩
    rw [h1, h2]
theorem neq_ent (a1 a2 b1 b2 : Int) (z : Bool) (hz : z = decide (¬ (a1 = b1 ∧ a2 = b2))) (W : World) : (binOp .neq 107 (.agg #[.int .i64 a1, .int .i64 a2]) (.agg #[.int .i64 b1, .int .i64 b2])).run Try.prog W = .ok (.bool z) W := by
  subst hz
  by_cases h1 : a1 = b1 <;> by_cases h2 : a2 = b2 <;> go_simp
set_option maxHeartbeats 1000000 in
theorem same_any (A B : List (Int × Int)) (a b : Option Addr) (la ca lb cb : Nat) (w : World) (ra : RdE w a la A) (rb : RdE w b lb B) (h1 : la ≤ 100000) :
    Calls Try.prog 18 #[.slice a la ca, .slice b lb cb] w fun e w' => e = .returned (.bool (decide (A = B))) ∧ Gw w w' := by
  have HLA : Hid (A.length = la) := ra.1
  have HLB : Hid (B.length = lb) := rb.1
  have HDA : Hid (RdE w a la A) := ra
  have HDB : Hid (RdE w b lb B) := rb
  have mixed : Try.prog.follows .mixedOrders = true := by kernel_rfl
  obtain ⟨R, hR⟩ : ∃ R, R = decide (A = B) := ⟨_, rfl⟩
  rw [← hR]
  have HR : Hid (R = decide (A = B)) := hR
  clear ra rb hR
  by_cases hl : la = lb
  · subst hl
    go_enter Try.func18, Try.ntmps18
    go_wp2
    go_loopw [5] (fun x5 wr => ∃ i : Nat, x5 = .int .i64 i ∧ i ≤ la ∧ A.take i = B.take i ∧ Gw w wr) (fun x5 _ => la - (intOf x5).toNat)
    case atStart => exact ⟨0, rfl, by omega, rfl, Gw.refl _⟩
    case round =>
      obtain ⟨i, hx5, hil, heq, hgw⟩ := hrel
      subst hx5
      have HG : Hid (Gw w wr) := hgw
      by_cases hlt : i < la
      · obtain ⟨b1, o1, hab, c0, c1⟩ := (HDA.out.gw hgw).at i hlt
        obtain ⟨b2, o2, hab2, d0, d1⟩ := (HDB.out.gw hgw).at i hlt
        subst hab hab2
        have hst := take_eq_next A B i (by rw [HLA.out]; exact hlt) (by rw [HLB.out]; exact hlt)
        have hno : A.getD i (0, 0) ≠ B.getD i (0, 0) → A ≠ B := fun h1 h2 => h1 (by rw [h2])
        obtain ⟨z, hz⟩ : ∃ z, z = decide (¬ ((A.getD i (0, 0)).1 = (B.getD i (0, 0)).1 ∧ (A.getD i (0, 0)).2 = (B.getD i (0, 0)).2)) := ⟨_, rfl⟩
        have hq := neq_ent (A.getD i (0, 0)).1 (A.getD i (0, 0)).2 (B.getD i (0, 0)).1 (B.getD i (0, 0)).2 z hz
        have hpe : z = false → A.getD i (0, 0) = B.getD i (0, 0) := by
          intro h
          rw [hz] at h
          have := of_decide_eq_false h
          exact Prod.ext (Classical.not_not.1 this).1 (Classical.not_not.1 this).2
        have hpn : z = true → A ≠ B := by
          intro h
          rw [hz] at h
          have := of_decide_eq_true h
          exact hno fun e => this (by rw [e]; exact ⟨rfl, rfl⟩)
        generalize (A.getD i (0, 0)).1 = x1 at c0 hq
        generalize (A.getD i (0, 0)).2 = x2 at c1 hq
        generalize (B.getD i (0, 0)).1 = y1 at d0 hq
        generalize (B.getD i (0, 0)).2 = y2 at d1 hq
        cases z
        · have HEQ : Hid (A.take (i + 1) = B.take (i + 1)) := hst.2 ⟨heq, hpe rfl⟩
          clear hst hno hz hpe hpn heq hgw
          go_upto_region 6 with fail
          go_quiet (fail)
          go_wp2
          go_roundw
          case rel => exact ⟨i + 1, by go_num, by omega, HEQ.out, HG.out.trans ⟨_, #[], by rw [grow_empty]⟩⟩
          case measure => simp [intOf]; omega
        · have HEQ : Hid (R = false) := by show R = false; rw [HR.out]; exact decide_eq_false (hpn rfl)
          clear hst hno hz hpe hpn heq hgw
          go_upto_region 6 with fail
          go_quiet (fail)
          go_wp2
          go_ret
          exact ⟨by rw [HEQ.out]; rfl, HG.out.trans ⟨_, #[], by rw [grow_empty]⟩⟩
      · obtain rfl : i = la := by omega
        have HEQ : Hid (R = true) := by
          show R = true
          rw [HR.out]
          rw [List.take_of_length_le (by rw [HLA.out]; omega), List.take_of_length_le (by rw [HLB.out]; omega)] at heq
          exact decide_eq_true heq
        clear heq hgw
        go_wp2
        go_ret
        exact ⟨by rw [HEQ.out]; rfl, HG.out⟩
  · have HEQ : Hid (R = false) := by
      show R = false
      rw [HR.out]
      refine decide_eq_false fun h => hl ?_
      rw [← HLA.out, ← HLB.out, h]
    go_enter Try.func18, Try.ntmps18
    go_wp2
    go_ret
    exact ⟨by rw [HEQ.out]; rfl, Gw.refl _⟩
set_option maxHeartbeats 1000000 in
theorem refVector_any (L : List (Int × Int)) (b : Option Addr) (lb cb : Nat) (w : World) (rb : RdE w b lb L) (h2 : lb ≤ 100000) :
    Calls Try.prog 75 #[.slice b lb cb] w fun e w' => e = .returned (.bool (vcB (-1) L)) ∧ Gw w w' := by
  have HL : Hid (L.length = lb) := rb.1
  have HD : Hid (RdE w b lb L) := rb
  have mixed : Try.prog.follows .mixedOrders = true := by kernel_rfl
  clear rb
  go_enter Try.func75, Try.ntmps75
  go_wp2
  go_loopw [3] (fun x3 wr => ∃ i : Nat, x3 = .int .i64 i ∧ i ≤ lb ∧ vcB (-1) L = vcB (lsA L i) (L.drop i) ∧ Gw w wr) (fun x3 _ => lb - (intOf x3).toNat)
  case atStart => exact ⟨0, rfl, by omega, rfl, Gw.refl _⟩
  case round =>
    obtain ⟨i, hx3, hil, heq, hgw⟩ := hrel
    subst hx3
    have HG : Hid (Gw w wr) := hgw
    by_cases hlt : i < lb
    · have hiL : i < L.length := by rw [HL.out]; exact hlt
      obtain ⟨bb, off, hab, c0, c1⟩ := (HD.out.gw HG.out).at i hlt
      subst hab
      have hst := vc_step L i hiL
      rw [hst] at heq
      have hau : auB (L.getD i (0, 0)).1 = (decide (0 ≤ (L.getD i (0, 0)).1) && decide ((L.getD i (0, 0)).1 < 4194304)) := rfl
      have hcn : cnB (L.getD i (0, 0)).2 = (decide (1 ≤ (L.getD i (0, 0)).2) && decide ((L.getD i (0, 0)).2 ≤ 4294967295)) := rfl
      rw [hau, hcn] at heq
      have hpr : 0 < i → ∃ p, lsA L i = p ∧ wr.cell? ⟨bb, off + (i - 1) * 2, none⟩ = some (.int .i64 p) := by
        intro hi
        obtain ⟨b2, o2, e2, f0, _⟩ := (HD.out.gw HG.out).at (i - 1) (by omega)
        cases e2
        refine ⟨(L.getD (i - 1) (0, 0)).1, ?_, f0⟩
        obtain ⟨k, rfl⟩ : ∃ k, i = k + 1 := ⟨i - 1, by omega⟩
        rfl
      have hfi : i = 0 → lsA L i = -1 := by rintro rfl; rfl
      generalize (L.getD i (0, 0)).1 = y1 at c0 heq
      generalize (L.getD i (0, 0)).2 = y2 at c1 heq
      generalize lsA L i = la at heq hpr hfi
      clear hst hiL hau hcn hgw
      by_cases g1 : y1 < 0
      · have g1' : ¬ 0 ≤ y1 := by omega
        have HEQ : Hid (vcB (-1) L = false) := by show vcB (-1) L = false; rw [heq]; simp [g1']
        clear heq
        clear g1' hpr hfi
        go_upto_region 4 with fail
        go_quiet (fail)
        go_wp2
        go_ret
        exact ⟨by rw [HEQ.out]; rfl, HG.out.trans ⟨_, #[], by rw [grow_empty]⟩⟩
      · by_cases g2 : 4194304 ≤ y1
        · have g2' : ¬ y1 < 4194304 := by omega
          have HEQ : Hid (vcB (-1) L = false) := by show vcB (-1) L = false; rw [heq]; simp [g2']
          clear heq
          clear g2' hpr hfi
          go_upto_region 4 with fail
          go_quiet (fail)
          go_wp2
          go_ret
          exact ⟨by rw [HEQ.out]; rfl, HG.out.trans ⟨_, #[], by rw [grow_empty]⟩⟩
        · by_cases g3 : y2 < 1
          · have g3' : ¬ 1 ≤ y2 := by omega
            have HEQ : Hid (vcB (-1) L = false) := by show vcB (-1) L = false; rw [heq]; simp [g3']
            clear heq
            clear g3' hpr hfi
            go_upto_region 4 with fail
            go_quiet (fail)
            go_wp2
            go_ret
            exact ⟨by rw [HEQ.out]; rfl, HG.out.trans ⟨_, #[], by rw [grow_empty]⟩⟩
          · by_cases g4 : 4294967295 < y2
            · have g4' : ¬ y2 ≤ 4294967295 := by omega
              have HEQ : Hid (vcB (-1) L = false) := by show vcB (-1) L = false; rw [heq]; simp [g4']
              clear heq
              clear g4' hpr hfi
              go_upto_region 4 with fail
              go_quiet (fail)
              go_wp2
              go_ret
              exact ⟨by rw [HEQ.out]; rfl, HG.out.trans ⟨_, #[], by rw [grow_empty]⟩⟩
            · have a1 : 0 ≤ y1 := by omega
              have a2 : y1 < 4194304 := by omega
              have a3 : 1 ≤ y2 := by omega
              have a4 : y2 ≤ 4294967295 := by omega
              rcases Nat.eq_zero_or_pos i with hi0 | hi0
              · subst hi0
                have hla := hfi rfl
                subst hla
                simp only [Nat.zero_mul, Nat.add_zero] at c0 c1
                have a5 : ¬ y1 ≤ -1 := by omega
                have HEQ : Hid (vcB (-1) L = vcB (lsA L (0 + 1)) (L.drop (0 + 1))) := by show vcB (-1) L = _; rw [heq]; simp [a1, a2, a3, a4, a5]
                clear heq
                clear a1 a2 a3 a4 a5 hpr hfi
                go_upto_region 4 with fail
                go_quiet (fail)
                go_wp2
                go_roundw
                case rel => exact ⟨0 + 1, by go_num, by omega, HEQ.out, HG.out.trans ⟨_, #[], by rw [grow_empty]⟩⟩
                case measure => simp [intOf]; omega
              · obtain ⟨k, rfl⟩ : ∃ k, i = k + 1 := ⟨i - 1, by omega⟩
                obtain ⟨p, rfl, pc⟩ := hpr hi0
                rw [Nat.add_sub_cancel] at pc
                have hk : k < lb := by omega
                by_cases g5 : y1 ≤ la
                · have HEQ : Hid (vcB (-1) L = false) := by show vcB (-1) L = false; rw [heq]; simp [g5]
                  clear heq
                  clear a1 a2 a3 a4 hfi hpr
                  go_upto_region 4 with fail
                  go_quiet (fail)
                  go_wp2
                  go_ret
                  exact ⟨by rw [HEQ.out]; rfl, HG.out.trans ⟨_, #[], by rw [grow_empty]⟩⟩
                · have HEQ : Hid (vcB (-1) L = vcB (lsA L ((k + 1) + 1)) (L.drop ((k + 1) + 1))) := by show vcB (-1) L = _; rw [heq]; simp [a1, a2, a3, a4, g5]
                  clear heq
                  clear a1 a2 a3 a4 hfi hpr
                  go_upto_region 4 with fail
                  go_quiet (fail)
                  go_wp2
                  go_roundw
                  case rel => exact ⟨(k + 1) + 1, by go_num, by omega, HEQ.out, HG.out.trans ⟨_, #[], by rw [grow_empty]⟩⟩
                  case measure => simp [intOf]; omega
    · obtain rfl : i = lb := by omega
      have HT : Hid (vcB (-1) L = true) := by
        show vcB (-1) L = true
        rw [heq, List.drop_of_length_le (by rw [HL.out]; omega)]
        rfl
      clear heq hgw
      go_wp2
      go_ret
      exact ⟨by rw [HT.out]; rfl, HG.out⟩
end Go.Proofs.Ytcbnmahbdcjamaa
