/- The walk of DfaBeginnings. -/
import Derived.Test.YtpmmmgjiekikeaaDoorJ21
namespace Go.Proofs.YtpmmmgjiekikeaaDoor
open Go.RowKit Go.Shelf Go.Maps
set_option linter.unusedVariables false
set_option linter.unusedSimpArgs false

set_option maxRecDepth 100000 in
set_option maxHeartbeats 8000000 in
theorem dfaBeginnings_walk (K : Int) (D : Nat) (l : List (Nd × Bool)) (la : Option Addr) (lc : Nat) (xs0 : List Int) (ra : Option Addr) (len0 rc : Nat) (at0 : Int) (w : World) (hT : TabD w) (hx : XRow w.heap.size w D la l) (hl : l.length ≤ 2600000000000) (hrd : Rd .i64 w ra len0 xs0) (hcap : len0 ≤ rc) :
    Calls Tryd.prog 10 #[.int .i64 K, .slice la l.length lc, .slice ra len0 rc, .int .i64 at0] w fun e w' => e = .returned (.bool true) ∧ Below w.heap.size w w' := by
  obtain ⟨n, hn⟩ : ∃ n : Nat, (n : Int) = min (len0 : Int) 30 := ⟨min len0 30, by omega⟩
  have hmin := min_run len0 n 30 hn
  have hcut0 := cutI ra len0 rc n (by omega)
  obtain ⟨row, hrow⟩ : ∃ row, row = xs0.take n := ⟨_, rfl⟩
  have HRD : Hid (Rd .i64 w ra n row) := by rw [hrow]; exact hrd.take n (by omega)
  have HL : Hid (row.length = n) := HRD.out.1
  have hn30 : (n : Int) ≤ 30 := by omega
  obtain ⟨A, hA⟩ : ∃ A : Nat, (A : Int) = at0 % 65536 := ⟨(at0 % 65536).toNat, by omega⟩
  have hand : bits .and .i64 at0 65535 = (A : Int) := by rw [and_low at0 65535 16 (by omega) (by decide)]; exact hA.symm
  have hk0 := Int.emod_nonneg (A : Int) (show ((n : Int) + 1) ≠ 0 by omega)
  have hk1 := Int.emod_lt_of_pos (A : Int) (show 0 < (n : Int) + 1 by omega)
  obtain ⟨k, hk⟩ : ∃ k : Nat, (k : Int) = (A : Int) % ((n : Int) + 1) := ⟨((A : Int) % ((n : Int) + 1)).toNat, by omega⟩
  have hrem : (A : Int).tmod ((n : Int) + 1) = (k : Int) := by rw [Int.tmod_eq_emod_of_nonneg (by omega)]; exact hk.symm
  have hkn : (k : Int) ≤ (n : Int) := by omega
  have hcutk := cutI ra n rc k (by omega)
  obtain ⟨L, hL⟩ : ∃ L, L = l.length := ⟨_, rfl⟩
  have HTD : Hid (TabD w) := hT
  have HSH : Hid (Calls Tryd.prog 12 #[] w fun e w' => e = .returned (.bool true) ∧ Below w.heap.size w w') := shown_any w hT
  have HFEW : Hid (∀ V : World, Below w.heap.size w V → Calls Tryd.prog 13 #[.slice la L lc] V (FewP D l V)) := fun V hV => by
    rw [hL]; exact few_any D l la lc V ((hx.later hV).base hV.size) hl
  rw [← hL]
  clear hT hx hl hrd hcap hrow hL hA hk hk0 hk1 hn
  go_enter Tryd.func10, Tryd.ntmps10
  go_wp2_with fail
  refine HSH.out.mono ?_
  rintro e w1 ⟨rfl, hb1⟩
  have HB1 : Hid (Below w.heap.size w w1) := hb1
  have HC2 : Hid (Calls Tryd.prog 13 #[.slice la L lc] w1 (FewP D l w1)) := HFEW.out w1 hb1
  clear hb1 HSH HFEW
  go_wp2_with fail
  refine HC2.out.mono ?_
  intro e w2 hf
  obtain ⟨hb2, xs, a4, a5, c4, c5, rfl, h8, _, hx4, _⟩ := hf.use
  have HB2 : Hid (Below w.heap.size w w2) := HB1.out.trans (hb2.mono HB1.out.size)
  obtain ⟨N, hN⟩ : ∃ N, N = xs.length := ⟨_, rfl⟩
  have HC3 : Hid (Calls Tryd.prog 14 #[.int .i64 K, .slice a4 N c4] w2 (BldP K xs w2)) := by
    rw [hN]; exact build_any D K xs a4 c4 w2 (HTD.out.later HB2.out) hx4 (by omega)
  rw [← hN]
  clear hf hb2 h8 hx4 HC2 hN
  go_wp2_with fail
  refine HC3.out.mono ?_
  rintro e w3 ⟨hb3, hor⟩
  have HB3 : Hid (Below w.heap.size w w3) := HB2.out.trans (hb3.mono HB2.out.size)
  clear hb3 HC3
  rcases hor with ⟨_, rfl⟩ | ⟨_, ⟨rfl, _⟩ | ⟨lb, nx, ou, rfl, hma, hle, _⟩⟩
  · go_wp2_with fail
    go_ret
    exact ⟨rfl, HB3.out⟩
  · go_wp2_with fail
    go_ret
    exact ⟨rfl, HB3.out⟩
  obtain ⟨KN, hKN⟩ : ∃ KN, KN = K.toNat := ⟨_, rfl⟩
  rw [← hKN] at hma hle
  have HMA : Hid (MchAt w3 lb KN nx ou) := hma
  have HLE : Hid (LeastOf KN xs nx ou) := hle
  have HC4 : Hid (Calls Tryd.prog 18 #[.pointer (some ⟨lb, 0, none⟩), .slice ra n rc] w3 (RunP KN nx ou row w3)) := by
    have h := run_any w3 lb KN nx ou row ra rc hma hle.asMet hle.wide hle.len (by rw [HL.out]; exact HRD.out.later HB3.out) (by have := HL.out; omega)
    rw [HL.out] at h
    exact h
  clear hma hle hKN
  go_wp2_with fail
  refine HC4.out.mono ?_
  rintro e w4 ⟨hb4, hor⟩
  have HB4 : Hid (Below w.heap.size w w4) := HB3.out.trans (hb4.mono HB3.out.size)
  have HM4 : Hid (MchAt w4 lb KN nx ou) := HMA.out.later hb4
  clear hb4 HC4 HMA
  rcases hor with ⟨_, rfl⟩ | ⟨hcl, g, cap, rfl, how⟩
  · go_wp2_with fail
    go_ret
    exact ⟨rfl, HB4.out⟩
  rw [HL.out] at how ⊢
  have HCL : Hid (Cls KN row) := hcl
  have HOW : Hid (w4.ownsRow w3.heap.size 50 1 (.slice (some ⟨g, 0, none⟩) (n + 1) cap) (n + 1) (uv (runO nx ou (row.map Int.toNat) (n + 1)))) := how
  have HC5 : Hid (Calls Tryd.prog 18 #[.pointer (some ⟨lb, 0, none⟩), .slice ra k rc] w4 (RunP KN nx ou (row.take k) w4)) := by
    have hlk : (row.take k).length = k := by simp; have := HL.out; omega
    have h := run_any w4 lb KN nx ou (row.take k) ra rc HM4.out HLE.out.asMet HLE.out.wide HLE.out.len (by rw [hlk]; exact (HRD.out.later HB4.out).take k (by omega)) (by omega)
    rw [hlk] at h
    exact h
  clear hcl how
  go_wp2_with fail
  refine HC5.out.mono ?_
  rintro e w5 ⟨hb5, hor⟩
  rcases hor with ⟨hnc, _⟩ | ⟨_, g2, cap2, rfl, how2⟩
  · exact absurd (HCL.out.take k) hnc
  have hlk : (row.take k).length = k := by simp; have := HL.out; omega
  rw [hlk] at how2 ⊢
  have HB5 : Hid (Below w.heap.size w w5) := HB4.out.trans (hb5.mono HB4.out.size)
  have HM5 : Hid (MchAt w5 lb KN nx ou) := HM4.out.later hb5
  obtain ⟨O, hO⟩ : ∃ O : Nat → Nat, ∀ i, O i = ouR nx ou row i := ⟨_, fun _ => rfl⟩
  obtain ⟨S, hS⟩ : ∃ S : Nat → Nat, ∀ i, S i = stR nx row i := ⟨_, fun _ => rfl⟩
  have HO1 : Hid (∀ V : World, Below w5.heap.size w5 V → ∀ i, i < n + 1 → V.cell? ⟨g, i, none⟩ = some (.int .u64 ((O i : Nat) : Int))) := fun V hV i hi => by rw [hO]; exact upC hV (run_told HOW.out hb5 i hi)
  have HO2 : Hid (∀ V : World, Below w5.heap.size w5 V → ∀ i, i < k + 1 → V.cell? ⟨g2, i, none⟩ = some (.int .u64 ((O i : Nat) : Int))) := fun V hV i hi => by
    have := run_told how2 hV i hi
    rw [this, hO]
    unfold ouR
    rw [stR_take nx row k i (by omega)]
  have HST : Hid (∀ V : World, Below w5.heap.size w5 V → ∀ j, j < n → Calls Tryd.prog 19 #[.pointer (some ⟨lb, 0, none⟩), .int .i64 ((S j : Nat) : Int), .int .i64 (row.getD j 0)] V fun e w' => e = .returned (.int .i64 ((S (j + 1) : Nat) : Int)) ∧ w' = V) := fun V hV j hj => by
    rw [hS, hS]; exact step_at (HM5.out.later hV) HLE.out HCL.out (by rw [HL.out]; exact hj)
  obtain ⟨M, hM⟩ : ∃ M, M = ou.length := ⟨_, rfl⟩
  have HSL : Hid (∀ i, S i < M) := fun i => by rw [hS, hM, HLE.out.len]; exact stR_lt HLE.out row i
  have HMO : Hid (∃ oa oo oc, ∀ V : World, Below w5.heap.size w5 V → V.cell? ⟨lb, 2, none⟩ = some (.slice (some ⟨oa, oo, none⟩) M oc) ∧ ∀ i, V.cell? ⟨oa, oo + S i, none⟩ = some (.int .u64 ((O i : Nat) : Int))) := by
    obtain ⟨oa, oo, oc, h1, h2⟩ := mch_out HM5.out (by rw [← hM]; exact Nat.lt_of_le_of_lt (Nat.zero_le _) (HSL.out 0))
    refine ⟨oa, oo, oc, fun V hV => ⟨upC hV (by rw [hM]; exact h1), fun i => upC hV ?_⟩⟩
    rw [h2 (S i) (by rw [← hM]; exact HSL.out i), hO, hS]
    rfl
  have HMX : Hid (M ≤ 1000000) := by obtain ⟨_, _, _, _, _, _, _, _, h, _⟩ := HM5.out; rw [hM]; exact h
  have HS0 : Hid (S 0 = 0) := by show S 0 = 0; rw [hS]; exact stR_zero nx row
  have HRD5 : Hid (∀ V : World, Below w5.heap.size w5 V → Rd .i64 V ra n row) := fun V hV => (HRD.out.later HB5.out).later hV
  clear hb5 how2 hlk hO hS hM HC5 HOW HM4 HM5 HLE HCL HRD
  go_wp2_with fail
  go_loopw [19, 20] (fun x15 x16 wr => ∃ j s : Nat, j ≤ k ∧ x16 = .int .i64 (j : Int) ∧ x15 = .int .i64 (s : Int) ∧ s = S j ∧ Below w5.heap.size w5 wr) (fun _ x16 _ => k - (intOf x16).toNat)
  case atStart => exact ⟨0, 0, by omega, rfl, rfl, HS0.out.symm, Below.refl _ _⟩
  case round =>
    obtain ⟨j, s, hj, hx16, hx15, hs, hwr⟩ := hrel
    subst hx16 hx15
    have HBW : Hid (Below w5.heap.size w5 wr) := hwr
    have HS : Hid (s = S j) := hs
    clear hs hwr
    by_cases hlt : j < k
    · have d1 := HO2.out wr HBW.out j (by omega)
      have d2 := HO1.out wr HBW.out j (by omega)
      obtain ⟨b, off, rfl, hc⟩ := (HRD5.out wr HBW.out).2 (by omega)
      obtain ⟨X, hX⟩ : ∃ X, X = row.getD j 0 := ⟨_, rfl⟩
      have HX3 : Hid (∀ V : World, Below w5.heap.size w5 V → V.cell? ⟨b, off + j, none⟩ = some (.int .i64 X)) := fun V hV => by
        obtain ⟨b', off', e', hc'⟩ := (HRD5.out V hV).2 (by omega)
        cases e'
        rw [hX]; exact hc' j (by omega)
      obtain ⟨Y, hY⟩ : ∃ Y, Y = O j := ⟨_, rfl⟩
      rw [← hY] at d1 d2
      obtain ⟨t, ht⟩ : ∃ t, t = S (j + 1) := ⟨_, rfl⟩
      have HT : Hid (t = S (j + 1)) := ht
      have HC : Hid (∀ V : World, Below w5.heap.size w5 V → Calls Tryd.prog 19 #[.pointer (some ⟨lb, 0, none⟩), .int .i64 (s : Int), .int .i64 X] V fun e w' => e = .returned (.int .i64 (t : Int)) ∧ w' = V) := fun V hV => by
        have h := HST.out V hV j (by omega)
        rw [← HS.out, ← hX, ← ht] at h
        exact h
      have hji : (j : Int) < (k : Int) := by omega
      have hj0 : (0 : Int) ≤ (j : Int) := by omega
      have hjk1 : (j : Int) < (k : Int) + 1 := by omega
      have hjn1 : (j : Int) < (n : Int) + 1 := by omega
      have hjn : (j : Int) < (n : Int) := by omega
      clear hc hX hY ht
      go_wp2_with fail
      go_quiet (fail)
      have d3 := HX3.out _ (bdN HBW.out nq)
      clear d1 d2
      go_wp2_with fail
      refine (HC.out _ (bdN HBW.out nq)).mono ?_
      rintro e w6 ⟨rfl, hw6⟩
      subst hw6
      clear d3
      go_wp2_with fail
      go_roundw
      case rel => exact ⟨j + 1, t, by omega, by go_num, rfl, HT.out, bdN HBW.out _⟩
      case measure => simp [intOf]; omega
    · obtain rfl : j = k := by omega
      go_wp2_with fail
      go_loopw [19, 21] (fun x15 x17 wz => ∃ i s : Nat, j ≤ i ∧ i ≤ n ∧ x17 = .int .i64 (i : Int) ∧ x15 = .int .i64 (s : Int) ∧ s = S i ∧ Below w5.heap.size w5 wz) (fun _ x17 _ => n - (intOf x17).toNat)
      case atStart => exact ⟨j, s, by omega, by omega, rfl, rfl, HS.out, HBW.out⟩
      case round =>
        obtain ⟨i, s2, hi, hin, hx17, hx15, hs2, hwr⟩ := hrel
        subst hx17 hx15
        have HBZ : Hid (Below w5.heap.size w5 wr) := hwr
        have HS2 : Hid (s2 = S i) := hs2
        clear hs2 hwr
        by_cases hlt : i < n
        · obtain ⟨b, off, rfl, hc⟩ := (HRD5.out wr HBZ.out).2 (by omega)
          have d3 := hc i (by omega)
          obtain ⟨X, hX⟩ : ∃ X, X = row.getD i 0 := ⟨_, rfl⟩
          rw [← hX] at d3
          obtain ⟨oa, oo, oc, e0⟩ := HMO.out
          obtain ⟨e1, e2⟩ := e0 wr HBZ.out
          have d2 := HO1.out wr HBZ.out (i + 1) (by omega)
          have d4 := e2 (i + 1)
          obtain ⟨Y, hY⟩ : ∃ Y, Y = O (i + 1) := ⟨_, rfl⟩
          rw [← hY] at d2 d4
          obtain ⟨t, ht⟩ : ∃ t, t = S (i + 1) := ⟨_, rfl⟩
          rw [← ht] at d4
          have HT : Hid (t = S (i + 1)) := ht
          have htM : (t : Int) < (M : Int) := by rw [ht]; have := HSL.out (i + 1); omega
          have ht0 : (0 : Int) ≤ (t : Int) := by omega
          have hg1 : decide ((t : Int) < 0) = false := by simp
          have hg2 : decide (M ≤ t) = false := by simp; omega
          have hMi : (M : Int) ≤ 1000000 := by have := HMX.out; omega
          have hin0 : (i : Int) < (n : Int) := by omega
          have hi0 : (0 : Int) ≤ (i : Int) := by omega
          have hi1 : (i : Int) + 1 < (n : Int) + 1 := by omega
          have hi2 : (0 : Int) ≤ (i : Int) + 1 := by omega
          have HC : Hid (Calls Tryd.prog 19 #[.pointer (some ⟨lb, 0, none⟩), .int .i64 (s2 : Int), .int .i64 X] wr fun e w' => e = .returned (.int .i64 (t : Int)) ∧ w' = wr) := by
            have h := HST.out wr HBZ.out i (by omega)
            rw [← HS2.out, ← hX, ← ht] at h
            exact h
          clear hc hX hY ht e2 e0
          go_wp2_with fail
          refine HC.out.mono ?_
          rintro e w6 ⟨rfl, hw6⟩
          obtain rfl : wr = w6 := hw6.symm
          clear d3 HC
          go_wp2_with fail
          go_quiet (fail)
          go_wp2_with fail
          go_roundw
          case rel => exact ⟨i + 1, t, by omega, by omega, by go_num, rfl, HT.out, bdN HBZ.out _⟩
          case measure => simp [intOf]; omega
        · obtain rfl : i = n := by omega
          have d1 := HO2.out wr HBZ.out j (by omega)
          have d2 := HO1.out wr HBZ.out j (by omega)
          have hj0 : (0 : Int) ≤ (j : Int) := by omega
          have hjk1 : (j : Int) < (j : Int) + 1 := by omega
          have hjn1 : (j : Int) < (i : Int) + 1 := by omega
          obtain ⟨Y, hY⟩ : ∃ Y, Y = O j := ⟨_, rfl⟩
          rw [← hY] at d1 d2
          clear hY
          have HBE : Hid (Below w.heap.size w wr) := HB5.out.trans (HBZ.out.mono HB5.out.size)
          go_wp2_with fail
          go_quiet (fail)
          go_wp2_with fail
          go_ret
          exact ⟨by simp, bdN HBE.out _⟩
end Go.Proofs.YtpmmmgjiekikeaaDoor
