/- The walk of digits: a number to base sixteen, in as many digits as it takes, four at least. -/
import Derived.Test.YtgncpchgmjacdaaGreatDoorPropsB
import Derived.Test.YtgncpchgmjacdaaGreatDoorPropsP
import Derived.Laws.Runes
namespace Go.Proofs.YtgncpchgmjacdaaGreatDoor
open Go.RowKit
set_option linter.unusedVariables false

theorem hexn_front : (k v : Nat) → hexn (k + 1) v = hexc (v / 16 ^ k % 16) :: hexn k v
  | 0, v => by simp [hexn]
  | k + 1, v => by
    rw [hexn, hexn_front k (v / 16), Nat.div_div_eq_div_mul, show 16 * 16 ^ k = 16 ^ (k + 1) by rw [Nat.pow_succ]; omega]
    rfl
theorem hexc_rng (d : Nat) (h : d < 16) : 0 ≤ hexc d ∧ hexc d ≤ 255 := by unfold hexc; split <;> omega
theorem hexn_rng : (k v : Nat) → ∀ y ∈ hexn k v, 0 ≤ y ∧ y ≤ 255
  | 0, v => by intro y hy; cases hy
  | k + 1, v => by
    intro y hy
    rw [hexn] at hy
    rcases List.mem_append.1 hy with hy | hy
    · exact hexn_rng k (v / 16) y hy
    · rw [List.mem_singleton.1 hy]; exact hexc_rng _ (Nat.mod_lt _ (by decide))
def dgT : List Int := [48, 49, 50, 51, 52, 53, 54, 55, 56, 57, 65, 66, 67, 68, 69, 70]
theorem dg_s : strOfNums dgT = ⟨#[48, 49, 50, 51, 52, 53, 54, 55, 56, 57, 65, 66, 67, 68, 69, 70]⟩ := by decide
theorem dg_at : ∀ d : Fin 16, dgT.getD d.val 0 = hexc d.val := by decide
theorem dg_enc : ∀ d : Fin 16, Utf8.encode (hexc d.val) = strOfNums [hexc d.val] := by decide
theorem dg_ix (d : Nat) (h : d < 16) (W : World) : (Instr.index 9 (.string ⟨#[48, 49, 50, 51, 52, 53, 54, 55, 56, 57, 65, 66, 67, 68, 69, 70]⟩) (.int .i64 d)).run Tryz.prog W = .ok (.int .u8 (hexc d)) W := by
  rw [← dg_s, ← dg_at ⟨d, h⟩]
  exact str_at dgT d (by show d < 16; exact h) (by decide) W
theorem dg_cv (d : Nat) (h : d < 16) (W : World) : (convert 5 9 (.int .u8 (hexc d))).run Tryz.prog W = .ok (.string (strOfNums [hexc d])) W := by
  rw [run_convert_int_string W 5 9 .u8 (hexc d) (by rw [Tryz.underlying5]; rfl) Tryz.underlying9, dg_enc ⟨d, h⟩]
theorem dg_go (v k : Nat) (hv : v < 16777216) (hk : k < 6) (h : k < 4 ∨ 0 < v / 16 ^ k) : k + 1 ≤ dgn v := by
  unfold dgn
  rcases (by omega : k = 0 ∨ k = 1 ∨ k = 2 ∨ k = 3 ∨ k = 4 ∨ k = 5) with rfl | rfl | rfl | rfl | rfl | rfl <;> (repeat' split) <;> omega
theorem dg_end (v k : Nat) (hv : v < 16777216) (hk : k ≤ dgn v) (h : k = 6 ∨ (4 ≤ k ∧ v / 16 ^ k = 0)) : k = dgn v := by
  have h6 : dgn v ≤ 6 := (dgn_fits v hv).2.1
  rcases h with rfl | ⟨h4, h0⟩
  · omega
  · unfold dgn at *
    rcases (by omega : k = 4 ∨ k = 5 ∨ k = 6) with rfl | rfl | rfl <;> (repeat' split) <;> (repeat' split at hk) <;> (repeat' split at h6) <;> omega

set_option maxHeartbeats 2000000 in
theorem digits_any (v : Nat) (hv : v < 16777216) (w : World) :
    Calls Tryz.prog 19 #[.int .i64 v] w fun e w' => e = .returned (.string (strOfNums (hexn (dgn v) v))) ∧ w' = w := by
  obtain ⟨R, hR⟩ : ∃ R, R = strOfNums (hexn (dgn v) v) := ⟨_, rfl⟩
  have HR : Hid (R = strOfNums (hexn (dgn v) v)) := hR
  rw [← hR]
  have HV : Hid (v < 16777216) := hv
  clear hR
  go_enter Tryz.func19, Tryz.ntmps19
  go_wp2
  go_loop [0, 3, 4] (fun x0 x3 x4 => ∃ (n k : Nat), x0 = .int .i64 n ∧ x3 = .string (strOfNums (hexn k v)) ∧ x4 = .int .i64 k ∧ n = v / 16 ^ k ∧ k ≤ dgn v ∧ k ≤ 6) (fun _ _ x4 => 6 - (intOf x4).toNat)
  case atStart => exact ⟨v, 0, rfl, rfl, rfl, by simp, by omega, by omega⟩
  case round =>
    obtain ⟨n, k, hx0, hx3, hx4, hn, hkd, hk6⟩ := hrel
    subst hx0 hx3 hx4
    have hn1 : n < 16777216 := by rw [hn]; exact Nat.lt_of_le_of_lt (Nat.div_le_self _ _) hv
    have HN : Hid (n = v / 16 ^ k) := hn
    have HKD : Hid (k ≤ dgn v) := hkd
    obtain ⟨sx, hsx⟩ : ∃ sx, sx = strOfNums (hexn k v) := ⟨_, rfl⟩
    rw [← hsx]
    have HSX : Hid (sx = strOfNums (hexn k v)) := hsx
    clear hn hkd hsx hv
    by_cases hgo : k < 6 ∧ (k < 4 ∨ 0 < n)
    · obtain ⟨d, hd⟩ : ∃ d : Nat, d = n % 16 := ⟨_, rfl⟩
      have hd16 : d < 16 := by rw [hd]; exact Nat.mod_lt _ (by decide)
      obtain ⟨q, hq⟩ : ∃ q : Nat, q = n / 16 := ⟨_, rfl⟩
      obtain ⟨c, hc⟩ : ∃ c, c = hexc d := ⟨_, rfl⟩
      have hix := dg_ix d hd16
      have hcv := dg_cv d hd16
      rw [← hc] at hix hcv
      obtain ⟨sb, hsb⟩ : ∃ sb, sb = strOfNums [c] := ⟨_, rfl⟩
      rw [← hsb] at hcv
      obtain ⟨sy, hsy⟩ : ∃ sy, sy = strOfNums (hexn (k + 1) v) := ⟨_, rfl⟩
      have HSY : Hid (sy = strOfNums (hexn (k + 1) v)) := hsy
      have hadd : ∀ W, (Op.stringOp .add sb sx).run Tryz.prog W = .ok (.string sy) W := by
        rw [hsb, HSX.out, hsy, hexn_front k v, ← HN.out, ← hd, ← hc]
        exact add_str [c] (hexn k v) (by rw [hexn_len]; simp; omega)
      have HNX : Hid (q = v / 16 ^ (k + 1) ∧ k + 1 ≤ dgn v) := by
        refine ⟨?_, dg_go v k HV.out hgo.1 (by rw [← HN.out]; exact hgo.2)⟩
        rw [hq, HN.out, Nat.div_div_eq_div_mul, Nat.pow_succ]
      have hrem : (n : Int).tmod 16 = (d : Int) := by rw [Int.tmod_eq_emod_of_nonneg (by omega)]; omega
      have hquo : (n : Int).tdiv 16 = (q : Int) := by rw [Int.tdiv_eq_ediv_of_nonneg (by omega)]; omega
      have hw3 : IntKind.i64.wrap (q : Int) = (q : Int) := by rw [IntKind.wrap_i64]; omega
      have hw4 : IntKind.i64.wrap (d : Int) = (d : Int) := by rw [IntKind.wrap_i64]; omega
      obtain ⟨g6, g4⟩ := hgo
      clear hd hq hc hsb hsy
      by_cases k4 : k < 4
      · go_wp2
        go_round
        case rel => exact ⟨q, k + 1, rfl, by rw [← HSY.out], by go_num, HNX.out.1, HNX.out.2, by omega⟩
        case measure => simp [intOf]; omega
      · have hn0 : 0 < n := by omega
        clear g4
        go_wp2
        go_round
        case rel => exact ⟨q, k + 1, rfl, by rw [← HSY.out], by go_num, HNX.out.1, HNX.out.2, by omega⟩
        case measure => simp [intOf]; omega
    · have hk : k = dgn v := dg_end v k HV.out HKD.out (by
        rw [← HN.out]
        omega)
      have HSR : Hid (sx = R) := by show _ = _; rw [HSX.out, HR.out, ← hk]
      clear hk
      by_cases k6 : k < 6
      · have k4 : ¬ k < 4 := by omega
        obtain rfl : n = 0 := by omega
        clear hgo
        go_wp2
        go_ret
        rw [HSR.out]
        exact ⟨rfl, rfl⟩
      · clear hgo
        go_wp2
        go_ret
        rw [HSR.out]
        exact ⟨rfl, rfl⟩
end Go.Proofs.YtgncpchgmjacdaaGreatDoor
