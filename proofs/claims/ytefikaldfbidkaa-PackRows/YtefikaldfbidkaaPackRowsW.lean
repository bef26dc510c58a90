/- The walk of PackRows: whatever the numbers and the texts: true. -/
import Derived.Test.YtefikaldfbidkaaPackT
import Derived.BigQuiet
import Derived.Deep.DeepCutAuto
namespace Go.Proofs.Ytefikaldfbidkaa
open Go.RowKit
set_option linter.unusedVariables false

/-- Where the first loop stands: behind k turns. -/
def PutAt (w : World) (ls : List Int) (m : Nat) (T : Nat → List Int) (k : Nat) (x6 : Value) (wr : World) : Prop :=
  ∃ (a : Option Addr) (n cap : Nat), x6 = .slice a n cap ∧ n ≤ cap ∧ cap ≤ 9223372036854775807 ∧ (a = none → cap = 0) ∧ Rd .u8 wr a n (up ls m T k) ∧ Below w.heap.size w wr
/-- Where the second loop stands. -/
def GetAt (w : World) (ls : List Int) (m : Nat) (T : Nat → List Int) (k : Nat) (x6 : Value) (wr : World) : Prop :=
  ∃ (a : Option Addr) (n cap : Nat), x6 = .slice a n cap ∧ n ≤ cap ∧ cap ≤ 9223372036854775807 ∧ Rd .u8 wr a n (fr ls m T (30 - k) k) ∧ Below w.heap.size w wr
theorem putAt_len {w wr : World} {ls : List Int} {m k n : Nat} {S : Nat → ByteArray} {a : Option Addr} (h : Rd .u8 wr a n (up ls m (cut300 S) k)) (hk : k ≤ 30) : n ≤ 9600 := by
  have := up_len ls m (cut300 S) (cut300_len S) k
  have := h.1
  omega

theorem below_drewN {B : Nat} {w w' : World} (h : Below B w w') (n : Nat) : Below B w (w'.drewN n) := ⟨h.os, h.tape, h.output, h.size, h.block⟩

set_option maxRecDepth 100000 in
set_option maxHeartbeats 8000000 in
theorem packRows_walk (a0 a1 : Option Addr) (len0 cap0 len1 cap1 : Nat) (ls : List Int) (S : Nat → ByteArray) (w : World)
    (hr0 : Rd .u64 w a0 len0 ls) (hb0 : ∀ y ∈ ls, 0 ≤ y ∧ y ≤ 18446744073709551615) (hr1 : Rs w a1 len1 S) (hm0 : len0 ≤ 9223372036854775807) (hm1 : len1 ≤ 9223372036854775807) :
    Calls Try.prog 7 #[.slice a0 len0 cap0, .slice a1 len1 cap1] w fun e w' => e = .returned (.bool true) ∧ Below w.heap.size w w' := by
  have HR0 : Hid (Rd .u64 w a0 len0 ls) := hr0
  have HY0 : Hid (∀ y ∈ ls, 0 ≤ y ∧ y ≤ 18446744073709551615) := hb0
  have HR1 : Hid (Rs w a1 len1 S) := hr1
  have HL0 : Hid (ls.length = len0) := hr0.1
  obtain ⟨T, hT⟩ : ∃ T, T = cut300 S := ⟨_, rfl⟩
  have HT : Hid (T = cut300 S) := hT
  have HTL : Hid (∀ i, (T i).length ≤ 300) := by rw [hT]; exact cut300_len S
  have HTR : Hid (∀ i, ∀ y ∈ T i, 0 ≤ y ∧ y ≤ 255) := by rw [hT]; exact cut300_rng S
  clear hr0 hb0 hr1 hT
  go_enter Try.func7, Try.ntmps7
  go_wp2_with (first | (go_at_call 9; refine (shown_any _).mono ?_; rintro e w1 ⟨rfl, hb1⟩; have HB1 : Hid (Below w.heap.size w w1) := hb1; clear hb1))
  go_loopw [6, 7] (fun x6 x7 wr => ∃ k : Nat, k ≤ 30 ∧ x7 = .int .i64 k ∧ PutAt w ls len1 T k x6 wr) (fun _ x7 _ => 30 - (intOf x7).toNat)
  case atStart => exact ⟨0, by omega, rfl, none, 0, 0, rfl, by omega, by omega, fun _ => rfl, rd_nil _ _, HB1.out⟩
  case round =>
    obtain ⟨k, hk, hx7, a, n, cap, hx6, hnc, hcm, hz, hrd, hbel⟩ := hrel
    subst hx7 hx6
    have HRD : Hid (Rd .u8 wr a n (up ls len1 T k)) := hrd
    have HB : Hid (Below w.heap.size w wr) := hbel
    have HZ : Hid (a = none → cap = 0) := hz
    have hn : n ≤ 9600 := by rw [HT.out] at hrd; exact putAt_len (w := w) hrd hk
    clear hrd hbel hz HB1
    by_cases hlt : k < 30
    · by_cases hl0 : k < len0
      · by_cases hl1 : k < len1
        · have hlk : k < ls.length := by have := HL0.out; omega
          obtain ⟨b0, o0, rfl, hcl0⟩ := (HR0.out.later HB.out).2 (by omega)
          have hc0 := hcl0 k hl0
          obtain ⟨y, hy⟩ : ∃ y, y = ls.getD k 0 := ⟨_, rfl⟩
          rw [← hy] at hc0
          have hyr := HY0.out y (by rw [hy]; simp [hlk])
          have HYD : Hid (y = ls.getD k 0) := hy
          have hy0 : 0 ≤ y := hyr.1
          have hy1 : y ≤ 18446744073709551615 := hyr.2
          have hpl := pk_len y
          clear hcl0 hy hyr
          go_wp2_with fail
          refine (put_any a n cap (up ls len1 T k) y _ hy0 hy1 HRD.out HZ.out (by omega)).mono ?_
          rintro e w2 ⟨hb2, a2, cap2, rfl, hc2, hm2, hr2, hz2⟩
          have HB2 : Hid (Below w.heap.size w w2) := HB.out.trans (hb2.mono HB.out.size)
          have HR2 : Hid (Rd .u8 w2 a2 (n + (pk y).length) (up ls len1 T k ++ pk y)) := hr2
          have HZ2 : Hid (a2 = none → cap2 = 0) := hz2
          clear hb2 hr2 hz2
          obtain ⟨b1, o1, rfl, hcl1⟩ := (HR1.out.later HB2.out) (by omega)
          obtain ⟨hc1, hs1⟩ := hcl1 k hl1
          obtain ⟨Z, hZd⟩ : ∃ Z, Z = S k := ⟨_, rfl⟩
          rw [← hZd] at hc1 hs1
          obtain ⟨q, hq⟩ : ∃ q, q = min Z.size 300 := ⟨_, rfl⟩
          have hmin := min_run Z.size q 300 (by omega)
          have hcut := str_cut Z Z.size q 300 rfl (by omega) (by omega)
          have hTk : (nums Z).take q = T k := by rw [HT.out, hq, hZd]; rfl
          rw [hTk] at hcut
          have hTl := HTL.out k
          have hTr : Hid (∀ y ∈ T k, 0 ≤ y ∧ y ≤ 255) := HTR.out k
          clear hcl1 hZd hq hTk
          go_upto_region 9 with fail
          go_region_with (go_at_call 11; refine (puttext_any a2 (n + (pk y).length) cap2 (up ls len1 T k ++ pk y) (T k) _ (by omega) hTr.out (Rd.drew HR2.out) HZ2.out (by omega)).mono ?_; rintro e w3 ⟨hb3, a3, cap3, rfl, hc3, hm3, hr3, hz3⟩; have HB3 : Hid (Below w.heap.size w w3) := HB2.out.trans (below_undrew (hb3.mono HB2.out.size)); have HR3 : Hid (Rd .u8 w3 a3 (n + (pk y).length + (pt (T k)).length) (up ls len1 T k ++ pk y ++ pt (T k))) := hr3; have HZ3 : Hid (a3 = none → cap3 = 0) := hz3; clear hb3 hr3 hz3)
          all_goals
            go_wp2
            go_roundw
            case rel => exact ⟨k + 1, by omega, by go_num, a3, _, cap3, rfl, hc3, hm3, HZ3.out, by rw [up, item_yy ls len1 T k hlk hl1, ← HYD.out, ← List.append_assoc]; exact HR3.out, HB3.out⟩
            case measure => simp [intOf]; omega
        · have hlk : k < ls.length := by have := HL0.out; omega
          obtain ⟨b0, o0, rfl, hcl0⟩ := (HR0.out.later HB.out).2 (by omega)
          have hc0 := hcl0 k hl0
          obtain ⟨y, hy⟩ : ∃ y, y = ls.getD k 0 := ⟨_, rfl⟩
          rw [← hy] at hc0
          have hyr := HY0.out y (by rw [hy]; simp [hlk])
          have HYD : Hid (y = ls.getD k 0) := hy
          have hy0 : 0 ≤ y := hyr.1
          have hy1 : y ≤ 18446744073709551615 := hyr.2
          have hpl := pk_len y
          clear hcl0 hy hyr
          go_wp2_with fail
          refine (put_any a n cap (up ls len1 T k) y _ hy0 hy1 HRD.out HZ.out (by omega)).mono ?_
          rintro e w2 ⟨hb2, a2, cap2, rfl, hc2, hm2, hr2, hz2⟩
          have HB2 : Hid (Below w.heap.size w w2) := HB.out.trans (hb2.mono HB.out.size)
          have HR2 : Hid (Rd .u8 w2 a2 (n + (pk y).length) (up ls len1 T k ++ pk y)) := hr2
          have HZ2 : Hid (a2 = none → cap2 = 0) := hz2
          clear hb2 hr2 hz2
          go_wp2
          go_roundw
          case rel => exact ⟨k + 1, by omega, by go_num, a2, _, cap2, rfl, hc2, hm2, HZ2.out, by rw [up, item_yn ls len1 T k hlk hl1, ← HYD.out]; exact HR2.out, HB2.out⟩
          case measure => simp [intOf]; omega
      · have hlk : ¬ k < ls.length := by have := HL0.out; omega
        by_cases hl1 : k < len1
        · obtain ⟨b1, o1, rfl, hcl1⟩ := (HR1.out.later HB.out) (by omega)
          obtain ⟨hc1, hs1⟩ := hcl1 k hl1
          obtain ⟨Z, hZd⟩ : ∃ Z, Z = S k := ⟨_, rfl⟩
          rw [← hZd] at hc1 hs1
          obtain ⟨q, hq⟩ : ∃ q, q = min Z.size 300 := ⟨_, rfl⟩
          have hmin := min_run Z.size q 300 (by omega)
          have hcut := str_cut Z Z.size q 300 rfl (by omega) (by omega)
          have hTk : (nums Z).take q = T k := by rw [HT.out, hq, hZd]; rfl
          rw [hTk] at hcut
          have hTl := HTL.out k
          have hTr : Hid (∀ y ∈ T k, 0 ≤ y ∧ y ≤ 255) := HTR.out k
          clear hcl1 hZd hq hTk
          go_upto_region 9 with fail
          go_region_with (go_at_call 11; refine (puttext_any a (n) cap (up ls len1 T k) (T k) _ (by omega) hTr.out (Rd.drew HRD.out) HZ.out (by omega)).mono ?_; rintro e w3 ⟨hb3, a3, cap3, rfl, hc3, hm3, hr3, hz3⟩; have HB3 : Hid (Below w.heap.size w w3) := HB.out.trans (below_undrew (hb3.mono HB.out.size)); have HR3 : Hid (Rd .u8 w3 a3 (n + (pt (T k)).length) (up ls len1 T k ++ pt (T k))) := hr3; have HZ3 : Hid (a3 = none → cap3 = 0) := hz3; clear hb3 hr3 hz3)
          all_goals
            go_wp2
            go_roundw
            case rel => exact ⟨k + 1, by omega, by go_num, a3, _, cap3, rfl, hc3, hm3, HZ3.out, by rw [up, item_ny ls len1 T k hlk hl1]; exact HR3.out, HB3.out⟩
            case measure => simp [intOf]; omega
        · go_wp2
          go_roundw
          case rel => exact ⟨k + 1, by omega, by go_num, a, _, cap, rfl, hnc, hcm, HZ.out, by rw [up, item_nn ls len1 T k hlk hl1, List.append_nil]; exact HRD.out, HB.out⟩
          case measure => simp [intOf]; omega
    · obtain rfl : k = 30 := by omega
      have HGA : Hid (GetAt w ls len1 T 0 (.slice a n cap) wr) := ⟨a, n, cap, rfl, hnc, hcm, by rw [up_all]; exact HRD.out, HB.out⟩
      clear HRD HB hnc hcm hn hlt hk
      clear HZ
      go_wp2
      go_loopw [6, 8] (fun x6 x8 wr => ∃ k : Nat, k ≤ 30 ∧ x8 = .int .i64 k ∧ GetAt w ls len1 T k x6 wr) (fun _ x8 _ => 30 - (intOf x8).toNat)
      case atStart => exact ⟨0, by omega, rfl, HGA.out⟩
      case round =>
        obtain ⟨k, hk, hx8, a, n, cap, hx6, hnc, hcm, hrd, hbel⟩ := hrel
        subst hx8 hx6
        have HRD : Hid (Rd .u8 wr a n (fr ls len1 T (30 - k) k)) := hrd
        have HB : Hid (Below w.heap.size w wr) := hbel
        have HYF : Hid (∀ z ∈ fr ls len1 T (30 - k) k, 0 ≤ z ∧ z ≤ 255) := fr_rng ls len1 T HTL.out HTR.out HY0.out (30 - k) k
        clear hrd hbel HGA
        by_cases hlt : k < 30
        · obtain ⟨R, hR⟩ : ∃ R, R = fr ls len1 T (29 - k) (k + 1) := ⟨_, rfl⟩
          have HRF : Hid (R = fr ls len1 T (29 - k) (k + 1)) := hR
          by_cases hl0 : k < len0
          · by_cases hl1 : k < len1
            · obtain ⟨U, hU⟩ : ∃ U, U = pt (T k) ++ R := ⟨_, rfl⟩
              have hlk : k < ls.length := by have := HL0.out; omega
              obtain ⟨b0, o0, rfl, hcl0⟩ := (HR0.out.later HB.out).2 (by omega)
              have hc0 := hcl0 k hl0
              obtain ⟨y, hy⟩ : ∃ y, y = ls.getD k 0 := ⟨_, rfl⟩
              rw [← hy] at hc0
              have hyr := HY0.out y (by rw [hy]; simp [hlk])
              have HYD : Hid (y = ls.getD k 0) := hy
              have hy0 : 0 ≤ y := hyr.1
              have hy1 : y ≤ 18446744073709551615 := hyr.2
              have HSP : Hid (fr ls len1 T (30 - k) k = pk y ++ U) := by
                show _ = _
                rw [show 30 - k = (29 - k) + 1 by omega, fr, item_yy ls len1 T k hlk hl1, hy, hU]
                rw [hR, List.append_assoc]
              have HRA : Hid (Rd .u8 wr a n (pk y ++ U)) := by show Rd _ _ _ _ _; rw [← HSP.out]; exact HRD.out
              have HYA : Hid (∀ z ∈ pk y ++ U, 0 ≤ z ∧ z ≤ 255) := by show ∀ z ∈ _, _; rw [← HSP.out]; exact HYF.out
              have HGA : Hid (ga (pk y ++ U) = (y, ((pk y).length : Int), true)) := ga_some _ _ _ (gt_back y U hy0 hy1)
              obtain ⟨p, hp⟩ : ∃ p, p = (pk y).length := ⟨_, rfl⟩
              have HP : Hid (p = (pk y).length) := hp
              have hpn : p ≤ n := by have := HRA.out.1; rw [hp]; simp at this; omega
              obtain ⟨a2, hcut2, hr2⟩ := cut_from HRA.out p hpn hnc
              rw [show (pk y ++ U).drop p = U by rw [hp]; simp] at hr2
              have HR2 : Hid (Rd .u8 wr a2 (n - p) U) := hr2
              clear hcl0 hy hyr hp hr2 HRD
              obtain ⟨b1, o1, rfl, hcl1⟩ := (HR1.out.later HB.out) (by omega)
              obtain ⟨hc1, hs1⟩ := hcl1 k hl1
              obtain ⟨Z, hZd⟩ : ∃ Z, Z = S k := ⟨_, rfl⟩
              rw [← hZd] at hc1 hs1
              obtain ⟨q, hq⟩ : ∃ q, q = min Z.size 300 := ⟨_, rfl⟩
              have hmin := min_run Z.size q 300 (by omega)
              have hcut := str_cut Z Z.size q 300 rfl (by omega) (by omega)
              have hTk : (nums Z).take q = T k := by rw [HT.out, hq, hZd]; rfl
              rw [hTk] at hcut
              have hTl := HTL.out k
              have HTA : Hid (ta (pt (T k) ++ R) = (T k, ((pt (T k)).length : Int), true)) := ta_some _ _ _ (tx_back (T k) R (by omega))
              have hszT := strOfNums_size (T k)
              obtain ⟨L, hL⟩ : ∃ L, L = (pt (T k)).length := ⟨_, rfl⟩
              have HLL : Hid (L = (pt (T k)).length) := hL
              have hL1 : (T k).length + 1 ≤ L := by rw [hL, pt_len]; have := pk_len ((T k).length : Nat); omega
              clear hcl1 hZd hq hTk hL
              have HYB : Hid (∀ z ∈ pt (T k) ++ R, 0 ≤ z ∧ z ≤ 255) := by show ∀ z ∈ _, _; rw [← hU]; exact fun z hz => HYA.out z (by simp [hz])
              obtain ⟨n2, hn2⟩ : ∃ n2, n2 = n - p := ⟨_, rfl⟩
              obtain ⟨cap2, hcap2⟩ : ∃ cap2, cap2 = cap - p := ⟨_, rfl⟩
              have hnc2 : n2 ≤ cap2 := by omega
              have hcm2 : cap2 ≤ 9223372036854775807 := by omega
              rw [← hn2, ← hcap2] at hcut2
              rw [← hn2] at HR2
              have HR2' : Hid (Rd .u8 wr a2 n2 (pt (T k) ++ R)) := by show Rd _ _ _ _ _; rw [← hU]; exact HR2.out
              clear HR2 hU hR hn2 hcap2
              have hLn : L ≤ n2 := by have := HR2'.out.1; have h2 := HLL.out; simp at this; omega
              obtain ⟨a3, hcut3, hr3⟩ := cut_from HR2'.out L hLn (by omega)
              rw [show (pt (T k) ++ R).drop L = R by rw [HLL.out]; simp] at hr3
              have HR3 : Hid (Rd .u8 wr a3 (n2 - L) R) := hr3
              have he1 : decide (((n2 : Nat) : Int) < (L : Int)) = false := by simp; omega
              have he2 : decide (n2 < L) = false := by simp; omega
              have he3 : decide ((L : Int) < ((T k).length : Int) + 1) = false := by simp; omega
              have he4 : decide (L < (T k).length + 1) = false := by simp; omega
              clear hr3
              go_upto_region 20 with (first | (go_at_call 15; refine (get_any (pk y ++ U) _ _ _ _ HYA.out HRA.out (by omega)).mono ?_; rw [HGA.out, ← HP.out]; rintro e w' ⟨rfl, hw'⟩; obtain rfl : wr = w' := hw'.symm) | (go_at_call 14; refine (size_any y _ hy0 hy1).mono ?_; rw [← HP.out]; rintro e w' ⟨rfl, hw'⟩; obtain rfl : wr = w' := hw'.symm) | (go_at_call 17; refine (text_any (pt (T k) ++ R) _ _ _ _ HYB.out HR2'.out (by omega) (by omega)).mono ?_; rw [HTA.out, ← HLL.out]; rintro e w' ⟨rfl, hw'⟩; obtain rfl : wr = w' := hw'.symm))
              go_quiet (fail)
              go_wp2
              go_roundw
              case rel => (repeat apply Exists.intro); exact ⟨⟨k + 1, by omega, by go_num, a3, _, _, rfl, by omega, by omega, by rw [show 30 - (k + 1) = 29 - k by omega, ← HRF.out]; exact HR3.out.later (below_drewN (Below.refl _ _) _), below_drewN HB.out _⟩, rfl⟩
              case measure => simp [intOf]; omega
            · have hlk : k < ls.length := by have := HL0.out; omega
              obtain ⟨b0, o0, rfl, hcl0⟩ := (HR0.out.later HB.out).2 (by omega)
              have hc0 := hcl0 k hl0
              obtain ⟨y, hy⟩ : ∃ y, y = ls.getD k 0 := ⟨_, rfl⟩
              rw [← hy] at hc0
              have hyr := HY0.out y (by rw [hy]; simp [hlk])
              have HYD : Hid (y = ls.getD k 0) := hy
              have hy0 : 0 ≤ y := hyr.1
              have hy1 : y ≤ 18446744073709551615 := hyr.2
              have HSP : Hid (fr ls len1 T (30 - k) k = pk y ++ R) := by
                show _ = _
                rw [show 30 - k = (29 - k) + 1 by omega, fr, item_yn ls len1 T k hlk hl1, hy, hR]
              have HRA : Hid (Rd .u8 wr a n (pk y ++ R)) := by show Rd _ _ _ _ _; rw [← HSP.out]; exact HRD.out
              have HYA : Hid (∀ z ∈ pk y ++ R, 0 ≤ z ∧ z ≤ 255) := by show ∀ z ∈ _, _; rw [← HSP.out]; exact HYF.out
              have HGA : Hid (ga (pk y ++ R) = (y, ((pk y).length : Int), true)) := ga_some _ _ _ (gt_back y R hy0 hy1)
              obtain ⟨p, hp⟩ : ∃ p, p = (pk y).length := ⟨_, rfl⟩
              have HP : Hid (p = (pk y).length) := hp
              have hpn : p ≤ n := by have := HRA.out.1; rw [hp]; simp at this; omega
              obtain ⟨a2, hcut2, hr2⟩ := cut_from HRA.out p hpn hnc
              rw [show (pk y ++ R).drop p = R by rw [hp]; simp] at hr2
              have HR2 : Hid (Rd .u8 wr a2 (n - p) R) := hr2
              clear hcl0 hR hy hyr hp hr2 HRD
              go_wp2_with (first | (go_at_call 15; refine (get_any (pk y ++ R) _ _ _ _ HYA.out HRA.out (by omega)).mono ?_; rw [HGA.out, ← HP.out]; rintro e w' ⟨rfl, hw'⟩; obtain rfl : wr = w' := hw'.symm) | (go_at_call 14; refine (size_any y _ hy0 hy1).mono ?_; rw [← HP.out]; rintro e w' ⟨rfl, hw'⟩; obtain rfl : wr = w' := hw'.symm))
              go_roundw
              case rel => (repeat apply Exists.intro); exact ⟨⟨k + 1, by omega, by go_num, a2, _, _, rfl, by omega, by omega, by rw [show 30 - (k + 1) = 29 - k by omega, ← HRF.out]; exact HR2.out, HB.out⟩, rfl⟩
              case measure => simp [intOf]; omega
          · have hlk : ¬ k < ls.length := by have := HL0.out; omega
            by_cases hl1 : k < len1
            · have HSP : Hid (fr ls len1 T (30 - k) k = pt (T k) ++ R) := by
                show _ = _
                rw [show 30 - k = (29 - k) + 1 by omega, fr, item_ny ls len1 T k hlk hl1, hR]
              have HRB : Hid (Rd .u8 wr a n (pt (T k) ++ R)) := by show Rd _ _ _ _ _; rw [← HSP.out]; exact HRD.out
              have HYB : Hid (∀ z ∈ pt (T k) ++ R, 0 ≤ z ∧ z ≤ 255) := by show ∀ z ∈ _, _; rw [← HSP.out]; exact HYF.out
              clear hR HRD
              obtain ⟨b1, o1, rfl, hcl1⟩ := (HR1.out.later HB.out) (by omega)
              obtain ⟨hc1, hs1⟩ := hcl1 k hl1
              obtain ⟨Z, hZd⟩ : ∃ Z, Z = S k := ⟨_, rfl⟩
              rw [← hZd] at hc1 hs1
              obtain ⟨q, hq⟩ : ∃ q, q = min Z.size 300 := ⟨_, rfl⟩
              have hmin := min_run Z.size q 300 (by omega)
              have hcut := str_cut Z Z.size q 300 rfl (by omega) (by omega)
              have hTk : (nums Z).take q = T k := by rw [HT.out, hq, hZd]; rfl
              rw [hTk] at hcut
              have hTl := HTL.out k
              have HTA : Hid (ta (pt (T k) ++ R) = (T k, ((pt (T k)).length : Int), true)) := ta_some _ _ _ (tx_back (T k) R (by omega))
              have hszT := strOfNums_size (T k)
              obtain ⟨L, hL⟩ : ∃ L, L = (pt (T k)).length := ⟨_, rfl⟩
              have HLL : Hid (L = (pt (T k)).length) := hL
              have hL1 : (T k).length + 1 ≤ L := by rw [hL, pt_len]; have := pk_len ((T k).length : Nat); omega
              clear hcl1 hZd hq hTk hL
              have hLn : L ≤ n := by have := HRB.out.1; have h2 := HLL.out; simp at this; omega
              obtain ⟨a3, hcut3, hr3⟩ := cut_from HRB.out L hLn (by omega)
              rw [show (pt (T k) ++ R).drop L = R by rw [HLL.out]; simp] at hr3
              have HR3 : Hid (Rd .u8 wr a3 (n - L) R) := hr3
              have he1 : decide (((n : Nat) : Int) < (L : Int)) = false := by simp; omega
              have he2 : decide (n < L) = false := by simp; omega
              have he3 : decide ((L : Int) < ((T k).length : Int) + 1) = false := by simp; omega
              have he4 : decide (L < (T k).length + 1) = false := by simp; omega
              clear hr3
              go_upto_region 20 with (first | (go_at_call 17; refine (text_any (pt (T k) ++ R) _ _ _ _ HYB.out HRB.out (by omega) (by omega)).mono ?_; rw [HTA.out, ← HLL.out]; rintro e w' ⟨rfl, hw'⟩; obtain rfl : wr = w' := hw'.symm))
              go_quiet (fail)
              go_wp2
              go_roundw
              case rel => (repeat apply Exists.intro); exact ⟨⟨k + 1, by omega, by go_num, a3, _, _, rfl, by omega, by omega, by rw [show 30 - (k + 1) = 29 - k by omega, ← HRF.out]; exact HR3.out.later (below_drewN (Below.refl _ _) _), below_drewN HB.out _⟩, rfl⟩
              case measure => simp [intOf]; omega
            · have HSP : Hid (fr ls len1 T (30 - k) k = R) := by
                show _ = _
                rw [show 30 - k = (29 - k) + 1 by omega, fr, item_nn ls len1 T k hlk hl1, hR, List.nil_append]
              clear hR
              go_wp2
              go_roundw
              case rel => exact ⟨k + 1, by omega, by go_num, a, _, _, rfl, by omega, by omega, by rw [show 30 - (k + 1) = 29 - k by omega, ← HRF.out, ← HSP.out]; exact HRD.out, HB.out⟩
              case measure => simp [intOf]; omega
        · obtain rfl : k = 30 := by omega
          have hn0 : n = 0 := by have := HRD.out.1; simp [fr] at this; omega
          subst hn0
          go_wp2
          go_ret
          exact ⟨rfl, HB.out⟩
end Go.Proofs.Ytefikaldfbidkaa
