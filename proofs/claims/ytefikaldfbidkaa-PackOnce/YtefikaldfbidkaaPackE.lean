/- The walk of Text; the closed case that every statement of this layer runs first. -/
import Derived.Test.YtefikaldfbidkaaPackD
namespace Go.Proofs.Ytefikaldfbidkaa
open Go.RowKit
set_option linter.unusedVariables false

/-- What Text answers. -/
def ta (bs : List Int) : List Int × Int × Bool := match tx bs with
  | none => ([], 0, false)
  | some (s, n) => (s, n, true)
theorem ta_none (bs : List Int) (h : tx bs = none) : ta bs = ([], 0, false) := by unfold ta; rw [h]
theorem ta_some (bs s : List Int) (n : Nat) (h : tx bs = some (s, n)) : ta bs = (s, (n : Int), true) := by unfold ta; rw [h]
theorem str_nil : strOfNums [] = ⟨#[]⟩ := rfl

theorem cut_part {w : World} {a : Option Addr} {len cap : Nat} {xs : List Int} (h : Rd .u8 w a len xs) (lo m : Nat) (h2 : lo + m ≤ len) (h3 : len ≤ cap) :
    ∃ a', (∀ W, (Instr.slice 22 (.slice a len cap) (some (.int .i64 lo)) (some (.int .i64 ((lo : Int) + (m : Int)))) none).run Try.prog W = .ok (.slice a' m (cap - lo)) W) ∧ Rd .u8 w a' m ((xs.drop lo).take m) := by
  obtain ⟨a', h4, h5⟩ := cut_mid h lo (lo + m) (by omega) h2 h3
  rw [show lo + m - lo = m by omega] at h5
  refine ⟨a', fun W => ?_, h5⟩
  have := h4 W
  rw [show lo + m - lo = m by omega, Int.natCast_add] at this
  exact this

set_option maxHeartbeats 1000000 in
theorem text_any (bs : List Int) (a : Option Addr) (len cap : Nat) (w : World) (hr : ∀ y ∈ bs, 0 ≤ y ∧ y ≤ 255) (hrd : Rd .u8 w a len bs) (hc : len ≤ cap) (hm : len ≤ 9223372036854775807) :
    Calls Try.prog 17 #[.slice a len cap] w fun e w' => e = .returned (.tuple #[.string (strOfNums (ta bs).1), .int .i64 (ta bs).2.1, .bool (ta bs).2.2]) ∧ w' = w := by
  have HR : Hid (∀ y ∈ bs, 0 ≤ y ∧ y ≤ 255) := hr
  have HD : Hid (Rd .u8 w a len bs) := hrd
  have HL : Hid (bs.length = len) := hrd.1
  obtain ⟨T, hT⟩ : ∃ T, T = ta bs := ⟨_, rfl⟩
  rw [← hT]
  have HT : Hid (T = ta bs) := hT
  clear hr hrd hT
  cases hg : gt bs with
  | none =>
    have HG : Hid (gt bs = none) := hg
    clear hg
    go_enter Try.func17, Try.ntmps17
    go_wp2_with (first | (go_at_call 22; refine (number_any bs a len cap _ HR.out HD.out hm).mono ?_; rw [ga_none bs HG.out]; rintro e w' ⟨rfl, hw'⟩; obtain rfl : w = w' := hw'.symm))
    go_ret3
    exact ⟨by rw [HT.out, ta_none bs (tx_none bs HG.out)]; rfl, rfl⟩
  | some p =>
    obtain ⟨v, n⟩ := p
    have HG : Hid (gt bs = some (v, n)) := hg
    have hi := gt_inv bs v n HR.out hg
    have hv0 : 0 ≤ v := hi.1
    have hv1 : v ≤ 18446744073709551615 := hi.2.1
    have hn : n ≤ len := by have := hi.2.2.1; rw [HL.out] at this; exact this
    clear hg hi
    by_cases hb : (len : Int) - n < v
    · go_enter Try.func17, Try.ntmps17
      go_wp2_with (first | (go_at_call 22; refine (number_any bs a len cap _ HR.out HD.out hm).mono ?_; rw [ga_some bs v n HG.out]; rintro e w' ⟨rfl, hw'⟩; obtain rfl : w = w' := hw'.symm))
      go_ret3
      exact ⟨by rw [HT.out, ta_none bs (tx_big bs v n HG.out (by rw [HL.out]; exact hb))]; rfl, rfl⟩
    · obtain ⟨m, rfl⟩ : ∃ m : Nat, v = (m : Int) := ⟨v.toNat, by omega⟩
      have hnm : n + m ≤ len := by omega
      obtain ⟨a', hcut, hrd'⟩ := cut_part HD.out n m hnm hc
      have hcv := conv_str (cap := cap - n) hrd'
      have hle : (m : Int) ≤ (len : Int) - n := by omega
      clear hrd' hb
      go_enter Try.func17, Try.ntmps17
      go_wp2_with (first | (go_at_call 22; refine (number_any bs a len cap _ HR.out HD.out hm).mono ?_; rw [ga_some bs (m : Int) n HG.out]; rintro e w' ⟨rfl, hw'⟩; obtain rfl : w = w' := hw'.symm))
      go_ret3
      exact ⟨by rw [HT.out, ta_some bs _ _ (tx_some bs (m : Int) n HG.out (by rw [HL.out]; exact hle))]; simp, rfl⟩

set_option maxHeartbeats 1000000 in
theorem shown_any (w : World) : Calls Try.prog 9 #[] w fun e w' => e = .returned (.bool true) ∧ Below w.heap.size w w' := by
  have e300 : pk 300 = [172, 2] := by decide
  have s300 : strOfNums [172, 2] = ⟨#[172, 2]⟩ := by decide
  have sab : strOfNums [97, 98] = ⟨#[97, 98]⟩ := by decide
  have pab : pt [97, 98] = [2, 97, 98] := by decide
  have s2ab : strOfNums [2, 97, 98] = ⟨#[2, 97, 98]⟩ := by decide
  have E300 : Hid (pk 300 = [172, 2]) := e300
  have S300 : Hid (strOfNums [172, 2] = ⟨#[172, 2]⟩) := s300
  have SAB : Hid (strOfNums [97, 98] = ⟨#[97, 98]⟩) := sab
  have PAB : Hid (pt [97, 98] = [2, 97, 98]) := pab
  have S2AB : Hid (strOfNums [2, 97, 98] = ⟨#[2, 97, 98]⟩) := s2ab
  clear e300 s300 sab pab s2ab
  go_enter Try.func9, Try.ntmps9
  go_wp2_with fail
  refine (get_any [128, 0] _ _ _ _ (by decide) (rd_two .u8 w 128 0 _ _ rfl) (by omega)).mono ?_
  rw [ga_none [128, 0] (by decide)]
  rintro e w1 ⟨rfl, rfl⟩
  have HB1 : Hid (∀ o : Obj, Below w.heap.size w (w.alloc o)) := fun o => (Below.refl _ w).alloc (Nat.le_refl _) o
  go_wp2_with fail
  refine (put_any none 0 0 [] 300 _ (by omega) (by omega) (rd_nil _ _) (fun _ => rfl) (by omega)).mono ?_
  rw [E300.out]
  rintro e w2 ⟨hb2, a2, cap2, rfl, hc2, hm2, hr2, _⟩
  have HB2 : Hid (Below w.heap.size w w2) := (HB1.out _).trans (hb2.mono (by simp))
  have hr2' : Rd .u8 w2 a2 2 [172, 2] := hr2
  have hcv2 := conv_str (cap := cap2) hr2'
  rw [S300.out] at hcv2
  clear hb2 hr2 hr2' HB1 hc2 hm2
  simp only [List.length_cons, List.length_nil, Nat.zero_add, Nat.reduceAdd]
  go_wp2_with fail
  rw [← SAB.out]
  refine (puttext_any none 0 0 [] [97, 98] _ (by simp) (by decide) (rd_nil _ _) (fun _ => rfl) (by omega)).mono ?_
  rw [PAB.out]
  rintro e w3 ⟨hb3, a3, cap3, rfl, hc3, hm3, hr3, _⟩
  have HB3 : Hid (Below w.heap.size w w3) := HB2.out.trans (hb3.mono HB2.out.size)
  have hr3' : Rd .u8 w3 a3 3 [2, 97, 98] := hr3
  have hcv3 := conv_str (cap := cap3) hr3'
  rw [S2AB.out] at hcv3
  clear hb3 hr3 hr3' hcv2 hc3 hm3
  simp only [List.length_cons, List.length_nil, Nat.zero_add, Nat.reduceAdd]
  go_wp2_with fail
  refine (size_any 127 _ (by omega) (by omega)).mono ?_
  rw [show (pk 127).length = 1 by decide]
  rintro e w' ⟨rfl, hw'⟩
  obtain rfl : w3 = w' := hw'.symm
  go_wp2_with fail
  refine (size_any 128 _ (by omega) (by omega)).mono ?_
  rw [show (pk 128).length = 2 by decide]
  rintro e w' ⟨rfl, hw'⟩
  obtain rfl : w3 = w' := hw'.symm
  go_wp2_with fail
  refine (size_any 18446744073709551615 _ (by omega) (by omega)).mono ?_
  rw [show (pk 18446744073709551615).length = 10 by decide]
  rintro e w' ⟨rfl, hw'⟩
  obtain rfl : w3 = w' := hw'.symm
  go_wp2
  go_ret
  exact ⟨rfl, HB3.out⟩
end Go.Proofs.Ytefikaldfbidkaa
