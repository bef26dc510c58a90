/- The walk of Text; the closed case that every statement of this layer runs first. -/
import Derived.Test.YtcbnmahbdcjamaaPackD
namespace Go.Proofs.Ytcbnmahbdcjamaa
open Go.RowKit
set_option linter.unusedVariables false

/-- What Text answers. -/
def ta (bs : List Int) : List Int × Int × Bool := match tx bs with
  | none => ([], 0, false)
  | some (s, n) => (s, n, true)
theorem ta_none (bs : List Int) (h : tx bs = none) : ta bs = ([], 0, false) := by unfold ta; rw [h]
theorem ta_some (bs s : List Int) (n : Nat) (h : tx bs = some (s, n)) : ta bs = (s, (n : Int), true) := by unfold ta; rw [h]
theorem str_nil : strOfNums [] = ⟨#[]⟩ := rfl

theorem cut_part {w : World} {a : Option Addr} {len cap : Nat} {xs : List Int} (h : Rd .u8 w a len xs) (lo m : Nat) (h2 : lo + m ≤ len) (h3 : len ≤ cap) :
    ∃ a', (∀ W, (Instr.slice 53 (.slice a len cap) (some (.int .i64 lo)) (some (.int .i64 ((lo : Int) + (m : Int)))) none).run Try.prog W = .ok (.slice a' m (cap - lo)) W) ∧ Rd .u8 w a' m ((xs.drop lo).take m) := by
  obtain ⟨a', h4, h5⟩ := cut_mid h lo (lo + m) (by omega) h2 h3
  rw [show lo + m - lo = m by omega] at h5
  refine ⟨a', fun W => ?_, h5⟩
  have := h4 W
  rw [show lo + m - lo = m by omega, Int.natCast_add] at this
  exact this

set_option maxRecDepth 100000 in
set_option maxHeartbeats 1000000 in
theorem text_any (bs : List Int) (a : Option Addr) (len cap : Nat) (w : World) (hr : ∀ y ∈ bs, 0 ≤ y ∧ y ≤ 255) (hrd : Rd .u8 w a len bs) (hc : len ≤ cap) (hm : len ≤ 9223372036854775807) :
    Calls Try.prog 132 #[.slice a len cap] w fun e w' => e = .returned (.tuple #[.string (strOfNums (ta bs).1), .int .i64 (ta bs).2.1, .bool (ta bs).2.2]) ∧ w' = w := by
  have HR : Hid (∀ y ∈ bs, 0 ≤ y ∧ y ≤ 255) := hr
  have HD : Hid (Rd .u8 w a len bs) := hrd
  have HL : Hid (bs.length = len) := hrd.1
  obtain ⟨T, hT⟩ : ∃ T, T = ta bs := ⟨_, rfl⟩
  rw [← hT]
  have HT : Hid (T = ta bs) := hT
  clear hr hrd hT
  cases hg : gt bs with
  | none =>
    have HG : Hid (gt bs = none) := hg
    clear hg
    go_enter Try.func132, Try.ntmps132
    go_wp2_with (first | (go_at_call 154; refine (number_any bs a len cap _ HR.out HD.out hm).mono ?_; rw [ga_none bs HG.out]; rintro e w' ⟨rfl, hw'⟩; obtain rfl : w = w' := hw'.symm))
    go_ret3
    exact ⟨by rw [HT.out, ta_none bs (tx_none bs HG.out)]; rfl, rfl⟩
  | some p =>
    obtain ⟨v, n⟩ := p
    have HG : Hid (gt bs = some (v, n)) := hg
    have hi := gt_inv bs v n HR.out hg
    have hv0 : 0 ≤ v := hi.1
    have hv1 : v ≤ 18446744073709551615 := hi.2.1
    have hn : n ≤ len := by have := hi.2.2.1; rw [HL.out] at this; exact this
    clear hg hi
    by_cases hb : (len : Int) - n < v
    · go_enter Try.func132, Try.ntmps132
      go_wp2_with (first | (go_at_call 154; refine (number_any bs a len cap _ HR.out HD.out hm).mono ?_; rw [ga_some bs v n HG.out]; rintro e w' ⟨rfl, hw'⟩; obtain rfl : w = w' := hw'.symm))
      go_ret3
      exact ⟨by rw [HT.out, ta_none bs (tx_big bs v n HG.out (by rw [HL.out]; exact hb))]; rfl, rfl⟩
    · obtain ⟨m, rfl⟩ : ∃ m : Nat, v = (m : Int) := ⟨v.toNat, by omega⟩
      have hnm : n + m ≤ len := by omega
      obtain ⟨a', hcut, hrd'⟩ := cut_part HD.out n m hnm hc
      have hcv := conv_str (cap := cap - n) hrd'
      have hle : (m : Int) ≤ (len : Int) - n := by omega
      clear hrd' hb
      go_enter Try.func132, Try.ntmps132
      go_wp2_with (first | (go_at_call 154; refine (number_any bs a len cap _ HR.out HD.out hm).mono ?_; rw [ga_some bs (m : Int) n HG.out]; rintro e w' ⟨rfl, hw'⟩; obtain rfl : w = w' := hw'.symm))
      go_ret3
      exact ⟨by rw [HT.out, ta_some bs _ _ (tx_some bs (m : Int) n HG.out (by rw [HL.out]; exact hle))]; simp, rfl⟩

end Go.Proofs.Ytcbnmahbdcjamaa
