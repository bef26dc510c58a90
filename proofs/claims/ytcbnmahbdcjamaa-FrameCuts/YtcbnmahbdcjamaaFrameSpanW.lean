/- The walk of FrameSpan. -/
import Derived.Test.YtcbnmahbdcjamaaFrameBackW
namespace Go.Proofs.Ytcbnmahbdcjamaa
open Go.RowKit
set_option linter.unusedVariables false
set_option linter.unusedSimpArgs false

theorem srcU8 {w : World} {a : Option Addr} {m c : Nat} {xs : List Int} (h : Rd .u8 w a m xs) (hn : a = none → c = 0) : SrcAt w a m c 1 (xs.map (Value.int .u8)) := by
  refine ⟨by rw [List.length_map, h.1]; omega, fun e => ⟨?_, hn e⟩, fun y e => ?_, by simp [Value.oneCell']⟩
  · rcases Nat.eq_zero_or_pos m with h0 | h0
    · exact h0
    · obtain ⟨b, off, hb, _⟩ := h.2 h0; rw [e] at hb; cases hb
  · subst e
    exact rd_news h
theorem cutC_none (f : Frm) (hf : frB (cutF f) = true) (k : Nat) (hk : k < (bytesN (cutF f)).length) : oaN ((bytesN (cutF f)).take k) = ([], 0, false) := by
  unfold oaN
  rw [show bytesN (cutF f) = wrapN (bodyN (cutF f)) from rfl] at hk ⊢
  rw [opn_cut _ k (bodyN_byt _ (cut_ok f hf)) (body_len f) hk]
theorem cutC_more (f : Frm) (more : List Int) : oaN (bytesN (cutF f) ++ more) = (bodyN (cutF f), ((bytesN (cutF f)).length : Int), true) := by
  unfold oaN
  rw [show bytesN (cutF f) = wrapN (bodyN (cutF f)) from rfl, opn_wrap _ more (body_len f)]
end Go.Proofs.Ytcbnmahbdcjamaa
