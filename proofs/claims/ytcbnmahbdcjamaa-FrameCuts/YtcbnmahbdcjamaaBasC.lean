/- What serves every layer: worlds that differ by draws alone; a slice cut with its room. -/
import Derived.Test.YtcbnmahbdcjamaaBasB
import Derived.Deep.RegionWith
namespace Go.Proofs.Ytcbnmahbdcjamaa
open Go.RowKit
set_option linter.unusedVariables false

/-- The conversion to a string, behind no to three draws. -/
theorem conv4 {w : World} {a : Option Addr} {len cap : Nat} {xs : List Int} (h : Rd .u8 w a len xs) :
    (convert 53 9 (.slice a len cap)).run Try.prog w = .ok (.string (strOfNums xs)) w ∧ (convert 53 9 (.slice a len cap)).run Try.prog w.drew = .ok (.string (strOfNums xs)) w.drew ∧
    (convert 53 9 (.slice a len cap)).run Try.prog w.drew.drew = .ok (.string (strOfNums xs)) w.drew.drew ∧ (convert 53 9 (.slice a len cap)).run Try.prog w.drew.drew.drew = .ok (.string (strOfNums xs)) w.drew.drew.drew :=
  ⟨conv_str h, conv_str h.drew, conv_str h.drew.drew, conv_str h.drew.drew.drew⟩
theorem cut_room (a : Option Addr) (n cap : Nat) (h : n ≤ cap) (W : World) : (Instr.slice 53 (.slice a n cap) none (some (.int .i64 n)) (some (.int .i64 n))).run Try.prog W = .ok (.slice a n n) W := by
  have h0 : (0 : Int) ≤ (n : Int) := by omega
  have h1 : (n : Int) ≤ (cap : Int) := by omega
  have h2 : (n : Int) ≤ (n : Int) := by omega
  go_simp
end Go.Proofs.Ytcbnmahbdcjamaa
