/- What serves every layer: rows of numbers that can be read in memory, rows of the call's own, cuts, strings as rows of numbers; no function of the program is named here. -/
import Derived.Test.YtcbnmahbdcjamaaBasS
namespace Go.Proofs.Ytcbnmahbdcjamaa
open Go.RowKit
set_option linter.unusedVariables false

theorem info_u8 : (Try.prog.info? 5).map (fun i => (i.zero, i.size, i.bytes)) = some (some (.int .u8 0), 1, 1) := by kernel_rfl
theorem conv_str {w : World} {a : Option Addr} {len cap : Nat} {xs : List Int} (h : Rd .u8 w a len xs) :
    (convert 53 9 (.slice a len cap)).run Try.prog w = .ok (.string (strOfNums xs)) w := by
  obtain ⟨hl, hc⟩ := h
  by_cases hz : len = 0
  · subst hz
    obtain rfl : xs = [] := by cases xs with
      | nil => rfl
      | cons _ _ => simp at hl
    rw [run_convert_bytes_string w _ _ 5 _ 0 cap Try.underlying53 Try.underlying5 Try.underlying9]
    cases a <;> simp [Conv.bytesToString, loadCells]
    all_goals rfl
  · obtain ⟨b, off, rfl, hcc⟩ := hc (by omega)
    exact run_convert_bytes_arg w 53 5 Try.underlying53 Try.underlying5 b off len cap xs hl hcc 9 Try.underlying9
theorem cut_bytes (a : Option Addr) (len cap n : Nat) (h : n ≤ cap) (W : World) : (Instr.slice 53 (.slice a len cap) none (some (.int .i64 n)) none).run Try.prog W = .ok (.slice a n cap) W := by
  have h0 : (0 : Int) ≤ (n : Int) := by omega
  have h1 : (n : Int) ≤ (cap : Int) := by omega
  go_simp
end Go.Proofs.Ytcbnmahbdcjamaa
