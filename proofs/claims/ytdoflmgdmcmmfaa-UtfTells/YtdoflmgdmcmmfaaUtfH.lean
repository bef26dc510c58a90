/- How an argument is cut to a length; from a row that came in to what can be read. -/
import Derived.Test.YtdoflmgdmcmmfaaUtfG
import Derived.Test.YtdoflmgdmcmmfaaUtfN
namespace Go.Proofs.Ytdoflmgdmcmmfaa
open Go.RowKit
set_option linter.unusedVariables false

theorem add_zero (a : Option Addr) (c : Nat) : (if c = 0 then a else a.map (·.add 0)) = a := by
  split
  · rfl
  · cases a with
    | none => rfl
    | some x => cases x; simp [Addr.add]
theorem min_run (len n : Nat) (c : Int) (h : (n : Int) = min (len : Int) c) (W : World) : (Builtin.min_ #[3, 3] 3 #[.int .i64 len, .int .i64 c]).run Try.prog W = .ok (.int .i64 n) W := by
  rw [run_min_int2, h]
  congr 2
  split <;> omega
theorem cut_bytes (a : Option Addr) (len cap n : Nat) (h : n ≤ cap) (W : World) : (Instr.slice 23 (.slice a len cap) none (some (.int .i64 n)) none).run Try.prog W = .ok (.slice a n cap) W := by
  have h0 : (0 : Int) ≤ (n : Int) := by omega
  have h1 : (n : Int) ≤ (cap : Int) := by omega
  go_simp
theorem cut_runes (a : Option Addr) (len cap n : Nat) (h : n ≤ cap) (W : World) : (Instr.slice 22 (.slice a len cap) none (some (.int .i64 n)) none).run Try.prog W = .ok (.slice a n cap) W := by
  have h0 : (0 : Int) ≤ (n : Int) := by omega
  have h1 : (n : Int) ≤ (cap : Int) := by omega
  go_simp
theorem rd_row {k : IntKind} {w : World} {a : Option Addr} {len cap : Nat} {zs : List Int}
    (h : (a = none ∧ len = 0 ∧ cap = 0 ∧ zs = []) ∨ ∃ x, a = some x ∧ len ≤ cap ∧ cap ≤ maxLen ∧ zs.length = cap ∧ (∀ i, i < zs.length → w.cell? (x.add i) = some (.int k (zs.getD i 0))) ∧ ∀ n ∈ zs, (Lit.int k n).wf = true) :
    len ≤ cap ∧ cap ≤ 9223372036854775807 ∧ (∀ n, n ≤ len → Rd k w a n (zs.take n)) ∧ ∀ n ∈ zs, (Lit.int k n).wf = true := by
  rcases h with ⟨rfl, rfl, rfl, rfl⟩ | ⟨x, rfl, h1, h2, h3, h4, h5⟩
  · exact ⟨by omega, by omega, fun n hn => ⟨by simp; omega, fun hp => absurd hp (by omega)⟩, by simp⟩
  · refine ⟨h1, by simpa [maxLen] using h2, fun n hn => ⟨by simp; omega, fun hp => ?_⟩, h5⟩
    obtain ⟨b, off, spot⟩ := x
    have h40 := h4 0 (by omega)
    have hspot : spot = none := by simpa [Addr.add] using World.cell?_spot h40
    subst hspot
    refine ⟨b, off, rfl, fun i hi => ?_⟩
    have := h4 i (by omega)
    have e : (⟨b, off, none⟩ : Addr).add i = ⟨b, off + i, none⟩ := by unfold Addr.add; split <;> simp_all
    rw [e] at this
    rw [this]
    simp [hi]
end Go.Proofs.Ytdoflmgdmcmmfaa
