/- What serves every layer: cuts of slices in the midst, strings of any bytes, appending a string. -/
import Derived.Test.YtcbnmahbdcjamaaBasA
import Derived.Lib.AppendStr
namespace Go.Proofs.Ytcbnmahbdcjamaa
open Go.RowKit
set_option linter.unusedVariables false

/-- A slice that is cut at both ends reads as the part. -/
theorem cut_mid {w : World} {a : Option Addr} {len cap : Nat} {xs : List Int} (h : Rd .u8 w a len xs) (lo hi : Nat) (h1 : lo ≤ hi) (h2 : hi ≤ len) (h3 : len ≤ cap) :
    ∃ a', (∀ W, (Instr.slice 53 (.slice a len cap) (some (.int .i64 lo)) (some (.int .i64 hi)) none).run Try.prog W = .ok (.slice a' (hi - lo) (cap - lo)) W) ∧ Rd .u8 w a' (hi - lo) ((xs.drop lo).take (hi - lo)) := by
  refine ⟨if cap = lo then a else a.map (·.add lo), fun W => ?_, by have := h.1; simp; omega, fun hp => ?_⟩
  · have g0 : (0 : Int) ≤ (lo : Int) := by omega
    have g1 : (lo : Int) ≤ (hi : Int) := by omega
    have g2 : (hi : Int) ≤ (cap : Int) := by omega
    go_simp
  · obtain ⟨b, off, rfl, hc⟩ := h.2 (by omega)
    rw [if_neg (by omega)]
    refine ⟨b, off + lo, by simp [add_lit], fun i hi' => ?_⟩
    rw [show off + lo + i = off + (lo + i) by omega, hc (lo + i) (by omega)]
    simp [hi']
/-- A slice that is cut at its beginning reads as the rest. -/
theorem cut_from {w : World} {a : Option Addr} {len cap : Nat} {xs : List Int} (h : Rd .u8 w a len xs) (lo : Nat) (h2 : lo ≤ len) (h3 : len ≤ cap) :
    ∃ a', (∀ W, (Instr.slice 53 (.slice a len cap) (some (.int .i64 lo)) none none).run Try.prog W = .ok (.slice a' (len - lo) (cap - lo)) W) ∧ Rd .u8 w a' (len - lo) (xs.drop lo) := by
  refine ⟨if cap = lo then a else a.map (·.add lo), fun W => ?_, by have := h.1; simp; omega, fun hp => ?_⟩
  · have g0 : (0 : Int) ≤ (lo : Int) := by omega
    have g1 : (lo : Int) ≤ (len : Int) := by omega
    go_simp
  · obtain ⟨b, off, rfl, hc⟩ := h.2 (by omega)
    rw [if_neg (by omega)]
    refine ⟨b, off + lo, by simp [add_lit], fun i hi' => ?_⟩
    rw [show off + lo + i = off + (lo + i) by omega, hc (lo + i) (by omega)]
    simp

/-- Any string is that of its numbers. -/
theorem wpList_append_nums {w : World} {ops : Array Oper} {rest : List Oper} {o : Oper} {a : Act} {Q : Exit → Act → World → Prop} (hgd : o.guard = none) (sl x : Operand)
    (ho : o.op = .call { callee := .builtin .append, args := #[sl, x], argTypes := #[53, 9] })
    (base : Nat) (v : Value) (n : Nat) (xs : List Int) (hs : a.eval sl = v) (hown : w.ownsRow base 5 1 v n (xs.map (Value.int .u8))) (ts : List Int) (hr : ∀ y ∈ ts, 0 ≤ y ∧ y ≤ 255) (hx : a.eval x = .string (strOfNums ts))
    (hbytes : n + ts.length ≤ 140737488355328) (hbase : base ≤ w.heap.size)
    (h : ∀ v' w', w'.ownsRow base 5 1 v' (n + ts.length) ((xs ++ ts).map (Value.int .u8)) → w.grownBy w' v.ownBlock → wpList Try.prog ops Q rest (a.put o.dst v') w') : wpList Try.prog ops Q (o :: rest) a w := by
  obtain ⟨i0, hi, hz0, hz1, hz2⟩ := info_parts info_u8
  have hsz := strOfNums_size ts
  refine Lib.wpList_append_own_string w hgd sl x 53 9 ho base 5 i0 Try.underlying53 Try.underlying9 hi hz0 hz1 hz2 v n _ hs hown (strOfNums ts) hx (by rw [hsz]; unfold maxLen; omega) (by omega) hbase ?_
  intro v' w' h1 h2 _
  rw [hsz, cells_of ts hr] at h1
  exact h v' w' (by simpa using h1) h2
end Go.Proofs.Ytcbnmahbdcjamaa
