/- Arguments opened: an ID, an operation, a row of entries, a number. -/
import Derived.Test.YtcbnmahbdcjamaaIdE
import Derived.SizedLaws
import Derived.ProofKit
import Derived.OpenShut
import Derived.ChangeOld
import Derived.Below
import Derived.Deep.SlicePairs
namespace Go.Proofs.Ytcbnmahbdcjamaa
open Go.ChangeShapes Go.WideShapes Go.ChangeAt Go.RowKit
set_option linter.unusedVariables false

theorem open_int {H : Type} {enc : TypeId × Value → H} {W : World} {k : IntKind} {v : Int} {d : DataW H} {p : List MemPlace} (h : DataW.Trod enc Try.prog W 0 (fun _ => true) true 3 (.int k v) d p) : -9223372036854775808 ≤ v ∧ v ≤ 9223372036854775807 := by
  obtain ⟨fuel, hf⟩ := h
  obtain ⟨op, hop, h1, h2⟩ := DataW.trod_int Try.underlying3 hf
  simp [Value.cells] at hop
  rw [hop.2]
  exact i64_of_wf h2
theorem id_cells {H : Type} {enc : TypeId × Value → H} {W : World} {fuel : Nat} {cs : List Value} {x : DataW H × List MemPlace} (hf : DataW.trod enc Try.prog W 0 (fun _ => true) true fuel 32 cs = some x) : ∃ c a, cs = [.int .i64 c, .int .i64 a] := by
  obtain ⟨xs, k, rfl, hxy, hlen, hxl, hfl⟩ := DataW.trod_struct Try.underlying32 hf
  have ci : Try.prog.cellsOf 3 = 1 := by kernel_rfl
  have cr : Try.prog.cellsOf 32 = 2 := by kernel_rfl
  rw [cr] at hlen
  have hx2 : xs.length = 2 := hxl
  obtain ⟨v0, v1, rfl⟩ : ∃ v0 v1, cs = [v0, v1] := by
    rcases cs with _ | ⟨v0, _ | ⟨v1, _ | ⟨v2, r⟩⟩⟩
    all_goals first | exact ⟨_, _, rfl⟩ | (simp at hlen)
  obtain ⟨y0, y1, rfl⟩ : ∃ y0 y1, xs = [y0, y1] := by
    rcases xs with _ | ⟨v0, _ | ⟨v1, _ | ⟨v2, r⟩⟩⟩
    all_goals first | exact ⟨_, _, rfl⟩ | (simp at hx2)
  have g0 := hfl 0 _ rfl
  have g1 := hfl 1 _ rfl
  simp [ci] at g0 g1
  obtain ⟨c, h0, _⟩ := DataW.trod_int Try.underlying3 g0
  obtain ⟨a, h1, _⟩ := DataW.trod_int Try.underlying3 g1
  simp at h0 h1
  exact ⟨c, a, by rw [h0, h1]⟩
set_option maxRecDepth 100000 in
theorem open_id {H : Type} {enc : TypeId × Value → H} {W : World} {base : Nat} {v : Value} {d : DataW H} {p : List MemPlace} (hval : Value.okWide Try.prog W .any base 32 v) (h : DataW.Trod enc Try.prog W 0 (fun _ => true) true 32 v d p) : ∃ c a, v = .agg #[.int .i64 c, .int .i64 a] := by
  obtain ⟨cs, rfl, _⟩ := okWide_struct Try.underlying32 hval
  obtain ⟨fuel, hf⟩ := h
  obtain ⟨c, a, e⟩ := id_cells hf
  have e2 : cs.toList = [.int .i64 c, .int .i64 a] := e
  exact ⟨c, a, by rw [show cs = #[.int .i64 c, .int .i64 a] by cases cs; simpa using e2]⟩
set_option maxRecDepth 100000 in
theorem open_op {H : Type} {enc : TypeId × Value → H} {W : World} {base : Nat} {v : Value} {d : DataW H} {p : List MemPlace} (hval : Value.okWide Try.prog W .any base 34 v) (h : DataW.Trod enc Try.prog W 0 (fun _ => true) true 34 v d p) : ∃ o : Opn, v = o.val := by
  obtain ⟨cs, rfl, _⟩ := okWide_struct Try.underlying34 hval
  obtain ⟨fuel, hf0⟩ := h
  obtain ⟨cl, hcl⟩ : ∃ cl, cl = cs.toList := ⟨_, rfl⟩
  have hf : DataW.trod enc Try.prog W 0 (fun _ => true) true fuel 34 cl = some (d, p) := by rw [hcl]; exact hf0
  obtain ⟨xs, k, rfl, hxy, hlen, hxl, hfl⟩ := DataW.trod_struct Try.underlying34 hf
  have ci : Try.prog.cellsOf 3 = 1 := by kernel_rfl
  have cb : Try.prog.cellsOf 4 = 1 := by kernel_rfl
  have c32 : Try.prog.cellsOf 21 = 1 := by kernel_rfl
  have cd : Try.prog.cellsOf 32 = 2 := by kernel_rfl
  have cr : Try.prog.cellsOf 34 = 7 := by kernel_rfl
  rw [cr] at hlen
  have hx5 : xs.length = 5 := hxl
  obtain ⟨v0, v1, v2, v3, v4, v5, v6, hc7⟩ : ∃ v0 v1 v2 v3 v4 v5 v6, cl = [v0, v1, v2, v3, v4, v5, v6] := by
    rcases cl with _ | ⟨v0, _ | ⟨v1, _ | ⟨v2, _ | ⟨v3, _ | ⟨v4, _ | ⟨v5, _ | ⟨v6, _ | ⟨v7, r⟩⟩⟩⟩⟩⟩⟩⟩
    all_goals first | exact ⟨_, _, _, _, _, _, _, rfl⟩ | (simp at hlen)
  subst hc7
  obtain ⟨y0, y1, y2, y3, y4, rfl⟩ : ∃ y0 y1 y2 y3 y4, xs = [y0, y1, y2, y3, y4] := by
    rcases xs with _ | ⟨v0, _ | ⟨v1, _ | ⟨v2, _ | ⟨v3, _ | ⟨v4, _ | ⟨v5, r⟩⟩⟩⟩⟩⟩
    all_goals first | exact ⟨_, _, _, _, _, rfl⟩ | (simp at hx5)
  have g0 := hfl 0 _ rfl
  have g1 := hfl 1 _ rfl
  have g2 := hfl 2 _ rfl
  have g3 := hfl 3 _ rfl
  have g4 := hfl 4 _ rfl
  simp [ci, cb, cd, c32] at g0 g1 g2 g3 g4
  obtain ⟨c, a, e0⟩ := id_cells g0
  obtain ⟨s, e1, _⟩ := DataW.trod_int Try.underlying3 g1
  obtain ⟨b, e2, _⟩ := DataW.trod_bool Try.underlying4 g2
  obtain ⟨rc, ra, e3⟩ := id_cells g3
  obtain ⟨ch, e4, _⟩ := DataW.trod_int Try.underlying21 g4
  simp at e0 e1 e2 e3 e4
  obtain ⟨rfl, rfl⟩ := e0
  obtain ⟨rfl, rfl⟩ := e3
  subst e1 e2 e4
  refine ⟨⟨c, a, s, b, rc, ra, ch⟩, ?_⟩
  show Value.agg cs = _
  congr 1
  cases cs
  simp at hcl
  rw [← hcl]
theorem open_entries {H : Type} {enc : TypeId × Value → H} {W : World} {a : Option Addr} {len cap : Nat} {d : DataW H} {p : List MemPlace} (h : DataW.Trod enc Try.prog W 0 (fun _ => true) true 42 (.slice a len cap) d p) :
    ∃ rs, RdE W a len rs ∧ len ≤ cap ∧ cap ≤ 9223372036854775807 ∧ (a = none → cap = 0) := by
  obtain ⟨fuel, hf⟩ := h
  have ce : Try.prog.cellsOf 107 = 2 := by kernel_rfl
  have ci : Try.prog.cellsOf 3 = 1 := by kernel_rfl
  rcases Go.Deep.open_slice_pairs Try.underlying42 Try.underlying107 ce rfl rfl ci ci hf with ⟨hcs, _⟩ | ⟨x, l, c, m, n, V0, V1, D0, D1, P0, P1, hcs, _, hl, hm, hmm, _, hx⟩
  · simp [Value.cells] at hcs
    obtain ⟨rfl, rfl, rfl⟩ := hcs
    exact ⟨[], rdE_nil W, by omega, by omega, fun _ => rfl⟩
  · simp [Value.cells] at hcs
    obtain ⟨rfl, rfl, rfl⟩ := hcs
    have hlm : len ≤ m := by rw [hmm]; simp; exact hl
    have each : ∀ i, i < len → ∃ y : Int × Int, W.cell? (x.add (i * 2)) = some (.int .i64 y.1) ∧ W.cell? (x.add (i * 2 + 1)) = some (.int .i64 y.2) := by
      intro i hi
      obtain ⟨h1, h2, h3, h4⟩ := hx i (by omega)
      obtain ⟨u, e0, _⟩ := DataW.trod_int Try.underlying3 h3
      obtain ⟨v, e1, _⟩ := DataW.trod_int Try.underlying3 h4
      simp at e0 e1
      exact ⟨(u, v), by rw [h1, e0], by rw [h2, e1]⟩
    obtain ⟨R, hR⟩ := Go.Deep.choose_lt each
    refine ⟨(List.range len).map R, ⟨by simp, fun hp => ?_⟩, hl, by simpa [maxLen] using hm, fun h => by cases h⟩
    obtain ⟨b, off, rfl⟩ : ∃ b off, x = ⟨b, off, none⟩ := by
      obtain ⟨b, off, spot⟩ := x
      have h30 := (hR 0 hp).1
      have hs : spot = none := by simpa [Addr.add] using World.cell?_spot h30
      exact ⟨b, off, by rw [hs]⟩
    refine ⟨b, off, rfl, fun j v hv => ?_⟩
    have hj : j < 2 * len := by
      rcases Nat.lt_or_ge j (2 * len) with h | h
      · exact h
      · rw [List.getElem?_eq_none (by rw [flatE_len]; simpa using h)] at hv; cases hv
    have hdj := flatE_at ((List.range len).map R) (j / 2) (by simp; omega) (j % 2) (Nat.mod_lt _ (by decide))
    rw [show 2 * (j / 2) + j % 2 = j by omega, hv] at hdj
    have e : ((List.range len).map R).getD (j / 2) (0, 0) = R (j / 2) := by simp [show j / 2 < len by omega]
    rw [e] at hdj
    obtain ⟨r1, r2⟩ := hR (j / 2) (by omega)
    rw [add_lit] at r1 r2
    rcases (show j % 2 = 0 ∨ j % 2 = 1 by omega) with h | h
    · rw [h] at hdj
      rw [show off + j = off + j / 2 * 2 by omega, r1]
      exact hdj.symm
    · rw [h] at hdj
      rw [show off + j = off + (j / 2 * 2 + 1) by omega, r2]
      exact hdj.symm
end Go.Proofs.Ytcbnmahbdcjamaa
