/- Arguments opened: a frame by value, rows of bytes. -/
import Derived.Test.YtcbnmahbdcjamaaFrT
import Derived.Test.YtcbnmahbdcjamaaIdO
import Derived.SizedLaws
import Derived.ProofKit
import Derived.OpenShut
import Derived.ChangeOld
import Derived.Below
import Derived.Deep.SlicePairs
namespace Go.Proofs.Ytcbnmahbdcjamaa
open Go.ChangeShapes Go.WideShapes Go.ChangeAt Go.RowKit Go.Sort
set_option linter.unusedVariables false
set_option linter.unusedSimpArgs false

theorem none_ops {H : Type} {enc : TypeId × Value → H} {W : World} {a : Option Addr} {len cap : Nat} {d : DataW H} {p : List MemPlace} (h : DataW.Trod enc Try.prog W 0 (fun _ => true) true 22 (.slice a len cap) d p) : a = none → cap = 0 := by
  obtain ⟨fuel, hf⟩ := h
  rcases Go.Deep.open_slice Try.underlying22 hf with ⟨hcs, _⟩ | ⟨x, l, c, m, n, D, Pl, hcs, _, hl, hm, hmm, _, hx⟩
  · simp [Value.cells] at hcs
    obtain ⟨rfl, rfl, rfl⟩ := hcs
    exact fun _ => rfl
  · simp [Value.cells] at hcs
    obtain ⟨rfl, rfl, rfl⟩ := hcs
    exact fun h => by cases h
set_option maxRecDepth 100000 in
theorem open_frame {H : Type} {enc : TypeId × Value → H} {W : World} {base : Nat} {v : Value} {d : DataW H} {p : List MemPlace} (hval : Value.okWide Try.prog W .any base 51 v) (h : DataW.Trod enc Try.prog W 0 (fun _ => true) true 51 v d p) : ∃ f : Frm, FrAtC W v f := by
  obtain ⟨cs, rfl, _⟩ := okWide_struct Try.underlying51 hval
  obtain ⟨fuel, hf0⟩ := h
  obtain ⟨cl, hcl⟩ : ∃ cl, cl = cs.toList := ⟨_, rfl⟩
  have hf : DataW.trod enc Try.prog W 0 (fun _ => true) true fuel 51 cl = some (d, p) := by rw [hcl]; exact hf0
  obtain ⟨xs, k, rfl, hxy, hlen, hxl, hfl⟩ := DataW.trod_struct Try.underlying51 hf
  have ci : Try.prog.cellsOf 3 = 1 := by kernel_rfl
  have ce : Try.prog.cellsOf 42 = 1 := by kernel_rfl
  have co : Try.prog.cellsOf 22 = 1 := by kernel_rfl
  have cr : Try.prog.cellsOf 51 = 5 := by kernel_rfl
  rw [cr] at hlen
  have hx5 : xs.length = 5 := hxl
  obtain ⟨v0, v1, v2, v3, v4, hc5⟩ : ∃ v0 v1 v2 v3 v4, cl = [v0, v1, v2, v3, v4] := by
    rcases cl with _ | ⟨v0, _ | ⟨v1, _ | ⟨v2, _ | ⟨v3, _ | ⟨v4, _ | ⟨v5, r⟩⟩⟩⟩⟩⟩
    all_goals first | exact ⟨_, _, _, _, _, rfl⟩ | (simp at hlen)
  subst hc5
  obtain ⟨y0, y1, y2, y3, y4, rfl⟩ : ∃ y0 y1 y2 y3 y4, xs = [y0, y1, y2, y3, y4] := by
    rcases xs with _ | ⟨v0, _ | ⟨v1, _ | ⟨v2, _ | ⟨v3, _ | ⟨v4, _ | ⟨v5, r⟩⟩⟩⟩⟩⟩
    all_goals first | exact ⟨_, _, _, _, _, rfl⟩ | (simp at hx5)
  have g0 := hfl 0 _ rfl
  have g1 := hfl 1 _ rfl
  have g2 := hfl 2 _ rfl
  have g3 := hfl 3 _ rfl
  have g4 := hfl 4 _ rfl
  simp [ci, ce, co] at g0 g1 g2 g3 g4
  obtain ⟨fk, e0, _⟩ := DataW.trod_int Try.underlying3 g0
  obtain ⟨ff, e1, _⟩ := DataW.trod_int Try.underlying3 g1
  obtain ⟨fx, e4, _⟩ := DataW.trod_int Try.underlying3 g4
  have e2 : ∃ a l c, v2 = .slice a l c := by
    rcases Go.Deep.open_slice Try.underlying42 g2 with ⟨hcs, _⟩ | ⟨x, l, c, m, n, D, Pl, hcs, _⟩
    · simp at hcs; exact ⟨_, _, _, hcs⟩
    · simp at hcs; exact ⟨_, _, _, hcs⟩
  have e3 : ∃ a l c, v3 = .slice a l c := by
    rcases Go.Deep.open_slice Try.underlying22 g3 with ⟨hcs, _⟩ | ⟨x, l, c, m, n, D, Pl, hcs, _⟩
    · simp at hcs; exact ⟨_, _, _, hcs⟩
    · simp at hcs; exact ⟨_, _, _, hcs⟩
  obtain ⟨va, vn, vc, rfl⟩ := e2
  obtain ⟨oa, on, oc, rfl⟩ := e3
  obtain ⟨rs, hre, hr1, _, hr2⟩ := open_entries (H := H) (enc := enc) (W := W) (a := va) (len := vn) (cap := vc) ⟨_, g2⟩
  obtain ⟨os, hrp, hr3, _⟩ := open_ops14 (H := H) (enc := enc) (W := W) (a := oa) (len := on) (cap := oc) ⟨_, g3⟩
  have hr4 := none_ops (H := H) (enc := enc) (W := W) (a := oa) (len := on) (cap := oc) ⟨_, g3⟩
  simp at e0 e1 e4
  subst e0 e1 e4
  refine ⟨⟨fk, ff, rs, os, fx⟩, va, vn, vc, oa, on, oc, ?_, hre, hrp, hr1, hr3, hr2, hr4⟩
  show Value.agg cs = _
  congr 1
  cases cs
  simp at hcl
  rw [← hcl]
theorem open_bytes15 {H : Type} {enc : TypeId × Value → H} {W : World} {a : Option Addr} {len cap : Nat} {d : DataW H} {p : List MemPlace} (h : DataW.Trod enc Try.prog W 0 (fun _ => true) true 53 (.slice a len cap) d p) :
    ∃ xs : List Int, Rd .u8 W a len xs ∧ Byt xs ∧ len ≤ cap ∧ cap ≤ 9223372036854775807 ∧ (a = none → cap = 0) := by
  obtain ⟨fuel, hf⟩ := h
  rcases open_ints Try.underlying53 Try.underlying5 (by kernel_rfl) hf with ⟨hcs, _⟩ | ⟨x, l, c, zs, hcs, _, hl, hm, hz, _, hcell, hwz⟩
  · simp [Value.cells] at hcs
    obtain ⟨rfl, rfl, rfl⟩ := hcs
    exact ⟨[], ⟨rfl, fun hp => absurd hp (by omega)⟩, (fun y h => by cases h), by omega, by omega, fun _ => rfl⟩
  · simp [Value.cells] at hcs
    obtain ⟨rfl, rfl, rfl⟩ := hcs
    have hzl : len ≤ zs.length := by rw [hz]; split <;> omega
    refine ⟨zs.take len, ⟨by rw [List.length_take]; omega, fun hp => ?_⟩, bytes_of_wf hwz len, hl, by simpa [maxLen] using hm, fun h => by cases h⟩
    obtain ⟨b, off, spot⟩ := x
    have h40 := hcell 0 (by omega)
    have hspot : spot = none := by simpa [Addr.add] using World.cell?_spot h40
    subst hspot
    refine ⟨b, off, rfl, fun i hi => ?_⟩
    have := hcell i (by omega)
    rw [add_lit] at this
    rw [this]
    simp [hi]
end Go.Proofs.Ytcbnmahbdcjamaa
