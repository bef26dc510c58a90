/- Arguments opened: rows of operations, of runes, of numbers. -/
import Derived.Test.YteicppfknkbelaaRgZ
import Derived.SizedLaws
import Derived.ProofKit
import Derived.OpenShut
import Derived.ChangeOld
import Derived.Below
import Derived.Deep.SlicePairs
namespace Go.Proofs.Yteicppfknkbelaa
open Go.ChangeShapes Go.WideShapes Go.ChangeAt Go.RowKit
set_option linter.unusedVariables false

theorem open_int14 {H : Type} {enc : TypeId × Value → H} {W : World} {k : IntKind} {v : Int} {d : DataW H} {p : List MemPlace} (h : DataW.Trod enc Try.prog W 0 (fun _ => true) true 3 (.int k v) d p) : -9223372036854775808 ≤ v ∧ v ≤ 9223372036854775807 := by
  obtain ⟨fuel, hf⟩ := h
  obtain ⟨op, hop, h1, h2⟩ := DataW.trod_int Try.underlying3 hf
  simp [Value.cells] at hop
  rw [hop.2]
  exact i64_of_wf h2
theorem id_cells14 {H : Type} {enc : TypeId × Value → H} {W : World} {fuel : Nat} {cs : List Value} {x : DataW H × List MemPlace} (hf : DataW.trod enc Try.prog W 0 (fun _ => true) true fuel 32 cs = some x) : ∃ c a, cs = [.int .i64 c, .int .i64 a] ∧ (Lit.int .i64 a).wf = true := by
  obtain ⟨xs, k, rfl, hxy, hlen, hxl, hfl⟩ := DataW.trod_struct Try.underlying32 hf
  have ci : Try.prog.cellsOf 3 = 1 := by kernel_rfl
  have cr : Try.prog.cellsOf 32 = 2 := by kernel_rfl
  rw [cr] at hlen
  have hx2 : xs.length = 2 := hxl
  obtain ⟨v0, v1, rfl⟩ : ∃ v0 v1, cs = [v0, v1] := by
    rcases cs with _ | ⟨v0, _ | ⟨v1, _ | ⟨v2, r⟩⟩⟩
    all_goals first | exact ⟨_, _, rfl⟩ | (simp at hlen)
  obtain ⟨y0, y1, rfl⟩ : ∃ y0 y1, xs = [y0, y1] := by
    rcases xs with _ | ⟨v0, _ | ⟨v1, _ | ⟨v2, r⟩⟩⟩
    all_goals first | exact ⟨_, _, rfl⟩ | (simp at hx2)
  have g0 := hfl 0 _ rfl
  have g1 := hfl 1 _ rfl
  simp [ci] at g0 g1
  obtain ⟨c, h0, _⟩ := DataW.trod_int Try.underlying3 g0
  obtain ⟨a, h1, _, hw⟩ := DataW.trod_int Try.underlying3 g1
  simp at h0 h1
  exact ⟨c, a, by rw [h0, h1], hw⟩
set_option maxRecDepth 100000 in
theorem op_cells14 {H : Type} {enc : TypeId × Value → H} {W : World} {fuel : Nat} {cl : List Value} {x : DataW H × List MemPlace} (hf : DataW.trod enc Try.prog W 0 (fun _ => true) true fuel 34 cl = some x) : ∃ o : Opn, cl = encP o := by
  obtain ⟨xs, k, rfl, hxy, hlen, hxl, hfl⟩ := DataW.trod_struct Try.underlying34 hf
  have ci : Try.prog.cellsOf 3 = 1 := by kernel_rfl
  have cb : Try.prog.cellsOf 4 = 1 := by kernel_rfl
  have c32 : Try.prog.cellsOf 21 = 1 := by kernel_rfl
  have cd : Try.prog.cellsOf 32 = 2 := by kernel_rfl
  have cr : Try.prog.cellsOf 34 = 7 := by kernel_rfl
  rw [cr] at hlen
  have hx5 : xs.length = 5 := hxl
  obtain ⟨v0, v1, v2, v3, v4, v5, v6, hc7⟩ : ∃ v0 v1 v2 v3 v4 v5 v6, cl = [v0, v1, v2, v3, v4, v5, v6] := by
    rcases cl with _ | ⟨v0, _ | ⟨v1, _ | ⟨v2, _ | ⟨v3, _ | ⟨v4, _ | ⟨v5, _ | ⟨v6, _ | ⟨v7, r⟩⟩⟩⟩⟩⟩⟩⟩
    all_goals first | exact ⟨_, _, _, _, _, _, _, rfl⟩ | (simp at hlen)
  subst hc7
  obtain ⟨y0, y1, y2, y3, y4, rfl⟩ : ∃ y0 y1 y2 y3 y4, xs = [y0, y1, y2, y3, y4] := by
    rcases xs with _ | ⟨v0, _ | ⟨v1, _ | ⟨v2, _ | ⟨v3, _ | ⟨v4, _ | ⟨v5, r⟩⟩⟩⟩⟩⟩
    all_goals first | exact ⟨_, _, _, _, _, rfl⟩ | (simp at hx5)
  have g0 := hfl 0 _ rfl
  have g1 := hfl 1 _ rfl
  have g2 := hfl 2 _ rfl
  have g3 := hfl 3 _ rfl
  have g4 := hfl 4 _ rfl
  simp [ci, cb, cd, c32] at g0 g1 g2 g3 g4
  obtain ⟨c, a, e0, _⟩ := id_cells14 g0
  obtain ⟨s, e1, _⟩ := DataW.trod_int Try.underlying3 g1
  obtain ⟨b, e2, _⟩ := DataW.trod_bool Try.underlying4 g2
  obtain ⟨rc, ra, e3, _⟩ := id_cells14 g3
  obtain ⟨ch, e4, _⟩ := DataW.trod_int Try.underlying21 g4
  simp at e0 e1 e2 e3 e4
  obtain ⟨rfl, rfl⟩ := e0
  obtain ⟨rfl, rfl⟩ := e3
  subst e1 e2 e4
  exact ⟨⟨c, a, s, b, rc, ra, ch⟩, rfl⟩
theorem add_lit14 (b off i : Nat) : (⟨b, off, none⟩ : Addr).add i = ⟨b, off + i, none⟩ := by unfold Addr.add; split <;> simp_all
theorem open_runes14 {H : Type} {enc : TypeId × Value → H} {W : World} {a : Option Addr} {len cap : Nat} {d : DataW H} {p : List MemPlace} (h : DataW.Trod enc Try.prog W 0 (fun _ => true) true 36 (.slice a len cap) d p) :
    ∃ xs : List Int, RdC W a len xs ∧ len ≤ cap ∧ cap ≤ 9223372036854775807 := by
  obtain ⟨fuel, hf⟩ := h
  rcases open_ints Try.underlying36 Try.underlying21 (by kernel_rfl) hf with ⟨hcs, _⟩ | ⟨x, l, c, zs, hcs, _, hl, hm, hz, _, hcell, hwz⟩
  · simp [Value.cells] at hcs
    obtain ⟨rfl, rfl, rfl⟩ := hcs
    exact ⟨[], ⟨rfl, fun hp => absurd hp (by omega)⟩, by omega, by omega⟩
  · simp [Value.cells] at hcs
    obtain ⟨rfl, rfl, rfl⟩ := hcs
    have hzl : len ≤ zs.length := by rw [hz]; split <;> omega
    refine ⟨zs.take len, ⟨by rw [List.length_take]; omega, fun hp => ?_⟩, hl, by simpa [maxLen] using hm⟩
    obtain ⟨b, off, spot⟩ := x
    have h40 := hcell 0 (by omega)
    have hspot : spot = none := by simpa [Addr.add] using World.cell?_spot h40
    subst hspot
    refine ⟨b, off, rfl, fun i hi => ?_⟩
    have := hcell i (by omega)
    rw [add_lit14] at this
    rw [this]
    simp [hi]
theorem open_ops14 {H : Type} {enc : TypeId × Value → H} {W : World} {a : Option Addr} {len cap : Nat} {d : DataW H} {p : List MemPlace} (h : DataW.Trod enc Try.prog W 0 (fun _ => true) true 22 (.slice a len cap) d p) :
    ∃ l : List Opn, RdP W a len l ∧ len ≤ cap ∧ cap ≤ 9223372036854775807 := by
  obtain ⟨fuel, hf⟩ := h
  rcases Go.Deep.open_slice Try.underlying22 hf with ⟨hcs, _⟩ | ⟨x, l, c, m, n, D, Pl, hcs, _, hl, hm, hmm, _, hx⟩
  · simp [Value.cells] at hcs
    obtain ⟨rfl, rfl, rfl⟩ := hcs
    exact ⟨[], ⟨rfl, fun h => absurd h (by omega)⟩, by omega, by omega⟩
  · simp [Value.cells] at hcs
    obtain ⟨rfl, rfl, rfl⟩ := hcs
    have hml : len ≤ m := by rw [hmm]; split <;> omega
    have hce : Try.prog.cellsOf 34 = 7 := by kernel_rfl
    rw [hce] at hx
    haveI : Inhabited Opn := ⟨op0⟩
    have each : ∀ i, i < len → ∃ o : Opn, ∀ j u, (encP o)[j]? = some u → W.cell? (x.add (i * 7 + j)) = some u := by
      intro i hi
      obtain ⟨cs', h1, h2⟩ := hx i (by omega)
      obtain ⟨_, hlen, hcell⟩ := World.cells?_some h1
      obtain ⟨o, rfl⟩ := op_cells14 h2
      refine ⟨o, fun j u hu => ?_⟩
      have hj : j < 7 := by
        rcases Nat.lt_or_ge j 7 with q | q
        · exact q
        · rw [List.getElem?_eq_none (by show (encP o).length ≤ j; exact q)] at hu; cases hu
      have := hcell j hj
      rw [Go.Deep.add_add] at this
      rw [this]; exact hu
    obtain ⟨R, hR⟩ := Go.Deep.choose_lt each
    have hat : ∀ i, i < len → ((List.range len).map R).getD i op0 = R i := fun i hi => by simp [hi]
    refine ⟨(List.range len).map R, ⟨by simp, fun hp => ?_⟩, hl, by simpa [maxLen] using hm⟩
    obtain ⟨b, off, rfl⟩ : ∃ b off, x = ⟨b, off, none⟩ := by
      obtain ⟨b, off, spot⟩ := x
      have h30 := hR 0 hp 0 (.int .i64 (R 0).c) rfl
      have hs : spot = none := by simpa [Addr.add] using World.cell?_spot h30
      exact ⟨b, off, by rw [hs]⟩
    refine ⟨b, off, rfl, fun j u hu => ?_⟩
    have hjl : j < 7 * len := by
      rcases Nat.lt_or_ge j (7 * len) with q | q
      · exact q
      · rw [List.getElem?_eq_none (by rw [flatP_len]; simpa using q)] at hu; cases hu
    have e := flatP_at ((List.range len).map R) (j / 7) (by simp; omega) (j % 7) (by omega)
    have ej : j / 7 * 7 + j % 7 = j := by omega
    rw [ej, hat _ (by omega)] at e
    rw [e] at hu
    have := hR (j / 7) (by omega) (j % 7) u hu
    rw [add_lit14, ej] at this
    exact this
end Go.Proofs.Yteicppfknkbelaa
