/- A row of steps in memory, and as it comes in. -/
import Derived.Test.YtcbnmahbdcjamaaHoOp
namespace Go.Proofs.Ytcbnmahbdcjamaa
open Go.ChangeShapes Go.WideShapes Go.ChangeAt Go.RowKit Go.Sort
set_option linter.unusedVariables false
set_option linter.unusedSimpArgs false

/-- A step: its kind, its number, its operation. -/
abbrev StpK : Type := Int × Int × Opn
abbrev stp0 : StpK := (0, 0, op0)
def encStp (s : StpK) : List Value := [.int .i64 s.1, .int .i64 s.2.1] ++ encP s.2.2
def RdStp (w : World) (a : Option Addr) (n : Nat) (l : List StpK) : Prop := l.length = n ∧ (0 < n → ∃ b off, a = some ⟨b, off, none⟩ ∧ ∀ i, i < n → ∀ j u, (encStp (l.getD i stp0))[j]? = some u → w.cell? ⟨b, off + (i * 9 + j), none⟩ = some u)
theorem RdStp.later {w w' : World} {a : Option Addr} {n : Nat} {l : List StpK} (h : RdStp w a n l) (hb : Below w.heap.size w w') : RdStp w' a n l := by
  refine ⟨h.1, fun hp => ?_⟩
  obtain ⟨b, off, ha, hc⟩ := h.2 hp
  exact ⟨b, off, ha, fun i hi j u hu => (hb.cell (World.block_lt_of_cell? w _ (hc i hi j u hu))).trans (hc i hi j u hu)⟩
theorem RdStp.at {w : World} {a : Option Addr} {n : Nat} {l : List StpK} (h : RdStp w a n l) (i : Nat) (hi : i < n) : ∃ b off, a = some ⟨b, off, none⟩ ∧ w.cell? ⟨b, off + i * 9, none⟩ = some (.int .i64 (l.getD i stp0).1) ∧ w.cell? ⟨b, off + i * 9 + 1, none⟩ = some (.int .i64 (l.getD i stp0).2.1) ∧ w.cell? ⟨b, off + i * 9 + 2, none⟩ = some (.int .i64 (l.getD i stp0).2.2.c) ∧ w.cell? ⟨b, off + i * 9 + 2 + 1, none⟩ = some (.int .i64 (l.getD i stp0).2.2.a) ∧ w.cell? ⟨b, off + i * 9 + 2 + 2, none⟩ = some (.int .i64 (l.getD i stp0).2.2.s) ∧ w.cell? ⟨b, off + i * 9 + 2 + 3, none⟩ = some (.bool (l.getD i stp0).2.2.ins) ∧ w.cell? ⟨b, off + i * 9 + 2 + 4, none⟩ = some (.int .i64 (l.getD i stp0).2.2.rc) ∧ w.cell? ⟨b, off + i * 9 + 2 + 5, none⟩ = some (.int .i64 (l.getD i stp0).2.2.ra) ∧ w.cell? ⟨b, off + i * 9 + 2 + 6, none⟩ = some (.int .i32 (l.getD i stp0).2.2.ch) := by
  obtain ⟨b, off, ha, hc⟩ := h.2 (by omega)
  have hh := hc i hi
  refine ⟨b, off, ha, ?_, ?_, ?_, ?_, ?_, ?_, ?_, ?_, ?_⟩
  · exact hh 0 _ rfl
  · exact hh 1 _ rfl
  · exact hh 2 _ rfl
  · exact hh 3 _ rfl
  · exact hh 4 _ rfl
  · exact hh 5 _ rfl
  · exact hh 6 _ rfl
  · exact hh 7 _ rfl
  · exact hh 8 _ rfl
set_option maxRecDepth 100000 in
theorem stp_cells {H : Type} {enc : TypeId × Value → H} {W : World} {fuel : Nat} {cl : List Value} {x : DataW H × List MemPlace} (hf : DataW.trod enc Try.prog W 0 (fun _ => true) true fuel 75 cl = some x) : ∃ s : StpK, cl = encStp s := by
  obtain ⟨xs, k, rfl, hxy, hlen, hxl, hfl⟩ := DataW.trod_struct Try.underlying75 hf
  have ci : Try.prog.cellsOf 3 = 1 := by kernel_rfl
  have co : Try.prog.cellsOf 34 = 7 := by kernel_rfl
  have cr : Try.prog.cellsOf 75 = 9 := by kernel_rfl
  rw [cr] at hlen
  have hx3 : xs.length = 3 := hxl
  obtain ⟨v0, v1, v2, v3, v4, v5, v6, v7, v8, hc9⟩ : ∃ v0 v1 v2 v3 v4 v5 v6 v7 v8, cl = [v0, v1, v2, v3, v4, v5, v6, v7, v8] := by
    rcases cl with _ | ⟨v0, _ | ⟨v1, _ | ⟨v2, _ | ⟨v3, _ | ⟨v4, _ | ⟨v5, _ | ⟨v6, _ | ⟨v7, _ | ⟨v8, _ | ⟨v9, r⟩⟩⟩⟩⟩⟩⟩⟩⟩⟩
    all_goals first | exact ⟨_, _, _, _, _, _, _, _, _, rfl⟩ | (simp at hlen)
  subst hc9
  obtain ⟨y0, y1, y2, rfl⟩ : ∃ y0 y1 y2, xs = [y0, y1, y2] := by
    rcases xs with _ | ⟨v0, _ | ⟨v1, _ | ⟨v2, _ | ⟨v3, r⟩⟩⟩⟩
    all_goals first | exact ⟨_, _, _, rfl⟩ | (simp at hx3)
  have g0 := hfl 0 _ rfl
  have g1 := hfl 1 _ rfl
  have g2 := hfl 2 _ rfl
  simp [ci, co] at g0 g1 g2
  obtain ⟨kd, e0, _⟩ := DataW.trod_int Try.underlying3 g0
  obtain ⟨nn, e1, _⟩ := DataW.trod_int Try.underlying3 g1
  obtain ⟨o, e2⟩ := op_cells14 g2
  simp at e0 e1
  subst e0 e1
  exact ⟨(kd, nn, o), by unfold encStp; rw [← e2]; rfl⟩
theorem open_steps16 {H : Type} {enc : TypeId × Value → H} {W : World} {a : Option Addr} {len cap : Nat} {d : DataW H} {p : List MemPlace} (h : DataW.Trod enc Try.prog W 0 (fun _ => true) true 69 (.slice a len cap) d p) :
    ∃ l : List StpK, RdStp W a len l ∧ len ≤ cap ∧ cap ≤ 9223372036854775807 := by
  obtain ⟨fuel, hf⟩ := h
  rcases Go.Deep.open_slice Try.underlying69 hf with ⟨hcs, _⟩ | ⟨x, l, c, m, n, D, Pl, hcs, _, hl, hm, hmm, _, hx⟩
  · simp [Value.cells] at hcs
    obtain ⟨rfl, rfl, rfl⟩ := hcs
    exact ⟨[], ⟨rfl, fun h => absurd h (by omega)⟩, by omega, by omega⟩
  · simp [Value.cells] at hcs
    obtain ⟨rfl, rfl, rfl⟩ := hcs
    have hml : len ≤ m := by rw [hmm]; split <;> omega
    have hce : Try.prog.cellsOf 75 = 9 := by kernel_rfl
    rw [hce] at hx
    haveI : Inhabited StpK := ⟨stp0⟩
    have each : ∀ i, i < len → ∃ o : StpK, ∀ j u, (encStp o)[j]? = some u → W.cell? (x.add (i * 9 + j)) = some u := by
      intro i hi
      obtain ⟨cs', h1, h2⟩ := hx i (by omega)
      obtain ⟨_, hlen, hcell⟩ := World.cells?_some h1
      obtain ⟨o, rfl⟩ := stp_cells h2
      refine ⟨o, fun j u hu => ?_⟩
      have hj : j < 9 := by
        rcases Nat.lt_or_ge j 9 with q | q
        · exact q
        · rw [List.getElem?_eq_none (by show (encStp o).length ≤ j; exact q)] at hu; cases hu
      have := hcell j hj
      rw [Go.Deep.add_add] at this
      rw [this]; exact hu
    obtain ⟨R, hR⟩ := Go.Deep.choose_lt each
    have hat : ∀ i, i < len → ((List.range len).map R).getD i stp0 = R i := fun i hi => by simp [hi]
    refine ⟨(List.range len).map R, ⟨by simp, fun hp => ?_⟩, hl, by simpa [maxLen] using hm⟩
    obtain ⟨b, off, rfl⟩ : ∃ b off, x = ⟨b, off, none⟩ := by
      obtain ⟨b, off, spot⟩ := x
      have h30 := hR 0 hp 0 (.int .i64 (R 0).1) rfl
      have hs : spot = none := by simpa [Addr.add] using World.cell?_spot h30
      exact ⟨b, off, by rw [hs]⟩
    refine ⟨b, off, rfl, fun i hi j u hu => ?_⟩
    rw [hat i hi] at hu
    have := hR i hi j u hu
    rw [add_lit14] at this
    exact this
end Go.Proofs.Ytcbnmahbdcjamaa
