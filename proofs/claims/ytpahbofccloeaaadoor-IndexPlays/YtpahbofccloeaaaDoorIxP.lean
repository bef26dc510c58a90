/- Rows of steps in memory, and as they come in. -/
import Derived.Test.YtpahbofccloeaaaDoorIxO
import Derived.Deep.Slices
namespace Go.Proofs.YtpahbofccloeaaaDoor
open Go.ChangeShapes Go.WideShapes Go.ChangeAt Go.RowKit
set_option linter.unusedVariables false

/-- A row of steps in memory: At, Seen, Set. -/
def RdP (w : World) (a : Option Addr) (len : Nat) (ps : List (Int × Bool × Bool)) : Prop :=
  ps.length = len ∧ (0 < len → ∃ b off, a = some ⟨b, off, none⟩ ∧ ∀ i, i < len → w.cell? ⟨b, off + i * 3, none⟩ = some (.int .i64 (ps.getD i (0, false, false)).1) ∧ w.cell? ⟨b, off + i * 3 + 1, none⟩ = some (.bool (ps.getD i (0, false, false)).2.1) ∧ w.cell? ⟨b, off + i * 3 + 2, none⟩ = some (.bool (ps.getD i (0, false, false)).2.2))
theorem RdP.later {w w' : World} {a : Option Addr} {len : Nat} {ps : List (Int × Bool × Bool)} (h : RdP w a len ps) (hb : Below w.heap.size w w') : RdP w' a len ps := by
  refine ⟨h.1, fun hp => ?_⟩
  obtain ⟨b, off, ha, hc⟩ := h.2 hp
  refine ⟨b, off, ha, fun i hi => ?_⟩
  obtain ⟨h1, h2, h3⟩ := hc i hi
  exact ⟨(hb.cell (World.block_lt_of_cell? w _ h1)).trans h1, (hb.cell (World.block_lt_of_cell? w _ h2)).trans h2, (hb.cell (World.block_lt_of_cell? w _ h3)).trans h3⟩
theorem RdP.at {w : World} {a : Option Addr} {len : Nat} {ps : List (Int × Bool × Bool)} (h : RdP w a len ps) (i : Nat) (hi : i < len) : ∃ b off, a = some ⟨b, off, none⟩ ∧ w.cell? ⟨b, off + i * 3, none⟩ = some (.int .i64 (ps.getD i (0, false, false)).1) ∧ w.cell? ⟨b, off + i * 3 + 1, none⟩ = some (.bool (ps.getD i (0, false, false)).2.1) ∧ w.cell? ⟨b, off + i * 3 + 2, none⟩ = some (.bool (ps.getD i (0, false, false)).2.2) := by
  obtain ⟨b, off, ha, hc⟩ := h.2 (by omega)
  exact ⟨b, off, ha, hc i hi⟩
theorem open_steps {H : Type} {enc : TypeId × Value → H} {W : World} {a : Option Addr} {len cap : Nat} {d : DataW H} {p : List MemPlace} (h : DataW.Trod enc Tryd.prog W 0 (fun _ => true) true 22 (.slice a len cap) d p) :
    ∃ ps, (RdP W a len ps ∧ ∀ x ∈ ps, -9223372036854775808 ≤ x.1 ∧ x.1 ≤ 9223372036854775807) ∧ len ≤ cap ∧ cap ≤ 9223372036854775807 ∧ (a = none → cap = 0) := by
  obtain ⟨fuel, hf⟩ := h
  rcases Go.Deep.open_slice Tryd.underlying22 hf with ⟨hcs, _⟩ | ⟨x, l, c, m, n, D, Pl, hcs, _, hl, hm, hmm, _, hx⟩
  · simp [Value.cells] at hcs
    obtain ⟨rfl, rfl, rfl⟩ := hcs
    exact ⟨[], ⟨⟨rfl, fun h => absurd h (by omega)⟩, fun x hx => by simp at hx⟩, by omega, by omega, fun _ => rfl⟩
  · simp [Value.cells] at hcs
    obtain ⟨rfl, rfl, rfl⟩ := hcs
    have hml : len ≤ m := by rw [hmm]; split <;> omega
    have hce : Tryd.prog.cellsOf 31 = 3 := by kernel_rfl
    rw [hce] at hx
    have each : ∀ i, i < len → ∃ r : Int × Bool × Bool, W.cell? (x.add (i * 3)) = some (.int .i64 r.1) ∧ W.cell? (x.add (i * 3 + 1)) = some (.bool r.2.1) ∧ W.cell? (x.add (i * 3 + 2)) = some (.bool r.2.2) ∧ (-9223372036854775808 ≤ r.1 ∧ r.1 ≤ 9223372036854775807) := by
      intro i hi
      obtain ⟨cs', h1, h2⟩ := hx i (by omega)
      obtain ⟨_, hlen, hcell⟩ := World.cells?_some h1
      obtain ⟨xs, k, hk, hxy, _, hxl, hfl⟩ := DataW.trod_struct Tryd.underlying31 h2
      have ci : Tryd.prog.cellsOf 3 = 1 := by kernel_rfl
      have cs : Tryd.prog.cellsOf 4 = 1 := by kernel_rfl
      have hx3 : xs.length = 3 := hxl
      obtain ⟨v0, v1, v2, rfl⟩ : ∃ v0 v1 v2, cs' = [v0, v1, v2] := by
        rcases cs' with _ | ⟨v0, _ | ⟨v1, _ | ⟨v2, _ | ⟨v3, r⟩⟩⟩⟩
        · simp at hlen
        · simp at hlen
        · simp at hlen
        · exact ⟨_, _, _, rfl⟩
        · simp at hlen
      obtain ⟨y0, y1, y2, rfl⟩ : ∃ y0 y1 y2, xs = [y0, y1, y2] := by
        rcases xs with _ | ⟨v0, _ | ⟨v1, _ | ⟨v2, _ | ⟨v3, r⟩⟩⟩⟩
        · simp at hx3
        · simp at hx3
        · simp at hx3
        · exact ⟨_, _, _, rfl⟩
        · simp at hx3
      have g0 := hfl 0 _ rfl
      have g1 := hfl 1 _ rfl
      have g2 := hfl 2 _ rfl
      simp [ci, cs] at g0 g1 g2
      have e0 := hcell 0 (by omega)
      have e1 := hcell 1 (by omega)
      have e2 := hcell 2 (by omega)
      rw [Go.Deep.add_add] at e0 e1 e2
      obtain ⟨n0, hn0, _, w0⟩ := DataW.trod_int Tryd.underlying3 g0
      obtain ⟨n1, hn1, _⟩ := DataW.trod_bool Tryd.underlying4 g1
      obtain ⟨n2, hn2, _⟩ := DataW.trod_bool Tryd.underlying4 g2
      simp at hn0 hn1 hn2
      subst hn0 hn1 hn2
      exact ⟨(n0, n1, n2), by simpa using e0, by simpa using e1, by simpa using e2, i64_of_wf w0⟩
    obtain ⟨R, hR⟩ := Go.Deep.choose_lt each
    have hat : ∀ i, i < len → ((List.range len).map R).getD i (0, false, false) = R i := fun i hi => by simp [hi]
    refine ⟨(List.range len).map R, ⟨⟨by simp, fun hp => ?_⟩, ?_⟩, hl, by simpa [maxLen] using hm, fun h => by cases h⟩
    · obtain ⟨b, off, rfl⟩ : ∃ b off, x = ⟨b, off, none⟩ := by
        obtain ⟨b, off, spot⟩ := x
        have h30 := (hR 0 hp).1
        have hs : spot = none := by simpa [Addr.add] using World.cell?_spot h30
        exact ⟨b, off, by rw [hs]⟩
      refine ⟨b, off, rfl, fun i hi => ?_⟩
      obtain ⟨r1, r2, r3, _⟩ := hR i hi
      rw [add_lit] at r1 r2 r3
      rw [hat i hi]
      exact ⟨r1, r2, r3⟩
    · intro y hy
      simp only [List.mem_map, List.mem_range] at hy
      obtain ⟨i, hi, rfl⟩ := hy
      exact (hR i hi).2.2.2
end Go.Proofs.YtpahbofccloeaaaDoor
