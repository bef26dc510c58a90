/- Operations in memory: rows of their cells, slices that read as operations, arguments of operations opened. -/
import Derived.Test.YtcbnmahbdcjamaaIdB
import Derived.SizedLaws
import Derived.ProofKit
import Derived.OpenShut
import Derived.ChangeOld
import Derived.Below
import Derived.Deep.SlicePairs
namespace Go.Proofs.Ytcbnmahbdcjamaa
open Go.ChangeShapes Go.WideShapes Go.ChangeAt Go.RowKit Go.Sort
set_option linter.unusedVariables false
set_option linter.unusedSimpArgs false

def op0 : Opn := ⟨0, 0, 0, false, 0, 0, 0⟩
/-- An operation's cells. -/
def encP (o : Opn) : List Value := [.int .i64 o.c, .int .i64 o.a, .int .i64 o.s, .bool o.ins, .int .i64 o.rc, .int .i64 o.ra, .int .i32 o.ch]
def flatP (l : List Opn) : List Value := l.flatMap encP
theorem flatP_app (a b : List Opn) : flatP (a ++ b) = flatP a ++ flatP b := by simp [flatP]
theorem flatP_one (o : Opn) : flatP [o] = encP o := by simp [flatP]
theorem flatP_len : (l : List Opn) → (flatP l).length = 7 * l.length
  | [] => rfl
  | b :: r => by
    have e : flatP (b :: r) = encP b ++ flatP r := by simp [flatP]
    have h3 : (encP b).length = 7 := rfl
    rw [e, List.length_append, flatP_len r, h3, List.length_cons]
    omega
theorem encP_one (o : Opn) : ∀ v ∈ encP o, v.oneCell' = true := by
  intro v hv
  simp [encP] at hv
  rcases hv with rfl | rfl | rfl | rfl | rfl | rfl | rfl <;> rfl
/-- A slice that reads as operations. -/
def RdP (w : World) (a : Option Addr) (n : Nat) (l : List Opn) : Prop :=
  l.length = n ∧ (0 < n → ∃ b off, a = some ⟨b, off, none⟩ ∧ ∀ j u, (flatP l)[j]? = some u → w.cell? ⟨b, off + j, none⟩ = some u)
theorem RdP.later {w w' : World} {a : Option Addr} {n : Nat} {l : List Opn} (h : RdP w a n l) (hb : Below w.heap.size w w') : RdP w' a n l := by
  refine ⟨h.1, fun h0 => ?_⟩
  obtain ⟨b, off, ha, hc⟩ := h.2 h0
  exact ⟨b, off, ha, fun j u hu => hb.cell (World.block_lt_of_cell? w _ (hc j u hu)) ▸ hc j u hu⟩
theorem flatP_at : (l : List Opn) → (i : Nat) → i < l.length → ∀ j, j < 7 → (flatP l)[i * 7 + j]? = (encP (l.getD i op0))[j]?
  | [], i, h, _, _ => absurd h (by simp)
  | x :: r, 0, _, j, hj => by
    have e : flatP (x :: r) = encP x ++ flatP r := by simp [flatP]
    rw [e, Nat.zero_mul, Nat.zero_add, List.getElem?_append_left (by show j < 7; omega)]; rfl
  | x :: r, i + 1, h, j, hj => by
    have e : flatP (x :: r) = encP x ++ flatP r := by simp [flatP]
    have h3 : (encP x).length = 7 := rfl
    rw [e, List.getElem?_append_right (by omega), h3, show (i + 1) * 7 + j - 7 = i * 7 + j by omega, flatP_at r i (by simpa using h) j hj]
    rfl
/-- One operation of a row. -/
theorem RdP.at {w : World} {a : Option Addr} {n : Nat} {l : List Opn} (h : RdP w a n l) (i : Nat) (hi : i < n) : ∃ b off, a = some ⟨b, off, none⟩ ∧ w.cell? ⟨b, off + i * 7, none⟩ = some (.int .i64 (l.getD i op0).c) ∧ w.cell? ⟨b, off + i * 7 + 1, none⟩ = some (.int .i64 (l.getD i op0).a) ∧ w.cell? ⟨b, off + i * 7 + 2, none⟩ = some (.int .i64 (l.getD i op0).s) ∧ w.cell? ⟨b, off + i * 7 + 3, none⟩ = some (.bool (l.getD i op0).ins) ∧ w.cell? ⟨b, off + i * 7 + 4, none⟩ = some (.int .i64 (l.getD i op0).rc) ∧ w.cell? ⟨b, off + i * 7 + 5, none⟩ = some (.int .i64 (l.getD i op0).ra) ∧ w.cell? ⟨b, off + i * 7 + 6, none⟩ = some (.int .i32 (l.getD i op0).ch) := by
  obtain ⟨b, off, ha, hc⟩ := h.2 (by omega)
  have hh : ∀ j u, j < 7 → (encP (l.getD i op0))[j]? = some u → w.cell? ⟨b, off + i * 7 + j, none⟩ = some u := fun j u hj hu => by
    rw [Nat.add_assoc]
    exact hc _ _ (by rw [flatP_at l i (by rw [h.1]; exact hi) j hj]; exact hu)
  exact ⟨b, off, ha, hh 0 _ (by omega) rfl, hh 1 _ (by omega) rfl, hh 2 _ (by omega) rfl, hh 3 _ (by omega) rfl, hh 4 _ (by omega) rfl, hh 5 _ (by omega) rfl, hh 6 _ (by omega) rfl⟩
theorem rdP_own {w : World} {B : Nat} {e : TypeId} {v : Value} {n : Nat} {l : List Opn} (h : w.ownsRow B e 7 v n (flatP l)) : ∃ a cap, v = .slice a n cap ∧ n ≤ cap ∧ cap ≤ 9223372036854775807 ∧ RdP w a n l ∧ (a = none → cap = 0) := by
  have hl : l.length = n := by have := h.1; rw [flatP_len] at this; omega
  rcases h.2 with ⟨rfl, rfl⟩ | ⟨g, cap, cur, rfl, hb, hg, hn, hm, hs, ht⟩
  · exact ⟨none, 0, rfl, by omega, by omega, ⟨hl, fun hp => absurd hp (by omega)⟩, fun _ => rfl⟩
  · refine ⟨_, cap, rfl, hn, by simpa [maxLen] using hm, ⟨hl, fun hp => ⟨g, 0, rfl, fun j u hu => ?_⟩⟩, fun h => by cases h⟩
    rw [Nat.zero_add, cell_of_row w g _ _ _ _ hg]
    rw [← ht, List.getElem?_take] at hu
    split at hu
    · simpa using hu
    · cases hu
theorem flatP_cells (l : List Opn) : ∀ v ∈ flatP l, v.oneCell' = true := by
  intro v hv
  simp only [flatP, List.mem_flatMap] at hv
  obtain ⟨x, _, hx⟩ := hv
  exact encP_one x v hx
theorem id_cells14 {H : Type} {enc : TypeId × Value → H} {W : World} {fuel : Nat} {cs : List Value} {x : DataW H × List MemPlace} (hf : DataW.trod enc Try.prog W 0 (fun _ => true) true fuel 32 cs = some x) : ∃ c a, cs = [.int .i64 c, .int .i64 a] ∧ (Lit.int .i64 a).wf = true := by
  obtain ⟨xs, k, rfl, hxy, hlen, hxl, hfl⟩ := DataW.trod_struct Try.underlying32 hf
  have ci : Try.prog.cellsOf 3 = 1 := by kernel_rfl
  have cr : Try.prog.cellsOf 32 = 2 := by kernel_rfl
  rw [cr] at hlen
  have hx2 : xs.length = 2 := hxl
  obtain ⟨v0, v1, rfl⟩ : ∃ v0 v1, cs = [v0, v1] := by
    rcases cs with _ | ⟨v0, _ | ⟨v1, _ | ⟨v2, r⟩⟩⟩
    all_goals first | exact ⟨_, _, rfl⟩ | (simp at hlen)
  obtain ⟨y0, y1, rfl⟩ : ∃ y0 y1, xs = [y0, y1] := by
    rcases xs with _ | ⟨v0, _ | ⟨v1, _ | ⟨v2, r⟩⟩⟩
    all_goals first | exact ⟨_, _, rfl⟩ | (simp at hx2)
  have g0 := hfl 0 _ rfl
  have g1 := hfl 1 _ rfl
  simp [ci] at g0 g1
  obtain ⟨c, h0, _⟩ := DataW.trod_int Try.underlying3 g0
  obtain ⟨a, h1, _, hw⟩ := DataW.trod_int Try.underlying3 g1
  simp at h0 h1
  exact ⟨c, a, by rw [h0, h1], hw⟩
set_option maxRecDepth 100000 in
theorem op_cells14 {H : Type} {enc : TypeId × Value → H} {W : World} {fuel : Nat} {cl : List Value} {x : DataW H × List MemPlace} (hf : DataW.trod enc Try.prog W 0 (fun _ => true) true fuel 34 cl = some x) : ∃ o : Opn, cl = encP o := by
  obtain ⟨xs, k, rfl, hxy, hlen, hxl, hfl⟩ := DataW.trod_struct Try.underlying34 hf
  have ci : Try.prog.cellsOf 3 = 1 := by kernel_rfl
  have cb : Try.prog.cellsOf 4 = 1 := by kernel_rfl
  have c32 : Try.prog.cellsOf 21 = 1 := by kernel_rfl
  have cd : Try.prog.cellsOf 32 = 2 := by kernel_rfl
  have cr : Try.prog.cellsOf 34 = 7 := by kernel_rfl
  rw [cr] at hlen
  have hx5 : xs.length = 5 := hxl
  obtain ⟨v0, v1, v2, v3, v4, v5, v6, hc7⟩ : ∃ v0 v1 v2 v3 v4 v5 v6, cl = [v0, v1, v2, v3, v4, v5, v6] := by
    rcases cl with _ | ⟨v0, _ | ⟨v1, _ | ⟨v2, _ | ⟨v3, _ | ⟨v4, _ | ⟨v5, _ | ⟨v6, _ | ⟨v7, r⟩⟩⟩⟩⟩⟩⟩⟩
    all_goals first | exact ⟨_, _, _, _, _, _, _, rfl⟩ | (simp at hlen)
  subst hc7
  obtain ⟨y0, y1, y2, y3, y4, rfl⟩ : ∃ y0 y1 y2 y3 y4, xs = [y0, y1, y2, y3, y4] := by
    rcases xs with _ | ⟨v0, _ | ⟨v1, _ | ⟨v2, _ | ⟨v3, _ | ⟨v4, _ | ⟨v5, r⟩⟩⟩⟩⟩⟩
    all_goals first | exact ⟨_, _, _, _, _, rfl⟩ | (simp at hx5)
  have g0 := hfl 0 _ rfl
  have g1 := hfl 1 _ rfl
  have g2 := hfl 2 _ rfl
  have g3 := hfl 3 _ rfl
  have g4 := hfl 4 _ rfl
  simp [ci, cb, cd, c32] at g0 g1 g2 g3 g4
  obtain ⟨c, a, e0, _⟩ := id_cells14 g0
  obtain ⟨s, e1, _⟩ := DataW.trod_int Try.underlying3 g1
  obtain ⟨b, e2, _⟩ := DataW.trod_bool Try.underlying4 g2
  obtain ⟨rc, ra, e3, _⟩ := id_cells14 g3
  obtain ⟨ch, e4, _⟩ := DataW.trod_int Try.underlying21 g4
  simp at e0 e1 e2 e3 e4
  obtain ⟨rfl, rfl⟩ := e0
  obtain ⟨rfl, rfl⟩ := e3
  subst e1 e2 e4
  exact ⟨⟨c, a, s, b, rc, ra, ch⟩, rfl⟩
theorem add_lit14 (b off i : Nat) : (⟨b, off, none⟩ : Addr).add i = ⟨b, off + i, none⟩ := by unfold Addr.add; split <;> simp_all
theorem open_ops14 {H : Type} {enc : TypeId × Value → H} {W : World} {a : Option Addr} {len cap : Nat} {d : DataW H} {p : List MemPlace} (h : DataW.Trod enc Try.prog W 0 (fun _ => true) true 22 (.slice a len cap) d p) :
    ∃ l : List Opn, RdP W a len l ∧ len ≤ cap ∧ cap ≤ 9223372036854775807 := by
  obtain ⟨fuel, hf⟩ := h
  rcases Go.Deep.open_slice Try.underlying22 hf with ⟨hcs, _⟩ | ⟨x, l, c, m, n, D, Pl, hcs, _, hl, hm, hmm, _, hx⟩
  · simp [Value.cells] at hcs
    obtain ⟨rfl, rfl, rfl⟩ := hcs
    exact ⟨[], ⟨rfl, fun h => absurd h (by omega)⟩, by omega, by omega⟩
  · simp [Value.cells] at hcs
    obtain ⟨rfl, rfl, rfl⟩ := hcs
    have hml : len ≤ m := by rw [hmm]; split <;> omega
    have hce : Try.prog.cellsOf 34 = 7 := by kernel_rfl
    rw [hce] at hx
    haveI : Inhabited Opn := ⟨op0⟩
    have each : ∀ i, i < len → ∃ o : Opn, ∀ j u, (encP o)[j]? = some u → W.cell? (x.add (i * 7 + j)) = some u := by
      intro i hi
      obtain ⟨cs', h1, h2⟩ := hx i (by omega)
      obtain ⟨_, hlen, hcell⟩ := World.cells?_some h1
      obtain ⟨o, rfl⟩ := op_cells14 h2
      refine ⟨o, fun j u hu => ?_⟩
      have hj : j < 7 := by
        rcases Nat.lt_or_ge j 7 with q | q
        · exact q
        · rw [List.getElem?_eq_none (by show (encP o).length ≤ j; exact q)] at hu; cases hu
      have := hcell j hj
      rw [Go.Deep.add_add] at this
      rw [this]; exact hu
    obtain ⟨R, hR⟩ := Go.Deep.choose_lt each
    have hat : ∀ i, i < len → ((List.range len).map R).getD i op0 = R i := fun i hi => by simp [hi]
    refine ⟨(List.range len).map R, ⟨by simp, fun hp => ?_⟩, hl, by simpa [maxLen] using hm⟩
    obtain ⟨b, off, rfl⟩ : ∃ b off, x = ⟨b, off, none⟩ := by
      obtain ⟨b, off, spot⟩ := x
      have h30 := hR 0 hp 0 (.int .i64 (R 0).c) rfl
      have hs : spot = none := by simpa [Addr.add] using World.cell?_spot h30
      exact ⟨b, off, by rw [hs]⟩
    refine ⟨b, off, rfl, fun j u hu => ?_⟩
    have hjl : j < 7 * len := by
      rcases Nat.lt_or_ge j (7 * len) with q | q
      · exact q
      · rw [List.getElem?_eq_none (by rw [flatP_len]; simpa using q)] at hu; cases hu
    have e := flatP_at ((List.range len).map R) (j / 7) (by simp; omega) (j % 7) (by omega)
    have ej : j / 7 * 7 + j % 7 = j := by omega
    rw [ej, hat _ (by omega)] at e
    rw [e] at hu
    have := hR (j / 7) (by omega) (j % 7) u hu
    rw [add_lit14, ej] at this
    exact this
end Go.Proofs.Ytcbnmahbdcjamaa
