/- Slices of ranges, names and characters that come in as arguments. -/
import Derived.Test.YtgncpchgmjacdaaGreatDoorPropsX
import Derived.Deep.Slices
import Derived.Deep.Strs
import Derived.ChangeSame
import Derived.ChangeSlices
namespace Go.Proofs.YtgncpchgmjacdaaGreatDoor
open Go.ChangeShapes Go.WideShapes Go.RowKit
set_option linter.unusedVariables false

/-- Ranges whose ends are int32 and whose names are no longer than a text can be. -/
def RgI (rs : List Rg) : Prop := ∀ r ∈ rs, (-2147483648 ≤ r.1 ∧ r.1 ≤ 2147483647) ∧ (-2147483648 ≤ r.2.1 ∧ r.2.1 ≤ 2147483647) ∧ r.2.2.length ≤ 9223372036854775807
theorem i32_of_wf {n : Int} (h : (Lit.int .i32 n).wf = true) : -2147483648 ≤ n ∧ n ≤ 2147483647 := by
  simp [Lit.wf, IntKind.min, IntKind.max, IntKind.bits, IntKind.signed] at h
  omega
theorem str_nums (s : ByteArray) : strOfNums (nums s) = s := by
  apply str_ext
  rw [strOfNums_data]
  unfold nums
  have e : ((fun n : Int => UInt8.ofNat n.toNat) ∘ fun b : UInt8 => (b.toNat : Int)) = id := by funext b; simp
  rw [List.map_map, e]
  simp

theorem open_ranges {H : Type} {enc : TypeId × Value → H} {W : World} {a : Option Addr} {len cap : Nat} {d : DataW H} {p : List MemPlace} (h : DataW.Trod enc Tryz.prog W 0 (fun _ => true) true 23 (.slice a len cap) d p) :
    ∃ rs, RdR W a len rs ∧ RgS rs ∧ RgI rs ∧ len ≤ cap ∧ cap ≤ 9223372036854775807 ∧ (a = none → cap = 0) := by
  obtain ⟨fuel, hf⟩ := h
  rcases Go.Deep.open_slice Tryz.underlying23 hf with ⟨hcs, _⟩ | ⟨x, l, c, m, n, D, Pl, hcs, _, hl, hm, hmm, _, hx⟩
  · simp [Value.cells] at hcs
    obtain ⟨rfl, rfl, rfl⟩ := hcs
    exact ⟨[], ⟨rfl, fun h => absurd h (by omega)⟩, fun r hr => by simp at hr, fun r hr => by simp at hr, by omega, by omega, fun _ => rfl⟩
  · simp [Value.cells] at hcs
    obtain ⟨rfl, rfl, rfl⟩ := hcs
    have hml : len ≤ m := by rw [hmm]; split <;> omega
    have hce : Tryz.prog.cellsOf 39 = 3 := by kernel_rfl
    rw [hce] at hx
    have each : ∀ i, i < len → ∃ r : Rg, W.cell? (x.add (i * 3)) = some (.int .i32 r.1) ∧ W.cell? (x.add (i * 3 + 1)) = some (.int .i32 r.2.1) ∧ W.cell? (x.add (i * 3 + 2)) = some (.string (strOfNums r.2.2)) ∧ (∀ y ∈ r.2.2, 0 ≤ y ∧ y ≤ 255) ∧
        (-2147483648 ≤ r.1 ∧ r.1 ≤ 2147483647) ∧ (-2147483648 ≤ r.2.1 ∧ r.2.1 ≤ 2147483647) ∧ r.2.2.length ≤ 9223372036854775807 := by
      intro i hi
      obtain ⟨cs', h1, h2⟩ := hx i (by omega)
      obtain ⟨_, hlen, hcell⟩ := World.cells?_some h1
      obtain ⟨xs, k, hk, hxy, _, hxl, hfl⟩ := DataW.trod_struct Tryz.underlying39 h2
      have ci : Tryz.prog.cellsOf 21 = 1 := by kernel_rfl
      have cs : Tryz.prog.cellsOf 9 = 1 := by kernel_rfl
      have hx3 : xs.length = 3 := hxl
      obtain ⟨v0, v1, v2, rfl⟩ : ∃ v0 v1 v2, cs' = [v0, v1, v2] := by
        rcases cs' with _ | ⟨v0, _ | ⟨v1, _ | ⟨v2, _ | ⟨v3, r⟩⟩⟩⟩
        · simp at hlen
        · simp at hlen
        · simp at hlen
        · exact ⟨_, _, _, rfl⟩
        · simp at hlen
      obtain ⟨y0, y1, y2, rfl⟩ : ∃ y0 y1 y2, xs = [y0, y1, y2] := by
        rcases xs with _ | ⟨v0, _ | ⟨v1, _ | ⟨v2, _ | ⟨v3, r⟩⟩⟩⟩
        · simp at hx3
        · simp at hx3
        · simp at hx3
        · exact ⟨_, _, _, rfl⟩
        · simp at hx3
      have g0 := hfl 0 _ rfl
      have g1 := hfl 1 _ rfl
      have g2 := hfl 2 _ rfl
      simp [ci, cs] at g0 g1 g2
      have e0 := hcell 0 (by omega)
      have e1 := hcell 1 (by omega)
      have e2 := hcell 2 (by omega)
      rw [Go.Deep.add_add] at e0 e1 e2
      obtain ⟨n0, hn0, _, w0⟩ := DataW.trod_int Tryz.underlying21 g0
      obtain ⟨n1, hn1, _, w1⟩ := DataW.trod_int Tryz.underlying21 g1
      obtain ⟨s, hs, _, ws⟩ := DataW.trod_string Tryz.underlying9 g2
      simp at hn0 hn1 hs
      subst hn0 hn1 hs
      refine ⟨(n0, n1, nums s), by simpa using e0, by simpa using e1, by rw [str_nums]; simpa using e2, nums_rng s, i32_of_wf w0, i32_of_wf w1, by show (nums s).length ≤ _; rw [nums_len]; simpa [maxLen] using ws⟩
    obtain ⟨R, hR⟩ := Go.Deep.choose_lt each
    have hspot : ∀ h : 0 < len, ∃ b off, x = ⟨b, off, none⟩ := by
      intro h
      obtain ⟨b, off, spot⟩ := x
      have h30 := (hR 0 h).1
      have hs : spot = none := by simpa [Addr.add] using World.cell?_spot h30
      exact ⟨b, off, by rw [hs]⟩
    have hat : ∀ i, i < len → ((List.range len).map R).getD i (0, 0, []) = R i := fun i hi => by simp [hi]
    refine ⟨(List.range len).map R, ⟨by simp, fun hp => ?_⟩, ?_, ?_, hl, by simpa [maxLen] using hm, fun h => by cases h⟩
    · obtain ⟨b, off, rfl⟩ := hspot hp
      refine ⟨b, off, rfl, fun j v hv => ?_⟩
      have hj : j < 3 * len := by
        have := (List.getElem?_eq_some_iff.1 hv).1
        rw [flatR_len] at this
        simpa using this
      have hr := hR (j / 3) (by omega)
      have hf := flatR_at ((List.range len).map R) (j / 3) (by simp; omega) (j % 3) (by omega)
      rw [show 3 * (j / 3) + j % 3 = j by omega, hv, hat _ (by omega)] at hf
      simp only [add_lit] at hr
      rcases (by omega : j % 3 = 0 ∨ j % 3 = 1 ∨ j % 3 = 2) with h | h | h
      · rw [h] at hf
        rw [show off + j = off + j / 3 * 3 by omega, hr.1]
        simp [encR] at hf
        rw [hf]
      · rw [h] at hf
        rw [show off + j = off + (j / 3 * 3 + 1) by omega, hr.2.1]
        simp [encR] at hf
        rw [hf]
      · rw [h] at hf
        rw [show off + j = off + (j / 3 * 3 + 2) by omega, hr.2.2.1]
        simp [encR] at hf
        rw [hf]
    · intro r hr
      obtain ⟨i, hi, rfl⟩ := List.mem_map.1 hr
      exact (hR i (by simpa using hi)).2.2.2.1
    · intro r hr
      obtain ⟨i, hi, rfl⟩ := List.mem_map.1 hr
      exact (hR i (by simpa using hi)).2.2.2.2
theorem open_names {H : Type} {enc : TypeId × Value → H} {W : World} {a : Option Addr} {len cap : Nat} {d : DataW H} {p : List MemPlace} (h : DataW.Trod enc Tryz.prog W 0 (fun _ => true) true 35 (.slice a len cap) d p) :
    ∃ ns, RdS W a len ns ∧ Nms ns ∧ len ≤ cap ∧ cap ≤ 9223372036854775807 ∧ (a = none → cap = 0) := by
  obtain ⟨fuel, hf⟩ := h
  rcases Go.Deep.open_strs Tryz.underlying35 Tryz.underlying9 (by kernel_rfl) hf with ⟨hcs, _⟩ | ⟨x, l, c, m, S, hcs, _, hl, hm, hmm, _, hcell⟩
  · simp [Value.cells] at hcs
    obtain ⟨rfl, rfl, rfl⟩ := hcs
    exact ⟨[], ⟨rfl, fun h => absurd h (by omega)⟩, fun r hr => by simp at hr, by omega, by omega, fun _ => rfl⟩
  · simp [Value.cells] at hcs
    obtain ⟨rfl, rfl, rfl⟩ := hcs
    have hml : len ≤ m := by rw [hmm]; split <;> omega
    refine ⟨(List.range len).map fun i => nums (S i), ⟨by simp, fun hp => ?_⟩, ?_, hl, by simpa [maxLen] using hm, fun h => by cases h⟩
    · obtain ⟨b, off, spot⟩ := x
      have h30 := (hcell 0 (by omega)).1
      have hs : spot = none := by simpa [Addr.add] using World.cell?_spot h30
      subst hs
      refine ⟨b, off, rfl, fun i hi => ?_⟩
      have := (hcell i (by omega)).1
      rw [add_lit] at this
      rw [this]
      simp [hi, str_nums]
    · intro r hr
      obtain ⟨i, hi, rfl⟩ := List.mem_map.1 hr
      refine ⟨nums_rng _, ?_⟩
      rw [nums_len]
      simpa [maxLen] using (hcell i (by have : i < len := by simpa using hi
                                        omega)).2
end Go.Proofs.YtgncpchgmjacdaaGreatDoor
