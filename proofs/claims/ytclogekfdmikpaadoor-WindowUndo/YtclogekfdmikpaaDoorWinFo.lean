/- A step that comes in: two numbers, and a row of numbers. -/
import Derived.Test.YtclogekfdmikpaaDoorJ27
import Derived.Test.YtclogekfdmikpaaDoorJ41
import Derived.Deep.Slices
namespace Go.Proofs.YtclogekfdmikpaaDoor
open Go.ChangeShapes Go.WideShapes Go.ChangeAt Go.RowKit
set_option linter.unusedVariables false

theorem open_nums {H : Type} {enc : TypeId × Value → H} {W : World} {fuel : Nat} {cs : List Value} {x : DataW H × List MemPlace} (h : DataW.trod enc Tryd.prog W 0 (fun _ => true) true fuel 26 cs = some x) :
 ∃ a len cap xs, cs = [.slice a len cap] ∧ Rd .i64 W a len xs ∧ len ≤ cap ∧ (a = none → cap = 0) := by
 rcases Go.Deep.open_slice1 Tryd.underlying26 (by kernel_rfl) h with ⟨h0, _⟩ | ⟨a, len, cap, m, n, V, D, Pl, rfl, hb, hl, hm, hmm, rfl, hx⟩
 ·exact ⟨none, 0, 0, [], h0, rd_nil _ _, by omega, fun _ => rfl⟩
 ·have hml : len ≤ m := by rw [hmm]; split <;> omega
  have each : ∀ i, i < len → ∃ y : Int, W.cell? (a.add i) = some (.int .i64 y) := fun i hi => by
   obtain ⟨h1, h2⟩ := hx i (by omega)
   obtain ⟨y, hy, _⟩ := DataW.trod_int Tryd.underlying3 h2
   simp at hy
   exact ⟨y, by rw [h1, hy]⟩
  obtain ⟨R, hR⟩ := Go.Deep.choose_lt each
  refine ⟨some a, len, cap, (List.range len).map R, rfl, ⟨by simp, fun hp => ?_⟩, hl, fun h => by cases h⟩
  obtain ⟨b, off, rfl⟩ : ∃ b off, a = ⟨b, off, none⟩ := by
   obtain ⟨b, off, spot⟩ := a
   have h30 := hR 0 hp
   have hs : spot = none := by simpa [Addr.add] using World.cell?_spot h30
   exact ⟨b, off, by rw [hs]⟩
  refine ⟨b, off, rfl, fun i hi => ?_⟩
  have := hR i hi
  rw [add_lit] at this
  rw [this]
  simp [hi]
set_option maxRecDepth 100000 in
theorem open_step11 {H : Type} {enc : TypeId × Value → H} {W : World} {base : Nat} {v : Value} {d : DataW H} {p : List MemPlace} (hval : Value.okWide Tryd.prog W .any base 39 v) (h : DataW.Trod enc Tryd.prog W 0 (fun _ => true) true 39 v d p) :
 ∃ (x y : Int) (xs : List Int) (a : Option Addr) (len cap : Nat), v = .agg #[.int .i64 x, .int .i64 y, .slice a len cap] ∧ Rd .i64 W a len xs ∧ len ≤ cap ∧ (a = none → cap = 0) ∧ ∀ ad, a = some ad → ad.block < W.heap.size := by
 have hval' := hval
 obtain ⟨cs, rfl, _⟩ := okWide_struct Tryd.underlying39 hval
 obtain ⟨fuel, hf0⟩ := h
 obtain ⟨cl, hcl⟩ : ∃ cl, cl = cs.toList := ⟨_, rfl⟩
 have hf : DataW.trod enc Tryd.prog W 0 (fun _ => true) true fuel 39 cl = some (d, p) := by rw [hcl]; exact hf0
 obtain ⟨xs, k, rfl, hxy, hlen, hxl, hfl⟩ := DataW.trod_struct Tryd.underlying39 hf
 have ci : Tryd.prog.cellsOf 3 = 1 := by kernel_rfl
 have cb : Tryd.prog.cellsOf 26 = 1 := by kernel_rfl
 have cr : Tryd.prog.cellsOf 39 = 3 := by kernel_rfl
 rw [cr] at hlen
 have hx3 : xs.length = 3 := hxl
 obtain ⟨v0, v1, v2, hc3⟩ : ∃ v0 v1 v2, cl = [v0, v1, v2] := by
  rcases cl with _ | ⟨v0, _ | ⟨v1, _ | ⟨v2, _ | ⟨v3, r⟩⟩⟩⟩
  all_goals first | exact ⟨_, _, _, rfl⟩ | (simp at hlen)
 subst hc3
 obtain ⟨y0, y1, y2, rfl⟩ : ∃ y0 y1 y2, xs = [y0, y1, y2] := by
  rcases xs with _ | ⟨v0, _ | ⟨v1, _ | ⟨v2, _ | ⟨v3, r⟩⟩⟩⟩
  all_goals first | exact ⟨_, _, _, rfl⟩ | (simp at hx3)
 have g0 := hfl 0 _ rfl
 have g1 := hfl 1 _ rfl
 have g2 := hfl 2 _ rfl
 simp [ci, cb] at g0 g1 g2
 obtain ⟨x, e0, _⟩ := DataW.trod_int Tryd.underlying3 g0
 obtain ⟨y, e1, _⟩ := DataW.trod_int Tryd.underlying3 g1
 obtain ⟨a, len, cap, zs, e2, hr, hl, hn⟩ := open_nums g2
 simp at e0 e1 e2
 subst e0 e1 e2
 have hcs : cs = #[.int .i64 x, .int .i64 y, .slice a len cap] := by
  cases cs
  simp at hcl
  rw [← hcl]
 refine ⟨x, y, zs, a, len, cap, by rw [hcs], hr, hl, hn, ?_⟩
 subst hcs
 rintro ad rfl
 simp only [Value.okWide, Tryd.underlying39] at hval'
 obtain ⟨cs', h1, _, ts, hts, _, hall⟩ := hval'
 injection h1 with h1
 subst h1
 obtain ⟨u, hu, hc⟩ := hall 2 _ rfl
 have hte : Tryd.prog.cellTypes Tryd.prog.depth 39 = some [3, 3, 26] := by kernel_rfl
 have hts' : ts = [3, 3, 26] := Option.some.inj (hts.symm.trans hte)
 subst hts'
 have hu' : u = 26 := by simpa using hu.symm
 subst hu'
 exact ok_block (v := some ad) (len := len) (cap := cap) (base := base) Tryd.underlying26 (by simp only [Value.okWide, Tryd.underlying26]; exact hc) ad rfl
end Go.Proofs.YtclogekfdmikpaaDoor
