/- Rules that come in as arguments. -/
import Derived.Test.YtjbhfonokgkalaaReaY
import Derived.Deep.Slices
import Derived.ChangeSame
import Derived.ChangeSlices
import GoSem.ClaimJoined
namespace Go.Proofs.Ytjbhfonokgkalaa
open Go.ChangeShapes Go.WideShapes Go.RowKit
set_option linter.unusedVariables false
set_option linter.unusedSimpArgs false

theorem InV.mono {B : Nat} {w : World} {d d' : Nat} (h : d ≤ d') {n : Nd} {vs : List Value} (hi : InV B w d n vs) : InV B w d' n vs := by
  induction d' with
  | zero => obtain rfl : d = 0 := by omega
            exact hi
  | succ e ih =>
    rcases Nat.lt_or_ge d (e + 1) with h1 | h1
    · exact (ih (by omega)).deep e
    · obtain rfl : d = e + 1 := by omega
      exact hi
/-- Numbers that come in. -/
theorem open_cls {H : Type} {enc : TypeId × Value → H} {W : World} {fuel : Nat} {cs : List Value} {x : DataW H × List MemPlace} (hf : DataW.trod enc Try.prog W 0 (fun _ => true) true fuel 23 cs = some x) (hw : (x.1.weights Try.prog 23).all (· ≤ reachBytes) = true) :
    ∃ a zs c, cs = [.slice a zs.length c] ∧ Rd .i64 W a zs.length zs ∧ zs.length ≤ 140737488355328 ∧ zs.length ≤ c ∧ c ≤ 9223372036854775807 ∧ (a = none → c = 0) := by
  rcases open_ints Try.underlying23 Try.underlying3 (by kernel_rfl) hf with ⟨hcs, _⟩ | ⟨x0, l, c, zs, hcs, _, hl, hm, hz, hx, hcell, hwz⟩
  · exact ⟨none, [], 0, hcs, rd_nil _ _, by simp, by simp, by omega, fun _ => rfl⟩
  · have hzl : zs.length = c := by simpa using hz
    have htl : (zs.take l).length = l := by simp; omega
    have hb : Try.prog.bytesOf 3 = 8 := by kernel_rfl
    rw [hx] at hw
    simp only [DataW.weights, Try.underlying23, List.all_cons, Bool.and_eq_true, decide_eq_true_eq] at hw
    have h1 := hw.1
    simp only [lits, List.length_map, List.length_take, List.length_drop, hb, reachBytes] at h1
    have hrow := rd_row (k := .i64) (w := W) (a := some x0) (len := l) (cap := c) (zs := zs) (.inr ⟨x0, rfl, hl, hm, hzl, hcell, hwz⟩)
    refine ⟨some x0, zs.take l, c, by rw [htl]; exact hcs, by rw [htl]; exact hrow.2.2.1 l (Nat.le_refl _), by rw [htl]; omega, by rw [htl]; exact hl, by simpa [maxLen] using hm, fun h => by cases h⟩
theorem w33 {H : Type} (d0 d1 d2 : DataW H) (h : ((DataW.agg [d0, d1, d2]).weights Try.prog 33).all (· ≤ reachBytes) = true) : (d1.weights Try.prog 23).all (· ≤ reachBytes) = true ∧ (d2.weights Try.prog 31).all (· ≤ reachBytes) = true := by
  simp only [DataW.weights, Try.underlying33, DataW.weightsEach, List.map_cons, List.map_nil, List.all_append, Bool.and_eq_true] at h
  exact ⟨h.2.1, h.2.2.1⟩
theorem wAll {H : Type} (t : TypeId) : (l : List (DataW H)) → (DataW.weightsAll Try.prog t l).all (· ≤ reachBytes) = true → ∀ d ∈ l, (d.weights Try.prog t).all (· ≤ reachBytes) = true
  | [], _, d, hd => by simp at hd
  | x :: r, h, d, hd => by
    simp only [DataW.weightsAll, List.all_append, Bool.and_eq_true] at h
    rcases List.mem_cons.1 hd with rfl | hd
    · exact h.1
    · exact wAll t r h.2 d hd

theorem open_node {H : Type} {enc : TypeId × Value → H} {W : World} (fuel : Nat) : ∀ {cs : List Value} {x : DataW H × List MemPlace}, DataW.trod enc Try.prog W 0 (fun _ => true) true fuel 33 cs = some x → (x.1.weights Try.prog 33).all (· ≤ reachBytes) = true → ∃ n, InV W.heap.size W fuel n cs := by
  induction fuel using Nat.strongRecOn with
  | _ fuel ih =>
    intro cs x hf hw
    haveI : Inhabited Nd := ⟨nilNd⟩
    obtain ⟨xs, k, rfl, hxy, hlen, hxl, hfl⟩ := DataW.trod_struct Try.underlying33 hf
    have ci : Try.prog.cellsOf 3 = 1 := by kernel_rfl
    have cl : Try.prog.cellsOf 23 = 1 := by kernel_rfl
    have cp : Try.prog.cellsOf 31 = 1 := by kernel_rfl
    have cn : Try.prog.cellsOf 33 = 3 := by kernel_rfl
    have bn : Try.prog.bytesOf 33 = 56 := by kernel_rfl
    rw [cn] at hlen
    have hx3 : xs.length = 3 := hxl
    obtain ⟨v0, v1, v2, rfl⟩ : ∃ v0 v1 v2, cs = [v0, v1, v2] := by
      rcases cs with _ | ⟨v0, _ | ⟨v1, _ | ⟨v2, _ | ⟨v3, r⟩⟩⟩⟩
      · simp at hlen
      · simp at hlen
      · simp at hlen
      · exact ⟨_, _, _, rfl⟩
      · simp at hlen
    obtain ⟨y0, y1, y2, rfl⟩ : ∃ y0 y1 y2, xs = [y0, y1, y2] := by
      rcases xs with _ | ⟨v0, _ | ⟨v1, _ | ⟨v2, _ | ⟨v3, r⟩⟩⟩⟩
      · simp at hx3
      · simp at hx3
      · simp at hx3
      · exact ⟨_, _, _, rfl⟩
      · simp at hx3
    have g0 := hfl 0 _ rfl
    have g1 := hfl 1 _ rfl
    have g2 := hfl 2 _ rfl
    simp [ci, cl, cp] at g0 g1 g2
    rw [hxy] at hw
    obtain ⟨hw1, hw2⟩ := w33 y0.1 y1.1 y2.1 hw
    obtain ⟨op, hop, _, _⟩ := DataW.trod_int Try.underlying3 g0
    obtain ⟨ca, zs, cc, hcs, hrd, hzl, _, _, _⟩ := open_cls g1 hw1
    simp at hop hcs
    subst hop hcs
    rcases DataW.trod_slice Try.underlying31 g2 with ⟨hcs, _⟩ | ⟨a, len, cap, elems, rest, n, hn, hcs, hyy, _, hl, hm, hel, hat, hsp, _⟩
    · simp at hcs
      subst hcs
      exact ⟨⟨op, zs, .nil⟩, ca, cc, none, 0, rfl, hrd, hrd.lt, hzl, by simp [toL], fun hp => by simp [toL] at hp⟩
    · simp at hcs
      subst hcs
      rw [hyy] at hw2
      simp only [DataW.weights, Try.underlying31, List.all_cons, List.all_append, Bool.and_eq_true, decide_eq_true_eq, List.length_map, bn, reachBytes] at hw2
      obtain ⟨hw3, hw4, _⟩ := hw2
      have hw5 : (elems.length + rest.length) * 56 ≤ 140737488351232 := of_decide_eq_true hw3
      have each : ∀ i, i < len → ∃ m : Nd, ∃ us, InV W.heap.size W k m us ∧ us.length = 3 ∧ ∀ j, j < 3 → W.cell? (a.add (i * 3 + j)) = us[j]? := by
        intro i hi
        have h1 := hat i hi
        rw [List.getElem?_eq_getElem (by omega)] at h1
        obtain ⟨us, hus, htr⟩ := Option.bind_eq_some_iff.1 h1
        rw [cn] at hus
        obtain ⟨_, hul, hcell⟩ := World.cells?_some hus
        have hwi : ((elems[i]'(by omega)).1.weights Try.prog 33).all (· ≤ reachBytes) = true := wAll _ _ hw4 _ (List.mem_map.2 ⟨elems[i]'(by omega), List.getElem_mem _, rfl⟩)
        obtain ⟨m, hm2⟩ := ih n (by omega) htr hwi
        refine ⟨m, us, hm2.mono (by omega), hul, fun j hj => ?_⟩
        have := hcell j hj
        rw [Go.Deep.add_add] at this
        exact this
      obtain ⟨N, hN⟩ := Go.Deep.choose_lt each
      refine ⟨⟨op, zs, ofL ((List.range len).map N)⟩, ca, cc, some a, cap, ?_, hrd, hrd.lt, hzl, ?_, fun hp => ?_⟩
      · show [Value.int .i64 op, .slice ca zs.length cc, .slice (some a) len cap] = [Value.int .i64 op, .slice ca zs.length cc, .slice (some a) (toL (ofL ((List.range len).map N))).length cap]
        rw [toL_ofL]
        simp
      · show (toL (ofL ((List.range len).map N))).length ≤ _
        rw [toL_ofL]
        simp
        omega
      · have hp' : 0 < len := by
          have h2 : 0 < (toL (ofL ((List.range len).map N))).length := hp
          rw [toL_ofL] at h2
          simpa using h2
        obtain ⟨b, off, rfl⟩ : ∃ b off, a = ⟨b, off, none⟩ := by
          obtain ⟨b, off, spot⟩ := a
          obtain ⟨us, _, hul, hc⟩ := hN 0 hp'
          have h30 := hc 0 (by omega)
          rw [List.getElem?_eq_getElem (by omega)] at h30
          have hs : spot = none := by simpa [Addr.add] using World.cell?_spot h30
          exact ⟨b, off, by rw [hs]⟩
        refine ⟨b, off, rfl, fun i hi => ?_⟩
        have hi' : i < len := by
          have h2 : i < (toL (ofL ((List.range len).map N))).length := hi
          rw [toL_ofL] at h2
          simpa using h2
        obtain ⟨us, hin, hul, hc⟩ := hN i hi'
        refine ⟨us, ?_, fun j v hv => ?_⟩
        · have e : (toL (ofL ((List.range len).map N)))[i]'hi = N i := by simp only [toL_ofL, List.getElem_map, List.getElem_range]
          show InV W.heap.size W k ((toL (ofL ((List.range len).map N)))[i]'hi) us
          rw [e]
          exact hin
        · have hj : j < 3 := by
            rcases Nat.lt_or_ge j 3 with h | h
            · exact h
            · rw [List.getElem?_eq_none (by omega)] at hv; cases hv
          have := hc j hj
          rw [add_lit, hv] at this
          rw [show off + i * 3 + j = off + (i * 3 + j) by omega]
          exact this
/-- A rule that comes in. -/
theorem w35 {H : Type} (d0 d1 d2 d3 : DataW H) (h : ((DataW.agg [d0, d1, d2, d3]).weights Try.prog 35).all (· ≤ reachBytes) = true) : (d0.weights Try.prog 33).all (· ≤ reachBytes) = true ∧ (d1.weights Try.prog 33).all (· ≤ reachBytes) = true := by
  simp only [DataW.weights, Try.underlying35, DataW.weightsEach, List.map_cons, List.map_nil, List.all_append, Bool.and_eq_true] at h
  exact ⟨h.1, h.2.1⟩
theorem open_rule {H : Type} {enc : TypeId × Value → H} {W : World} {fuel : Nat} {cs : List Value} {x : DataW H × List MemPlace} (hf : DataW.trod enc Try.prog W 0 (fun _ => true) true fuel 35 cs = some x) (hw : (x.1.weights Try.prog 35).all (· ≤ reachBytes) = true) : ∃ r q, RlAt W fuel r q ∧ cs = (r.vals q).toList := by
  obtain ⟨xs, k, rfl, hxy, hlen, hxl, hfl⟩ := DataW.trod_struct Try.underlying35 hf
  have cb : Try.prog.cellsOf 4 = 1 := by kernel_rfl
  have cn : Try.prog.cellsOf 33 = 3 := by kernel_rfl
  have cr : Try.prog.cellsOf 35 = 8 := by kernel_rfl
  rw [cr] at hlen
  have hx4 : xs.length = 4 := hxl
  obtain ⟨v0, v1, v2, v3, v4, v5, v6, v7, rfl⟩ : ∃ v0 v1 v2 v3 v4 v5 v6 v7, cs = [v0, v1, v2, v3, v4, v5, v6, v7] := by
    rcases cs with _ | ⟨v0, _ | ⟨v1, _ | ⟨v2, _ | ⟨v3, _ | ⟨v4, _ | ⟨v5, _ | ⟨v6, _ | ⟨v7, _ | ⟨v8, r⟩⟩⟩⟩⟩⟩⟩⟩⟩
    all_goals first | exact ⟨_, _, _, _, _, _, _, _, rfl⟩ | (simp at hlen)
  obtain ⟨y0, y1, y2, y3, rfl⟩ : ∃ y0 y1 y2 y3, xs = [y0, y1, y2, y3] := by
    rcases xs with _ | ⟨v0, _ | ⟨v1, _ | ⟨v2, _ | ⟨v3, _ | ⟨v4, r⟩⟩⟩⟩⟩
    all_goals first | exact ⟨_, _, _, _, rfl⟩ | (simp at hx4)
  have g0 := hfl 0 _ rfl
  have g1 := hfl 1 _ rfl
  have g2 := hfl 2 _ rfl
  have g3 := hfl 3 _ rfl
  simp [cb, cn] at g0 g1 g2 g3
  rw [hxy] at hw
  obtain ⟨hw0, hw1⟩ := w35 y0.1 y1.1 y2.1 y3.1 hw
  obtain ⟨m0, hm0⟩ := open_node k g0 hw0
  obtain ⟨m1, hm1⟩ := open_node k g1 hw1
  obtain ⟨b0, hb0, _⟩ := DataW.trod_bool Try.underlying4 g2
  obtain ⟨b1, hb1, _⟩ := DataW.trod_bool Try.underlying4 g3
  obtain ⟨la, lc, lp, lpc, e0⟩ := hm0.three
  obtain ⟨ra, rc, rp, rpc, e1⟩ := hm1.three
  simp at hb0 hb1 e0 e1
  obtain ⟨rfl, rfl, rfl⟩ := e0
  obtain ⟨rfl, rfl, rfl⟩ := e1
  subst hb0 hb1
  exact ⟨⟨m0, m1, b0, b1⟩, ⟨la, lc, lp, lpc, ra, rc, rp, rpc⟩, ⟨hm0.mono (by omega), hm1.mono (by omega)⟩, rfl⟩
/-- Rules that come in. -/
theorem open_rules {H : Type} {enc : TypeId × Value → H} {W : World} {a : Option Addr} {len cap : Nat} {d : DataW H} {p : List MemPlace} (h : DataW.Trod enc Try.prog W 0 (fun _ => true) true 22 (.slice a len cap) d p) (hw : (d.weights Try.prog 22).all (· ≤ reachBytes) = true) :
    ∃ D l, RowR W D a len l ∧ len ≤ 140737488355328 ∧ len ≤ cap := by
  obtain ⟨fuel, hf⟩ := h
  have cr : Try.prog.cellsOf 35 = 8 := by kernel_rfl
  have br : Try.prog.bytesOf 35 = 120 := by kernel_rfl
  rcases DataW.trod_slice Try.underlying22 hf with ⟨hcs, _⟩ | ⟨x, l, c, elems, rest, n, hn, hcs, hyy, _, hl, hm, hel, hat, hsp, _⟩
  · simp [Value.cells] at hcs
    obtain ⟨rfl, rfl, rfl⟩ := hcs
    exact ⟨0, [], ⟨rfl, fun i hi => by simp at hi⟩, by omega, by omega⟩
  · simp [Value.cells] at hcs
    obtain ⟨rfl, rfl, rfl⟩ := hcs
    have hd : d = .slice (elems.map (·.1)) (rest.map (·.1)) := congrArg Prod.fst hyy
    rw [hd] at hw
    simp only [DataW.weights, Try.underlying22, List.all_cons, List.all_append, Bool.and_eq_true, decide_eq_true_eq, List.length_map, br, reachBytes] at hw
    obtain ⟨hw3, hw4, _⟩ := hw
    have hw5 : (elems.length + rest.length) * 120 ≤ 140737488351232 := of_decide_eq_true hw3
    haveI : Inhabited (Rl × RlP) := ⟨(shR1, ⟨none, 0, none, 0, none, 0, none, 0⟩)⟩
    have each : ∀ i, i < len → ∃ y : Rl × RlP, RlAt W n y.1 y.2 ∧ ∀ j, j < 8 → W.cell? (x.add (i * 8 + j)) = (y.1.vals y.2)[j]? := by
      intro i hi
      have h1 := hat i hi
      rw [List.getElem?_eq_getElem (by omega)] at h1
      obtain ⟨us, hus, htr⟩ := Option.bind_eq_some_iff.1 h1
      rw [cr] at hus
      obtain ⟨_, hul, hcell⟩ := World.cells?_some hus
      have hwi : ((elems[i]'(by omega)).1.weights Try.prog 35).all (· ≤ reachBytes) = true := wAll _ _ hw4 _ (List.mem_map.2 ⟨elems[i]'(by omega), List.getElem_mem _, rfl⟩)
      obtain ⟨r, q, hr, hv⟩ := open_rule htr hwi
      refine ⟨(r, q), hr, fun j hj => ?_⟩
      have := hcell j hj
      rw [Go.Deep.add_add, hv] at this
      rw [this]
      simp
    obtain ⟨R, hR⟩ := Go.Deep.choose_lt each
    refine ⟨n, (List.range len).map fun i => (R i).1, ⟨by simp, fun i hi => ?_⟩, by omega, hl⟩
    have hi' : i < len := by simpa using hi
    obtain ⟨h1, h2⟩ := hR i hi'
    obtain ⟨b, off, rfl⟩ : ∃ b off, x = ⟨b, off, none⟩ := by
      obtain ⟨b, off, spot⟩ := x
      have h30 := (hR 0 (by omega)).2 0 (by omega)
      have hs : spot = none := by simpa [Addr.add] using World.cell?_spot h30
      exact ⟨b, off, by rw [hs]⟩
    have e : ((List.range len).map fun i => (R i).1)[i]'hi = (R i).1 := by simp
    refine ⟨b, off, (R i).2, rfl, by rw [e]; exact h1, fun j v hv => ?_⟩
    rw [e] at hv
    have hj : j < 8 := by
      rcases Nat.lt_or_ge j 8 with h | h
      · exact h
      · rw [Array.getElem?_eq_none (by simpa using h)] at hv; cases hv
    have := h2 j hj
    rw [add_lit, hv] at this
    rw [show off + i * 8 + j = off + (i * 8 + j) by omega]
    exact this
end Go.Proofs.Ytjbhfonokgkalaa
