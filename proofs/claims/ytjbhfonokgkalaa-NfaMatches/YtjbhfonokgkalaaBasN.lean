/- Expressions that come in, in memory and as arguments; rows of numbers that are searched and copied: what the layers from machines on take of it. -/
import Derived.Test.YtjbhfonokgkalaaBasR
import Derived.Test.YtjbhfonokgkalaaReaM
import Derived.Deep.DeepAppendWide
import Derived.Laws.Rows
import Derived.Lib.Builder
import Derived.Deep.DeepCutAuto
import Derived.BigQuiet
import Derived.Laws.ResultCell
import Derived.Laws.MakeOwn
import Derived.Deep.RegionHeld3
import Derived.Deep.Slices
import Derived.ChangeSame
import Derived.ChangeSlices
import GoSem.ClaimJoined
namespace Go.Proofs.Ytjbhfonokgkalaa
open Go.ChangeShapes Go.WideShapes Go.RowKit
set_option linter.unusedVariables false
set_option linter.unusedSimpArgs false

def nilNd : Nd := ⟨0, [], .nil⟩
/-- A node in memory, no deeper than that; its classes lie below B. -/
def InV (B : Nat) (w : World) : Nat → Nd → List Value → Prop
  | 0, _, _ => False
  | d + 1, n, vs => ∃ ca cc pa pc, vs = [.int .i64 n.op, .slice ca n.cl.length cc, .slice pa (toL n.kids).length pc] ∧ Rd .i64 w ca n.cl.length n.cl ∧ (0 < n.cl.length → ∀ x, ca = some x → x.block < B) ∧ (n.cl.length ≤ 140737488355328 ∧ (ca = none → cc = 0)) ∧ (toL n.kids).length ≤ 2600000000000 ∧
      (0 < (toL n.kids).length → ∃ b off, pa = some ⟨b, off, none⟩ ∧ ∀ i (hi : i < (toL n.kids).length), ∃ us, InV B w d (toL n.kids)[i] us ∧ ∀ j v, us[j]? = some v → w.cell? ⟨b, off + i * 3 + j, none⟩ = some v)
theorem InV.later {B : Nat} {w w' : World} (hb : Below w.heap.size w w') : (d : Nat) → {n : Nd} → {vs : List Value} → InV B w d n vs → InV B w' d n vs
  | 0, _, _, h => h.elim
  | d + 1, n, vs, h => by
    obtain ⟨ca, cc, pa, pc, h1, h2, h3, h4, h5, h6⟩ := h
    refine ⟨ca, cc, pa, pc, h1, h2.later hb, h3, h4, h5, fun hp => ?_⟩
    obtain ⟨b, off, e, hk⟩ := h6 hp
    refine ⟨b, off, e, fun i hi => ?_⟩
    obtain ⟨us, k1, k2⟩ := hk i hi
    exact ⟨us, k1.later hb d, fun j v hv => (hb.cell (World.block_lt_of_cell? w _ (k2 j v hv))).trans (k2 j v hv)⟩
theorem InV.base {B B' : Nat} {w : World} (hB : B ≤ B') : (d : Nat) → {n : Nd} → {vs : List Value} → InV B w d n vs → InV B' w d n vs
  | 0, _, _, h => h.elim
  | d + 1, n, vs, h => by
    obtain ⟨ca, cc, pa, pc, h1, h2, h3, h4, h5, h6⟩ := h
    refine ⟨ca, cc, pa, pc, h1, h2, fun hp x hx => Nat.lt_of_lt_of_le (h3 hp x hx) hB, h4, h5, fun hp => ?_⟩
    obtain ⟨b, off, e, hk⟩ := h6 hp
    refine ⟨b, off, e, fun i hi => ?_⟩
    obtain ⟨us, k1, k2⟩ := hk i hi
    exact ⟨us, k1.base hB d, k2⟩
theorem InV.deep {B : Nat} {w : World} : (d : Nat) → {n : Nd} → {vs : List Value} → InV B w d n vs → InV B w (d + 1) n vs
  | 0, _, _, h => h.elim
  | d + 1, n, vs, h => by
    obtain ⟨ca, cc, pa, pc, h1, h2, h3, h4, h5, h6⟩ := h
    refine ⟨ca, cc, pa, pc, h1, h2, h3, h4, h5, fun hp => ?_⟩
    obtain ⟨b, off, e, hk⟩ := h6 hp
    refine ⟨b, off, e, fun i hi => ?_⟩
    obtain ⟨us, k1, k2⟩ := hk i hi
    exact ⟨us, k1.deep d, k2⟩
theorem InV.three {B : Nat} {w : World} : {d : Nat} → {n : Nd} → {us : List Value} → InV B w d n us → ∃ ca cc pa pc, us = [.int .i64 n.op, .slice ca n.cl.length cc, .slice pa (toL n.kids).length pc]
  | 0, _, _, h => h.elim
  | d + 1, n, us, h => by
    obtain ⟨ca, cc, pa, pc, h1, _⟩ := h
    exact ⟨ca, cc, pa, pc, h1⟩
theorem Rd.lt {k : IntKind} {w : World} {a : Option Addr} {len : Nat} {xs : List Int} (h : Rd k w a len xs) : 0 < len → ∀ y, a = some y → y.block < w.heap.size := by
  intro hp y hy
  obtain ⟨b, off, e, hc⟩ := h.2 hp
  rw [e] at hy
  cases hy
  exact World.block_lt_of_cell? w _ (hc 0 hp)
theorem InV.kid {B : Nat} {w : World} {d : Nat} {n : Nd} {ca pa : Option Addr} {cn cc kn pc : Nat} {op : Int} (h : InV B w d n [.int .i64 op, .slice ca cn cc, .slice pa kn pc]) (i : Nat) (hi : i < (toL n.kids).length) : ∃ b off x c y e d', pa = some ⟨b, off, none⟩ ∧ InV B w d' (toL n.kids)[i] [.int .i64 (toL n.kids)[i].op, .slice x (toL n.kids)[i].cl.length c, .slice y (toL (toL n.kids)[i].kids).length e] ∧ d' + 1 = d ∧
    w.cell? ⟨b, off + i * 3, none⟩ = some (.int .i64 (toL n.kids)[i].op) ∧ w.cell? ⟨b, off + i * 3 + 1, none⟩ = some (.slice x (toL n.kids)[i].cl.length c) ∧ w.cell? ⟨b, off + i * 3 + 2, none⟩ = some (.slice y (toL (toL n.kids)[i].kids).length e) := by
  cases d with
  | zero => exact h.elim
  | succ d =>
    obtain ⟨ca', cc', pa', pc', hv, _, _, _, _, h6⟩ := h
    simp only [List.cons.injEq, Value.slice.injEq] at hv
    obtain ⟨b, off, e, hk⟩ := h6 (by omega)
    obtain ⟨us, k1, k2⟩ := hk i hi
    obtain ⟨x, c, y, f, rfl⟩ := k1.three
    exact ⟨b, off, x, c, y, f, d, by rw [hv.2.2.1.1]; exact e, k1, rfl, k2 0 _ rfl, k2 1 _ rfl, k2 2 _ rfl⟩
theorem InV.bounds {B : Nat} {w : World} {d : Nat} {n : Nd} {vs : List Value} (h : InV B w d n vs) : (toL n.kids).length ≤ 2600000000000 := by
  cases d with
  | zero => exact h.elim
  | succ d => obtain ⟨_, _, _, _, _, _, _, _, h5, _⟩ := h; exact h5
theorem wrap_add2 (a b : Int) : IntKind.i64.wrap (IntKind.i64.wrap a + IntKind.i64.wrap b) = IntKind.i64.wrap (a + b) := by
  simp only [IntKind.wrap_i64]
  omega
theorem maxR (a b : Int) (W : World) : (Builtin.max_ #[3, 3] 3 #[.int .i64 a, .int .i64 b]).run Try.prog W = .ok (.int .i64 (max a b)) W := by
  rw [run_max_int2]
  congr 2
  split <;> omega
theorem InV.classes {B : Nat} {w : World} {d : Nat} {n : Nd} {ca pa : Option Addr} {cn cc kn pc : Nat} {op : Int} (h : InV B w d n [.int .i64 op, .slice ca cn cc, .slice pa kn pc]) : Rd .i64 w ca n.cl.length n.cl ∧ n.cl.length ≤ 140737488355328 := by
  cases d with
  | zero => exact h.elim
  | succ d =>
    obtain ⟨ca', cc', pa', pc', hv, h2, _, h4, _, _⟩ := h
    simp only [List.cons.injEq, Value.slice.injEq] at hv
    rw [hv.2.1.1]
    exact ⟨h2, h4.1⟩
theorem InV.nilc {B : Nat} {w : World} {d : Nat} {n : Nd} {ca pa : Option Addr} {cn cc kn pc : Nat} {op : Int} (h : InV B w d n [.int .i64 op, .slice ca cn cc, .slice pa kn pc]) : ca = none → cc = 0 := by
  cases d with
  | zero => exact h.elim
  | succ d =>
    obtain ⟨ca', cc', pa', pc', hv, _, _, h4, _, _⟩ := h
    simp only [List.cons.injEq, Value.slice.injEq] at hv
    rw [hv.2.1.1, hv.2.1.2.2]
    exact h4.2
theorem InV.leaf (w : World) (d : Nat) (op : Int) (cl : List Int) (ca : Option Addr) (cc : Nat) (h : Rd .i64 w ca cl.length cl) (hl : cl.length ≤ 140737488355328) (hn : ca = none → cc = 0) : InV w.heap.size w (d + 1) ⟨op, cl, .nil⟩ [.int .i64 op, .slice ca cl.length cc, .slice none 0 0] :=
  ⟨ca, cc, none, 0, rfl, h, h.lt, ⟨hl, hn⟩, by show (toL .nil).length ≤ _; simp [toL], fun hp => by simp [toL] at hp⟩
theorem upC {w w' : World} (hb : Below w.heap.size w w') {p : Addr} {v : Value} (h : w.cell? p = some v) : w'.cell? p = some v := (hb.cell (World.block_lt_of_cell? w _ h)).trans h
theorem InV.mono {B : Nat} {w : World} {d d' : Nat} (h : d ≤ d') {n : Nd} {vs : List Value} (hi : InV B w d n vs) : InV B w d' n vs := by
  induction d' with
  | zero => obtain rfl : d = 0 := by omega
            exact hi
  | succ e ih =>
    rcases Nat.lt_or_ge d (e + 1) with h1 | h1
    · exact (ih (by omega)).deep e
    · obtain rfl : d = e + 1 := by omega
      exact hi
/-- Numbers that come in. -/
theorem open_cls {H : Type} {enc : TypeId × Value → H} {W : World} {fuel : Nat} {cs : List Value} {x : DataW H × List MemPlace} (hf : DataW.trod enc Try.prog W 0 (fun _ => true) true fuel 23 cs = some x) (hw : (x.1.weights Try.prog 23).all (· ≤ reachBytes) = true) :
    ∃ a zs c, cs = [.slice a zs.length c] ∧ Rd .i64 W a zs.length zs ∧ zs.length ≤ 140737488355328 ∧ zs.length ≤ c ∧ c ≤ 9223372036854775807 ∧ (a = none → c = 0) := by
  rcases open_ints Try.underlying23 Try.underlying3 (by kernel_rfl) hf with ⟨hcs, _⟩ | ⟨x0, l, c, zs, hcs, _, hl, hm, hz, hx, hcell, hwz⟩
  · exact ⟨none, [], 0, hcs, rd_nil _ _, by simp, by simp, by omega, fun _ => rfl⟩
  · have hzl : zs.length = c := by simpa using hz
    have htl : (zs.take l).length = l := by simp; omega
    have hb : Try.prog.bytesOf 3 = 8 := by kernel_rfl
    rw [hx] at hw
    simp only [DataW.weights, Try.underlying23, List.all_cons, Bool.and_eq_true, decide_eq_true_eq] at hw
    have h1 := hw.1
    simp only [lits, List.length_map, List.length_take, List.length_drop, hb, reachBytes] at h1
    have hrow := rd_row (k := .i64) (w := W) (a := some x0) (len := l) (cap := c) (zs := zs) (.inr ⟨x0, rfl, hl, hm, hzl, hcell, hwz⟩)
    refine ⟨some x0, zs.take l, c, by rw [htl]; exact hcs, by rw [htl]; exact hrow.2.2.1 l (Nat.le_refl _), by rw [htl]; omega, by rw [htl]; exact hl, by simpa [maxLen] using hm, fun h => by cases h⟩
theorem w33 {H : Type} (d0 d1 d2 : DataW H) (h : ((DataW.agg [d0, d1, d2]).weights Try.prog 33).all (· ≤ reachBytes) = true) : (d1.weights Try.prog 23).all (· ≤ reachBytes) = true ∧ (d2.weights Try.prog 31).all (· ≤ reachBytes) = true := by
  simp only [DataW.weights, Try.underlying33, DataW.weightsEach, List.map_cons, List.map_nil, List.all_append, Bool.and_eq_true] at h
  exact ⟨h.2.1, h.2.2.1⟩
theorem wAll {H : Type} (t : TypeId) : (l : List (DataW H)) → (DataW.weightsAll Try.prog t l).all (· ≤ reachBytes) = true → ∀ d ∈ l, (d.weights Try.prog t).all (· ≤ reachBytes) = true
  | [], _, d, hd => by simp at hd
  | x :: r, h, d, hd => by
    simp only [DataW.weightsAll, List.all_append, Bool.and_eq_true] at h
    rcases List.mem_cons.1 hd with rfl | hd
    · exact h.1
    · exact wAll t r h.2 d hd
theorem open_node {H : Type} {enc : TypeId × Value → H} {W : World} (fuel : Nat) : ∀ {cs : List Value} {x : DataW H × List MemPlace}, DataW.trod enc Try.prog W 0 (fun _ => true) true fuel 33 cs = some x → (x.1.weights Try.prog 33).all (· ≤ reachBytes) = true → ∃ n, InV W.heap.size W fuel n cs := by
  induction fuel using Nat.strongRecOn with
  | _ fuel ih =>
    intro cs x hf hw
    haveI : Inhabited Nd := ⟨nilNd⟩
    obtain ⟨xs, k, rfl, hxy, hlen, hxl, hfl⟩ := DataW.trod_struct Try.underlying33 hf
    have ci : Try.prog.cellsOf 3 = 1 := by kernel_rfl
    have cl : Try.prog.cellsOf 23 = 1 := by kernel_rfl
    have cp : Try.prog.cellsOf 31 = 1 := by kernel_rfl
    have cn : Try.prog.cellsOf 33 = 3 := by kernel_rfl
    have bn : Try.prog.bytesOf 33 = 56 := by kernel_rfl
    rw [cn] at hlen
    have hx3 : xs.length = 3 := hxl
    obtain ⟨v0, v1, v2, rfl⟩ : ∃ v0 v1 v2, cs = [v0, v1, v2] := by
      rcases cs with _ | ⟨v0, _ | ⟨v1, _ | ⟨v2, _ | ⟨v3, r⟩⟩⟩⟩
      · simp at hlen
      · simp at hlen
      · simp at hlen
      · exact ⟨_, _, _, rfl⟩
      · simp at hlen
    obtain ⟨y0, y1, y2, rfl⟩ : ∃ y0 y1 y2, xs = [y0, y1, y2] := by
      rcases xs with _ | ⟨v0, _ | ⟨v1, _ | ⟨v2, _ | ⟨v3, r⟩⟩⟩⟩
      · simp at hx3
      · simp at hx3
      · simp at hx3
      · exact ⟨_, _, _, rfl⟩
      · simp at hx3
    have g0 := hfl 0 _ rfl
    have g1 := hfl 1 _ rfl
    have g2 := hfl 2 _ rfl
    simp [ci, cl, cp] at g0 g1 g2
    rw [hxy] at hw
    obtain ⟨hw1, hw2⟩ := w33 y0.1 y1.1 y2.1 hw
    obtain ⟨op, hop, _, _⟩ := DataW.trod_int Try.underlying3 g0
    obtain ⟨ca, zs, cc, hcs, hrd, hzl, _, _, hnc⟩ := open_cls g1 hw1
    simp at hop hcs
    subst hop hcs
    rcases DataW.trod_slice Try.underlying31 g2 with ⟨hcs, _⟩ | ⟨a, len, cap, elems, rest, n, hn, hcs, hyy, _, hl, hm, hel, hat, hsp, _⟩
    · simp at hcs
      subst hcs
      exact ⟨⟨op, zs, .nil⟩, ca, cc, none, 0, rfl, hrd, hrd.lt, ⟨hzl, hnc⟩, by simp [toL], fun hp => by simp [toL] at hp⟩
    · simp at hcs
      subst hcs
      rw [hyy] at hw2
      simp only [DataW.weights, Try.underlying31, List.all_cons, List.all_append, Bool.and_eq_true, decide_eq_true_eq, List.length_map, bn, reachBytes] at hw2
      obtain ⟨hw3, hw4, _⟩ := hw2
      have hw5 : (elems.length + rest.length) * 56 ≤ 140737488351232 := of_decide_eq_true hw3
      have each : ∀ i, i < len → ∃ m : Nd, ∃ us, InV W.heap.size W k m us ∧ us.length = 3 ∧ ∀ j, j < 3 → W.cell? (a.add (i * 3 + j)) = us[j]? := by
        intro i hi
        have h1 := hat i hi
        rw [List.getElem?_eq_getElem (by omega)] at h1
        obtain ⟨us, hus, htr⟩ := Option.bind_eq_some_iff.1 h1
        rw [cn] at hus
        obtain ⟨_, hul, hcell⟩ := World.cells?_some hus
        have hwi : ((elems[i]'(by omega)).1.weights Try.prog 33).all (· ≤ reachBytes) = true := wAll _ _ hw4 _ (List.mem_map.2 ⟨elems[i]'(by omega), List.getElem_mem _, rfl⟩)
        obtain ⟨m, hm2⟩ := ih n (by omega) htr hwi
        refine ⟨m, us, hm2.mono (by omega), hul, fun j hj => ?_⟩
        have := hcell j hj
        rw [Go.Deep.add_add] at this
        exact this
      obtain ⟨N, hN⟩ := Go.Deep.choose_lt each
      refine ⟨⟨op, zs, ofL ((List.range len).map N)⟩, ca, cc, some a, cap, ?_, hrd, hrd.lt, ⟨hzl, hnc⟩, ?_, fun hp => ?_⟩
      · show [Value.int .i64 op, .slice ca zs.length cc, .slice (some a) len cap] = [Value.int .i64 op, .slice ca zs.length cc, .slice (some a) (toL (ofL ((List.range len).map N))).length cap]
        rw [toL_ofL]
        simp
      · show (toL (ofL ((List.range len).map N))).length ≤ _
        rw [toL_ofL]
        simp
        omega
      · have hp' : 0 < len := by
          have h2 : 0 < (toL (ofL ((List.range len).map N))).length := hp
          rw [toL_ofL] at h2
          simpa using h2
        obtain ⟨b, off, rfl⟩ : ∃ b off, a = ⟨b, off, none⟩ := by
          obtain ⟨b, off, spot⟩ := a
          obtain ⟨us, _, hul, hc⟩ := hN 0 hp'
          have h30 := hc 0 (by omega)
          rw [List.getElem?_eq_getElem (by omega)] at h30
          have hs : spot = none := by simpa [Addr.add] using World.cell?_spot h30
          exact ⟨b, off, by rw [hs]⟩
        refine ⟨b, off, rfl, fun i hi => ?_⟩
        have hi' : i < len := by
          have h2 : i < (toL (ofL ((List.range len).map N))).length := hi
          rw [toL_ofL] at h2
          simpa using h2
        obtain ⟨us, hin, hul, hc⟩ := hN i hi'
        refine ⟨us, ?_, fun j v hv => ?_⟩
        · have e : (toL (ofL ((List.range len).map N)))[i]'hi = N i := by simp only [toL_ofL, List.getElem_map, List.getElem_range]
          show InV W.heap.size W k ((toL (ofL ((List.range len).map N)))[i]'hi) us
          rw [e]
          exact hin
        · have hj : j < 3 := by
            rcases Nat.lt_or_ge j 3 with h | h
            · exact h
            · rw [List.getElem?_eq_none (by omega)] at hv; cases hv
          have := hc j hj
          rw [add_lit, hv] at this
          rw [show off + i * 3 + j = off + (i * 3 + j) by omega]
          exact this
theorem grown_cell (w : World) (g i : Nat) (v : Value) : w.grownBy (w.setCell ⟨g, i, none⟩ v) (some g) :=
  ⟨rfl, rfl, rfl, by simp [World.setCell], fun k _ hk => Below.heap_setCell _ _ _ k (fun e => hk (by rw [e]))⟩
theorem grown_all {w w1 w2 : World} {row : Option Nat} (h : w.grownBy w1 row) (h2 : w1.grownBy w2 row) : w.grownBy w2 row :=
  ⟨h2.os.trans h.os, h2.tape.trans h.tape, h2.output.trans h.output, Nat.le_trans h.size h2.size, fun k hk hne => (h2.block k (Nat.lt_of_lt_of_le hk h.size) hne).trans (h.block k hk hne)⟩
theorem own_sl1 {w : World} {B : Nat} {e : TypeId} {s n : Nat} {v : Value} {xs : List Value} (h : w.ownsRow B e s v n xs) : ∃ a c, v = .slice a n c := by
  rcases h.2 with ⟨rfl, rfl⟩ | ⟨g, cap, cur, rfl, _⟩
  · exact ⟨none, 0, rfl⟩
  · exact ⟨_, _, rfl⟩
theorem own_cells1 {w : World} {B : Nat} {e : TypeId} {n : Nat} {a : Option Addr} {cap : Nat} {vs : List Value} (h : w.ownsRow B e 1 (.slice a n cap) n vs) (hn : 0 < n) : ∃ g, a = some ⟨g, 0, none⟩ ∧ B ≤ g ∧ ∃ cur, w.heap[g]? = some (.cells cur e (0, 0)) ∧ ∀ i, i < n → w.cell? ⟨g, i, none⟩ = vs[i]? := by
  rcases h.2 with ⟨hv, h0⟩ | ⟨g, cap', cur, hv, hb, hg, hnc, hm, hs, ht⟩
  · omega
  · cases hv
    refine ⟨g, rfl, hb, cur, hg, fun i hi => ?_⟩
    rw [cell_of_row w g i _ _ _ hg, ← ht, List.getElem?_take, if_pos (by omega)]
    simp
theorem own_set1 {w : World} {B : Nat} {e : TypeId} {n : Nat} {g cap : Nat} {vs : List Value} (h : w.ownsRow B e 1 (.slice (some ⟨g, 0, none⟩) n cap) n vs) (i : Nat) (u : Value) : (w.setCell ⟨g, i, none⟩ u).ownsRow B e 1 (.slice (some ⟨g, 0, none⟩) n cap) n (vs.set i u) := by
  refine ⟨by simpa using h.1, ?_⟩
  rcases h.2 with ⟨hv, h0⟩ | ⟨g', cap', cur, hv, hb, hg, hnc, hm, hs, ht⟩
  · cases hv
  · cases hv
    refine .inr ⟨g, cap, cur.setIfInBounds i u, rfl, hb, heap_setCell_same w g i cur e u hg, hnc, hm, by simpa using hs, ?_⟩
    rw [Array.toList_setIfInBounds, List.take_set, ht]
theorem own_later5 {w w' : World} {B : Nat} {e : TypeId} {s : Nat} {v : Value} {n : Nat} {xs : List Value} (h : w.ownsRow B e s v n xs) (hb : Below w.heap.size w w') : w'.ownsRow B e s v n xs :=
  h.kept (row := none) ⟨hb.os, hb.tape, hb.output, hb.size, fun k hk _ => hb.block k hk⟩ (Classical.em _)
theorem info_i : (Try.prog.info? 3).map (fun i => (i.zero, i.size, i.bytes)) = some (some (.int .i64 0), 1, 8) := by kernel_rfl
theorem info_b : (Try.prog.info? 4).map (fun i => (i.zero, i.size, i.bytes)) = some (some (.bool false), 1, 1) := by kernel_rfl
set_option maxHeartbeats 1000000 in
theorem cloneI_any (xs : List Int) (a : Option Addr) (len cap : Nat) (w : World) (hrd : Rd .i64 w a len xs) (hnone : a = none → cap = 0) (hl : len ≤ 100000000) :
    Calls Try.prog 60 #[.slice a len cap] w fun e w' => ∃ v, e = .returned v ∧ w'.ownsRow w.heap.size 3 1 v len (xs.map (Value.int .i64)) ∧ Below w.heap.size w w' := by
  have hlen := hrd.1
  have q22 : ∀ (w : World) (a : Option Addr) (n c n' c' : Nat), (binOp .eql 23 (.slice a n c) (.slice none n' c')).run Try.prog w = .ok (.bool a.isNone) w := fun w a n c n' c' => Lib.run_eql_slice_nil w _ _ a n c n' c' Try.underlying23
  cases a with
  | none =>
    have h0 : len = 0 := rd_none hrd rfl
    have hr : xs = [] := List.eq_nil_of_length_eq_zero (by omega)
    have hc0 := hnone rfl
    subst h0 hr hc0
    clear hrd hnone hlen hl
    go_enter Try.func60, Try.ntmps60
    go_wp2
    go_ret
    exact ⟨_, rfl, World.ownsRow_nil _ _ _ _, Below.refl _ _⟩
  | some x =>
    obtain ⟨i0, hi, hz0, hz1, hz2⟩ := info_parts info_i
    have HI : Hid (Try.prog.info? 3 = some i0 ∧ i0.zero = some (.int .i64 0) ∧ i0.size = 1 ∧ i0.bytes = 8) := ⟨hi, hz0, hz1, hz2⟩
    have hown0 : (w.alloc (.cells #[] 3)).ownsRow w.heap.size 3 1 (.slice (some ⟨w.heap.size, 0, none⟩) 0 0) 0 [] := World.ownsRow_made w #[] 0 (Nat.le_refl _) (by simp [maxLen]) rfl
    have HO : Hid ((w.alloc (.cells #[] 3)).ownsRow w.heap.size 3 1 (.slice (some ⟨w.heap.size, 0, none⟩) 0 0) 0 []) := hown0
    have HR : Hid (Rd .i64 (w.alloc (.cells #[] 3)) (some x) len xs) := hrd.later ((Below.refl _ w).alloc (Nat.le_refl _) _)
    have HFIN : Hid (∀ v' w', w'.ownsRow w.heap.size 3 1 v' (0 + len) ([] ++ xs.map (Value.int .i64)) → (w.alloc (.cells #[] 3)).grownBy w' (some w.heap.size) → ∃ v, Ending.returned v' = .returned v ∧ w'.ownsRow w.heap.size 3 1 v len (xs.map (Value.int .i64)) ∧ Below w.heap.size w w') := by
      intro v' w' h1 h2
      refine ⟨v', rfl, by rw [Nat.zero_add, List.nil_append] at h1; exact h1, ?_⟩
      exact ((Below.refl _ w).alloc (Nat.le_refl _) _).grown h2 (by simp) (fun k hk => by cases hk; exact Nat.le_refl _)
    have HLL : Hid (len ≤ 100000000) := hl
    clear hi hz0 hz1 hz2 hown0 hrd hnone hlen hl
    go_enter Try.func60, Try.ntmps60
    go_wp2_with (at_builtin; refine wpList_append_rd rfl _ _ 23 rfl w.heap.size 3 i0 _ 8 Try.underlying23 HI.out.1 HI.out.2.1 HI.out.2.2.1 HI.out.2.2.2 rfl _ 0 [] rfl HO.out (some x) len cap .i64 xs rfl HR.out (fun h => by cases h) (by have := HLL.out; unfold maxLen; omega) (by have := HLL.out; omega) (by simp) (fun v' w' h1 h2 => ?_); have HF := HFIN.out v' w' h1 h2; have HFF : Hid _ := HF; clear HF h1 h2)
    go_ret
    exact HFF.out
theorem results_cell_one {fn : Func} {p : Tmp} {ty : TypeId} (h : fn.results = #[.cell p ty]) (tmps : Array Value) (P : Program) (w : World) :
    (results fn tmps).run P w = ((asAddr (tmps.getD p undef)).run P w).andThen fun a w₁ => (loadVar ty a).run P w₁ := by
  simp only [results, h]
  simp [Sem.run_bind, Result.andThen]
theorem firstI_at {α : Type} (q : α → Bool) : (l : List α) → (k : Nat) → (hk : k < l.length) → (∀ j (hj : j < k), q (l[j]'(by omega)) = false) → q l[k] = true → firstI q l = k
  | [], k, hk, _, _ => by simp at hk
  | x :: r, 0, hk, _, h => by simp at h; simp [firstI, h]
  | x :: r, k + 1, hk, hb, h => by
    have h0 : q x = false := hb 0 (by omega)
    have ih := firstI_at q r k (by simpa using hk) (fun j hj => hb (j + 1) (by omega)) (by simpa using h)
    simp only [firstI, h0, ih]
    rw [if_neg (by simp), if_neg (by omega)]
    omega
theorem firstI_no {α : Type} (q : α → Bool) : (l : List α) → (∀ x ∈ l, q x = false) → firstI q l = -1
  | [], _ => rfl
  | x :: r, h => by
    have ih := firstI_no q r (fun y hy => h y (by simp [hy]))
    simp [firstI, h x (by simp), ih]
theorem firstI_cases {α : Type} (q : α → Bool) (l : List α) : (firstI q l = -1 ∧ l.any q = false) ∨ ∃ k : Nat, ∃ hk : k < l.length, firstI q l = k ∧ q l[k] = true ∧ l.any q = true := by
  induction l with
  | nil => exact .inl ⟨rfl, rfl⟩
  | cons x r ih =>
    cases hx : q x with
    | true => exact .inr ⟨0, by simp, by simp [firstI, hx], by simpa using hx, by simp [hx]⟩
    | false =>
      rcases ih with ⟨h1, h2⟩ | ⟨k, hk, h1, h2, h3⟩
      · exact .inl ⟨by simp [firstI, hx, h1], by simp [hx, h2]⟩
      · refine .inr ⟨k + 1, by simpa using hk, ?_, by simpa using h2, by simp [hx, h3]⟩
        simp only [firstI, hx, h1]
        rw [if_neg (by simp), if_neg (by omega)]
        omega
/-- Whether a number is among others. -/
theorem mem_any (c : Int) (xs : List Int) : xs.any (fun x => c == x) = decide (c ∈ xs) := by
  rw [Bool.eq_iff_iff]; simp
set_option maxHeartbeats 1000000 in
theorem indexI_any (xs : List Int) (c : Int) (a : Option Addr) (len cap : Nat) (w : World) (hrd : Rd .i64 w a len xs) (hm : len ≤ 9223372036854775806) :
    Calls Try.prog 75 #[.slice a len cap, .int .i64 c] w fun e w' => e = .returned (.int .i64 (firstI (fun x => c == x) xs)) ∧ w' = w := by
  have HD : Hid (Rd .i64 w a len xs) := hrd
  have HL : Hid (xs.length = len) := hrd.1
  obtain ⟨R, hR⟩ : ∃ R, R = firstI (fun x => c == x) xs := ⟨_, rfl⟩
  rw [← hR]
  have HR : Hid (R = firstI (fun x => c == x) xs) := hR
  clear hrd hR
  go_enter Try.func75, Try.ntmps75
  go_wp2
  go_loop [8] (fun x8 => ∃ k : Nat, k ≤ len ∧ x8 = .int .i64 k ∧ ∀ j (hj : j < xs.length), j < k → (c == xs[j]) = false) (fun x8 => len - (intOf x8).toNat)
  case atStart => exact ⟨0, by omega, rfl, fun j _ hj => absurd hj (by omega)⟩
  case round =>
    obtain ⟨k, hk, hx8, hat⟩ := hrel
    subst hx8
    have HA : Hid (∀ j (hj : j < xs.length), j < k → (c == xs[j]) = false) := hat
    clear hat
    by_cases hlt : k < len
    · obtain ⟨b, off, rfl, hcl⟩ := HD.out.2 (by omega)
      have hcc := hcl k hlt
      have hkl : k < xs.length := by rw [HL.out]; exact hlt
      obtain ⟨x, hx⟩ : ∃ x, x = xs.getD k 0 := ⟨_, rfl⟩
      have HX : Hid (x = xs[k]) := by show x = xs[k]; rw [hx]; simp [hkl]
      rw [← hx] at hcc
      clear hcl hx
      by_cases he : (c == x) = true
      · have hR : R = k := HR.out.trans (firstI_at _ xs k hkl (fun j hj => HA.out j (by omega) hj) (by rw [← HX.out]; exact he))
        subst hR
        go_wp2
        go_ret
        exact ⟨rfl, rfl⟩
      · rw [Bool.not_eq_true] at he
        have HE : Hid ((c == x) = false) := he
        go_wp2
        go_round
        case rel =>
          refine ⟨k + 1, by omega, by go_num, fun j hj hj2 => ?_⟩
          rcases Nat.lt_or_ge j k with h | h
          · exact HA.out j hj h
          · obtain rfl : j = k := by omega
            rw [← HX.out]; exact HE.out
        case measure => simp [intOf]; omega
    · have hR : R = -1 := HR.out.trans (firstI_no _ xs (fun x hx => by
        obtain ⟨j, hj, rfl⟩ := List.mem_iff_getElem.1 hx
        exact HA.out j hj (by rw [HL.out] at hj; omega)))
      subst hR
      go_wp2
      go_ret
      exact ⟨rfl, rfl⟩
theorem containsI_any (xs : List Int) (c : Int) (a : Option Addr) (len cap : Nat) (w : World) (hrd : Rd .i64 w a len xs) (hm : len ≤ 9223372036854775806) :
    Calls Try.prog 55 #[.slice a len cap, .int .i64 c] w fun e w' => e = .returned (.bool (decide (c ∈ xs))) ∧ w' = w := by
  have HC : Hid (Calls Try.prog 75 #[.slice a len cap, .int .i64 c] w fun e w' => e = .returned (.int .i64 (firstI (fun x => c == x) xs)) ∧ w' = w) := indexI_any xs c a len cap w hrd hm
  rw [← mem_any]
  obtain ⟨B, hB⟩ : ∃ B, B = xs.any (fun x => c == x) := ⟨_, rfl⟩
  rw [← hB]
  rcases firstI_cases (fun x => c == x) xs with ⟨e, h⟩ | ⟨i, hi, e, h3, h4⟩
  · rw [h] at hB
    subst hB
    rw [e] at HC
    clear e h hrd
    go_enter Try.func55, Try.ntmps55
    go_wp2_with (first | (go_at_call 75; refine HC.out.mono ?_; rintro e w' ⟨rfl, hw'⟩; obtain rfl : w = w' := hw'.symm))
    go_ret
    exact ⟨rfl, rfl⟩
  · rw [h4] at hB
    subst hB
    rw [e] at HC
    have h0 : (0 : Int) ≤ (i : Int) := by omega
    clear e h3 h4 hrd hi
    go_enter Try.func55, Try.ntmps55
    go_wp2_with (first | (go_at_call 75; refine HC.out.mono ?_; rintro e w' ⟨rfl, hw'⟩; obtain rfl : w = w' := hw'.symm))
    go_ret
    exact ⟨rfl, rfl⟩
end Go.Proofs.Ytjbhfonokgkalaa
