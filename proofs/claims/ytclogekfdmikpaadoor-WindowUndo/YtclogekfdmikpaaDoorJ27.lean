/- In one text: BasO, BasU, TabA, TabB, BasG. -/
import Derived.Test.YtclogekfdmikpaaDoorJ01
import Derived.SizedLaws
import Derived.ProofKit
import Derived.OpenShut
import Derived.ChangeOld
import Derived.Below
import Derived.Test.YtclogekfdmikpaaDoorJ23
import Derived.Test.YtclogekfdmikpaaDoorJ26
import Derived.Deep.CutBlock
import Derived.Test.YtclogekfdmikpaaDoorJ24
import Derived.WalkMore
/- Arguments opened: an expression by value, a list of numbers, a number. -/
namespace Go.Proofs.YtclogekfdmikpaaDoor
open Go.ChangeShapes Go.WideShapes Go.ChangeAt Go.RowKit
set_option linter.unusedVariables false

theorem open_list {H : Type} {enc : TypeId × Value → H} {W : World} {a : Option Addr} {len cap : Nat} {d : DataW H} {p : List MemPlace} (h : DataW.Trod enc Tryd.prog W 0 (fun _ => true) true 26 (.slice a len cap) d p) (hw : (d.weights Tryd.prog 26).all (· ≤ reachBytes) = true) :
 ∃ xs, Rd .i64 W a len xs ∧ len ≤ cap ∧ cap ≤ 9223372036854775807 ∧ (a = none → cap = 0) := by
 obtain ⟨fuel, hf⟩ := h
 obtain ⟨a', zs, c, hcs, hr, _, h3, h4, h5⟩ := open_cls hf hw
 simp [Value.cells] at hcs
 obtain ⟨rfl, rfl, rfl⟩ := hcs
 exact ⟨zs, hr, h3, h4, h5⟩
theorem open_int {H : Type} {enc : TypeId × Value → H} {W : World} {k : IntKind} {v : Int} {d : DataW H} {p : List MemPlace} (h : DataW.Trod enc Tryd.prog W 0 (fun _ => true) true 3 (.int k v) d p) : -9223372036854775808 ≤ v ∧ v ≤ 9223372036854775807 := by
 obtain ⟨fuel, hf⟩ := h
 obtain ⟨op, hop, h1, h2⟩ := DataW.trod_int Tryd.underlying3 hf
 simp [Value.cells] at hop
 rw [hop.2]
 exact i64_of_wf h2
end Go.Proofs.YtclogekfdmikpaaDoor

/- Rules that come in, in memory and as arguments. -/
namespace Go.Proofs.YtclogekfdmikpaaDoor
open Go.ChangeShapes Go.WideShapes Go.ChangeAt Go.RowKit
set_option linter.unusedVariables false
set_option linter.unusedSimpArgs false

structure RlP where
 la : Option Addr
 lc : Nat
 lp : Option Addr
 lpc : Nat
 ra : Option Addr
 rc : Nat
 rp : Option Addr
 rpc : Nat
abbrev Rl.vals (r : Rl) (q : RlP) : Array Value := #[.int .i64 r.left.op, .slice q.la r.left.cl.length q.lc, .slice q.lp (toL r.left.kids).length q.lpc, .int .i64 r.right.op, .slice q.ra r.right.cl.length q.rc, .slice q.rp (toL r.right.kids).length q.rpc, .bool r.brk, .bool r.start]
def RlAt (w : World) (d : Nat) (r : Rl) (q : RlP) : Prop :=
 InV w.heap.size w d r.left [.int .i64 r.left.op, .slice q.la r.left.cl.length q.lc, .slice q.lp (toL r.left.kids).length q.lpc] ∧ InV w.heap.size w d r.right [.int .i64 r.right.op, .slice q.ra r.right.cl.length q.rc, .slice q.rp (toL r.right.kids).length q.rpc]
theorem RlAt.later {w w' : World} {d : Nat} {r : Rl} {q : RlP} (h : RlAt w d r q) (hb : Below w.heap.size w w') : RlAt w' d r q := ⟨(h.1.later hb d).base hb.size d, (h.2.later hb d).base hb.size d⟩
theorem box8 {w : World} {B : Nat} {a b c d e f g h : Value} {t : TypeId} (hh : w.heap[B]? = some (.cells #[a, b, c, d, e, f, g, h] t)) :
 w.cell? ⟨B, 0, none⟩ = some a ∧ w.cell? ⟨B, 1, none⟩ = some b ∧ w.cell? ⟨B, 2, none⟩ = some c ∧ w.cell? ⟨B, 3, none⟩ = some d ∧ w.cell? ⟨B, 4, none⟩ = some e ∧ w.cell? ⟨B, 5, none⟩ = some f ∧ w.cell? ⟨B, 6, none⟩ = some g ∧ w.cell? ⟨B, 7, none⟩ = some h :=
 ⟨cell_of_row w B 0 _ _ _ hh, cell_of_row w B 1 _ _ _ hh, cell_of_row w B 2 _ _ _ hh, cell_of_row w B 3 _ _ _ hh, cell_of_row w B 4 _ _ _ hh, cell_of_row w B 5 _ _ _ hh, cell_of_row w B 6 _ _ _ hh, cell_of_row w B 7 _ _ _ hh⟩
def RowR (w : World) (d : Nat) (a : Option Addr) (n : Nat) (l : List Rl) : Prop :=
 l.length = n ∧ ∀ i (hi : i < l.length), ∃ b off q, a = some ⟨b, off, none⟩ ∧ RlAt w d l[i] q ∧ ∀ j v, (l[i].vals q)[j]? = some v → w.cell? ⟨b, off + i * 8 + j, none⟩ = some v
theorem RowR.later {w w' : World} {d : Nat} {a : Option Addr} {n : Nat} {l : List Rl} (h : RowR w d a n l) (hb : Below w.heap.size w w') : RowR w' d a n l := by
 refine ⟨h.1, fun i hi => ?_⟩
 obtain ⟨b, off, q, h1, h2, h3⟩ := h.2 i hi
 exact ⟨b, off, q, h1, h2.later hb, fun j v hv => (hb.cell (World.block_lt_of_cell? w _ (h3 j v hv))).trans (h3 j v hv)⟩
theorem RowR.cells {w : World} {d : Nat} {a : Option Addr} {n : Nat} {l : List Rl} (h : RowR w d a n l) (i : Nat) (hi : i < l.length) : ∃ b off q, a = some ⟨b, off, none⟩ ∧ RlAt w d l[i] q ∧
 w.cell? ⟨b, off + i * 8, none⟩ = some (.int .i64 l[i].left.op) ∧ w.cell? ⟨b, off + i * 8 + 1, none⟩ = some (.slice q.la l[i].left.cl.length q.lc) ∧ w.cell? ⟨b, off + i * 8 + 2, none⟩ = some (.slice q.lp (toL l[i].left.kids).length q.lpc) ∧
 w.cell? ⟨b, off + i * 8 + 3, none⟩ = some (.int .i64 l[i].right.op) ∧ w.cell? ⟨b, off + i * 8 + 4, none⟩ = some (.slice q.ra l[i].right.cl.length q.rc) ∧ w.cell? ⟨b, off + i * 8 + 5, none⟩ = some (.slice q.rp (toL l[i].right.kids).length q.rpc) ∧
 w.cell? ⟨b, off + i * 8 + 6, none⟩ = some (.bool l[i].brk) ∧ w.cell? ⟨b, off + i * 8 + 7, none⟩ = some (.bool l[i].start) := by
 obtain ⟨b, off, q, h1, h2, h3⟩ := h.2 i hi
 exact ⟨b, off, q, h1, h2, h3 0 _ rfl, h3 1 _ rfl, h3 2 _ rfl, h3 3 _ rfl, h3 4 _ rfl, h3 5 _ rfl, h3 6 _ rfl, h3 7 _ rfl⟩

theorem w35 {H : Type} (d0 d1 d2 d3 : DataW H) (h : ((DataW.agg [d0, d1, d2, d3]).weights Tryd.prog 58).all (· ≤ reachBytes) = true) : (d0.weights Tryd.prog 56).all (· ≤ reachBytes) = true ∧ (d1.weights Tryd.prog 56).all (· ≤ reachBytes) = true := by
 simp only [DataW.weights, Tryd.underlying58, DataW.weightsEach, List.map_cons, List.map_nil, List.all_append, Bool.and_eq_true] at h
 exact ⟨h.1, h.2.1⟩
theorem open_rule {H : Type} {enc : TypeId × Value → H} {W : World} {fuel : Nat} {cs : List Value} {x : DataW H × List MemPlace} (hf : DataW.trod enc Tryd.prog W 0 (fun _ => true) true fuel 58 cs = some x) (hw : (x.1.weights Tryd.prog 58).all (· ≤ reachBytes) = true) : ∃ r q, RlAt W fuel r q ∧ cs = (r.vals q).toList := by
 obtain ⟨xs, k, rfl, hxy, hlen, hxl, hfl⟩ := DataW.trod_struct Tryd.underlying58 hf
 have cb : Tryd.prog.cellsOf 4 = 1 := by kernel_rfl
 have cn : Tryd.prog.cellsOf 56 = 3 := by kernel_rfl
 have cr : Tryd.prog.cellsOf 58 = 8 := by kernel_rfl
 rw [cr] at hlen
 have hx4 : xs.length = 4 := hxl
 obtain ⟨v0, v1, v2, v3, v4, v5, v6, v7, rfl⟩ : ∃ v0 v1 v2 v3 v4 v5 v6 v7, cs = [v0, v1, v2, v3, v4, v5, v6, v7] := by
  rcases cs with _ | ⟨v0, _ | ⟨v1, _ | ⟨v2, _ | ⟨v3, _ | ⟨v4, _ | ⟨v5, _ | ⟨v6, _ | ⟨v7, _ | ⟨v8, r⟩⟩⟩⟩⟩⟩⟩⟩⟩
  all_goals first | exact ⟨_, _, _, _, _, _, _, _, rfl⟩ | (simp at hlen)
 obtain ⟨y0, y1, y2, y3, rfl⟩ : ∃ y0 y1 y2 y3, xs = [y0, y1, y2, y3] := by
  rcases xs with _ | ⟨v0, _ | ⟨v1, _ | ⟨v2, _ | ⟨v3, _ | ⟨v4, r⟩⟩⟩⟩⟩
  all_goals first | exact ⟨_, _, _, _, rfl⟩ | (simp at hx4)
 have g0 := hfl 0 _ rfl
 have g1 := hfl 1 _ rfl
 have g2 := hfl 2 _ rfl
 have g3 := hfl 3 _ rfl
 simp [cb, cn] at g0 g1 g2 g3
 rw [hxy] at hw
 obtain ⟨hw0, hw1⟩ := w35 y0.1 y1.1 y2.1 y3.1 hw
 obtain ⟨m0, hm0⟩ := open_node k g0 hw0
 obtain ⟨m1, hm1⟩ := open_node k g1 hw1
 obtain ⟨b0, hb0, _⟩ := DataW.trod_bool Tryd.underlying4 g2
 obtain ⟨b1, hb1, _⟩ := DataW.trod_bool Tryd.underlying4 g3
 obtain ⟨la, lc, lp, lpc, e0⟩ := hm0.three
 obtain ⟨ra, rc, rp, rpc, e1⟩ := hm1.three
 simp at hb0 hb1 e0 e1
 obtain ⟨rfl, rfl, rfl⟩ := e0
 obtain ⟨rfl, rfl, rfl⟩ := e1
 subst hb0 hb1
 exact ⟨⟨m0, m1, b0, b1⟩, ⟨la, lc, lp, lpc, ra, rc, rp, rpc⟩, ⟨hm0.mono (by omega), hm1.mono (by omega)⟩, rfl⟩
theorem open_rules {H : Type} {enc : TypeId × Value → H} {W : World} {a : Option Addr} {len cap : Nat} {d : DataW H} {p : List MemPlace} (h : DataW.Trod enc Tryd.prog W 0 (fun _ => true) true 23 (.slice a len cap) d p) (hw : (d.weights Tryd.prog 23).all (· ≤ reachBytes) = true) :
 ∃ D l, RowR W D a len l ∧ len ≤ 140737488355328 ∧ len ≤ cap := by
 obtain ⟨fuel, hf⟩ := h
 have cr : Tryd.prog.cellsOf 58 = 8 := by kernel_rfl
 have br : Tryd.prog.bytesOf 58 = 120 := by kernel_rfl
 rcases DataW.trod_slice Tryd.underlying23 hf with ⟨hcs, _⟩ | ⟨x, l, c, elems, rest, n, hn, hcs, hyy, _, hl, hm, hel, hat, hsp, _⟩
 ·simp [Value.cells] at hcs
  obtain ⟨rfl, rfl, rfl⟩ := hcs
  exact ⟨0, [], ⟨rfl, fun i hi => by simp at hi⟩, by omega, by omega⟩
 ·simp [Value.cells] at hcs
  obtain ⟨rfl, rfl, rfl⟩ := hcs
  have hd : d = .slice (elems.map (·.1)) (rest.map (·.1)) := congrArg Prod.fst hyy
  rw [hd] at hw
  simp only [DataW.weights, Tryd.underlying23, List.all_cons, List.all_append, Bool.and_eq_true, decide_eq_true_eq, List.length_map, br, reachBytes] at hw
  obtain ⟨hw3, hw4, _⟩ := hw
  have hw5 : (elems.length + rest.length) * 120 ≤ 140737488351232 := of_decide_eq_true hw3
  haveI : Inhabited (Rl × RlP) := ⟨(⟨nilNd, nilNd, false, false⟩, ⟨none, 0, none, 0, none, 0, none, 0⟩)⟩
  have each : ∀ i, i < len → ∃ y : Rl × RlP, RlAt W n y.1 y.2 ∧ ∀ j, j < 8 → W.cell? (x.add (i * 8 + j)) = (y.1.vals y.2)[j]? := by
   intro i hi
   have h1 := hat i hi
   rw [List.getElem?_eq_getElem (by omega)] at h1
   obtain ⟨us, hus, htr⟩ := Option.bind_eq_some_iff.1 h1
   rw [cr] at hus
   obtain ⟨_, hul, hcell⟩ := World.cells?_some hus
   have hwi : ((elems[i]'(by omega)).1.weights Tryd.prog 58).all (· ≤ reachBytes) = true := wAll _ _ hw4 _ (List.mem_map.2 ⟨elems[i]'(by omega), List.getElem_mem _, rfl⟩)
   obtain ⟨r, q, hr, hv⟩ := open_rule htr hwi
   refine ⟨(r, q), hr, fun j hj => ?_⟩
   have := hcell j hj
   rw [Go.Deep.add_add, hv] at this
   rw [this]
   simp
  obtain ⟨R, hR⟩ := Go.Deep.choose_lt each
  refine ⟨n, (List.range len).map fun i => (R i).1, ⟨by simp, fun i hi => ?_⟩, by omega, hl⟩
  have hi' : i < len := by simpa using hi
  obtain ⟨h1, h2⟩ := hR i hi'
  obtain ⟨b, off, rfl⟩ : ∃ b off, x = ⟨b, off, none⟩ := by
   obtain ⟨b, off, spot⟩ := x
   have h30 := (hR 0 (by omega)).2 0 (by omega)
   have hs : spot = none := by simpa [Addr.add] using World.cell?_spot h30
   exact ⟨b, off, by rw [hs]⟩
  have e : ((List.range len).map fun i => (R i).1)[i]'hi = (R i).1 := by simp
  refine ⟨b, off, (R i).2, rfl, by rw [e]; exact h1, fun j v hv => ?_⟩
  rw [e] at hv
  have hj : j < 8 := by
   rcases Nat.lt_or_ge j 8 with h | h
   ·exact h
   ·rw [Array.getElem?_eq_none (by simpa using h)] at hv; cases hv
  have := h2 j hj
  rw [add_lit, hv] at this
  rw [show off + i * 8 + j = off + (i * 8 + j) by omega]
  exact this
end Go.Proofs.YtclogekfdmikpaaDoor

/- Arrays of expressions that are filled, for the walk of Compile. -/
namespace Go.Proofs.YtclogekfdmikpaaDoor
open Go.RowKit
set_option linter.unusedVariables false
set_option linter.unusedSimpArgs false

def F4 (V : World) (B o : Nat) (v0 v1 v2 v3 : Value) : World := (((V.setCell ⟨B, o, none⟩ v0).setCell ⟨B, o + 1, none⟩ v1).setCell ⟨B, o + 2, none⟩ v2).setCell ⟨B, o + 3, none⟩ v3
def A4 (cs : Array Value) (o : Nat) (v0 v1 v2 v3 : Value) : Array Value := (((cs.setIfInBounds o v0).setIfInBounds (o + 1) v1).setIfInBounds (o + 2) v2).setIfInBounds (o + 3) v3
theorem f4_heap {V : World} {B : Nat} {cs : Array Value} {t : TypeId} (o : Nat) (v0 v1 v2 v3 : Value) (h : V.heap[B]? = some (.cells cs t (0, 0))) : (F4 V B o v0 v1 v2 v3).heap[B]? = some (.cells (A4 cs o v0 v1 v2 v3) t (0, 0)) :=
 heap_setCell_same _ B (o + 3) _ _ v3 (heap_setCell_same _ B (o + 2) _ _ v2 (heap_setCell_same _ B (o + 1) _ _ v1 (heap_setCell_same V B o _ _ v0 h)))
theorem f4_grown (V : World) (B o : Nat) (v0 v1 v2 v3 : Value) : V.grownBy (F4 V B o v0 v1 v2 v3) (some B) :=
 grown_all (grown_all (grown_all (grown_cell V B o v0) (grown_cell _ B (o + 1) v1)) (grown_cell _ B (o + 2) v2)) (grown_cell _ B (o + 3) v3)
theorem a4_size (cs : Array Value) (o : Nat) (v0 v1 v2 v3 : Value) : (A4 cs o v0 v1 v2 v3).size = cs.size := by simp [A4]
theorem a4_get (cs : Array Value) (o : Nat) (v0 v1 v2 v3 : Value) (h : o + 3 < cs.size) (q : Nat) : (A4 cs o v0 v1 v2 v3)[q]? = if o ≤ q ∧ q < o + 4 then [v0, v1, v2, v3][q - o]? else cs[q]? := by
 unfold A4
 simp only [Array.getElem?_setIfInBounds, Array.size_setIfInBounds]
 by_cases h3 : o + 3 = q
 ·subst h3; simp; omega
 ·rw [if_neg h3]
  by_cases h2 : o + 2 = q
  ·subst h2; simp; omega
  ·rw [if_neg h2]
   by_cases h1 : o + 1 = q
   ·subst h1; simp; omega
   ·rw [if_neg h1]
    by_cases h0 : o = q
    ·subst h0; simp; omega
    ·rw [if_neg h0, if_neg (by omega)]
theorem f4_below {B0 B : Nat} {W V : World} (h : Below B0 W V) (hW : B0 ≤ W.heap.size) (hB : B0 ≤ B) (o : Nat) (v0 v1 v2 v3 : Value) : Below B0 W (F4 V B o v0 v1 v2 v3) := h.grown (f4_grown V B o v0 v1 v2 v3) (Nat.le_trans hW h.size) (fun k hk => by cases hk; exact hB)
def ArX (V : World) (B : Nat) (vs : List (List Value)) : Prop := ∃ cs : Array Value, V.heap[B]? = some (.cells cs 62 (0, 0)) ∧ cs.size = 160 ∧ (∀ k us, vs[k]? = some us → us.length = 4 ∧ ∀ j, j < 4 → cs[k * 4 + j]? = us[j]?) ∧ ∀ q, q < 160 → ∃ v, cs[q]? = some v
theorem zeros123 : Tryd.zeroCells62.size = 160 := by kernel_rfl
theorem ArX.first (V : World) : ArX (V.alloc (.cells Tryd.zeroCells62 62)) V.heap.size [] :=
 ⟨_, heap_alloc_new V _, zeros123, fun k us h => by simp at h, fun q hq => ⟨_, Array.getElem?_eq_getElem (by rw [zeros123]; exact hq)⟩⟩
theorem ArX.keep {V V' : World} {B : Nat} {vs : List (List Value)} (h : ArX V B vs) (he : V'.heap[B]? = V.heap[B]?) : ArX V' B vs := by
 obtain ⟨cs, h1, h2⟩ := h
 exact ⟨cs, he.trans h1, h2⟩
theorem ArX.lt {V : World} {B : Nat} {vs : List (List Value)} (h : ArX V B vs) : B < V.heap.size := by
 obtain ⟨cs, h1, _⟩ := h
 exact (Array.getElem?_eq_some_iff.1 h1).1
theorem ArX.cell {V : World} {B : Nat} {vs : List (List Value)} (h : ArX V B vs) {q : Nat} (hq : q < 160) : (∃ v, V.cell? ⟨B, q, none⟩ = some v) ∧ V.frozen? ⟨B, q, none⟩ = false := by
 obtain ⟨cs, h1, _, _, h4⟩ := h
 obtain ⟨v, hv⟩ := h4 q hq
 exact ⟨⟨v, by rw [cell_of_row V B q _ _ _ h1]; exact hv⟩, Lib.frozen_of_heap h1 q⟩
theorem ArX.put {V : World} {B : Nat} {vs : List (List Value)} (h : ArX V B vs) (hl : vs.length < 40) (v0 v1 v2 v3 : Value) : ArX (F4 V B (vs.length * 4) v0 v1 v2 v3) B (vs ++ [[v0, v1, v2, v3]]) := by
 obtain ⟨cs, h1, h2, h3, h4⟩ := h
 refine ⟨_, f4_heap _ _ _ _ _ h1, by rw [a4_size, h2], fun k us hk => ?_, fun q hq => ?_⟩
 ·rcases Nat.lt_or_ge k vs.length with hkl | hkl
  ·rw [List.getElem?_append_left hkl] at hk
   obtain ⟨g1, g2⟩ := h3 k us hk
   refine ⟨g1, fun j hj => ?_⟩
   rw [a4_get _ _ _ _ _ _ (by omega), if_neg (by omega)]
   exact g2 j hj
  ·have hkl2 : k < (vs ++ [[v0, v1, v2, v3]]).length := (List.getElem?_eq_some_iff.1 hk).1
   simp at hkl2
   obtain rfl : k = vs.length := by omega
   simp at hk
   subst hk
   refine ⟨rfl, fun j hj => ?_⟩
   rw [a4_get _ _ _ _ _ _ (by omega), if_pos (by omega)]
   congr 1
   omega
 ·rw [a4_get _ _ _ _ _ _ (by omega)]
  split
  ·rename_i hr
   have : q - vs.length * 4 < 4 := by omega
   exact ⟨_, List.getElem?_eq_getElem (by simpa using this)⟩
  ·exact h4 q hq
theorem ArX.row {V : World} {B D : Nat} {vs : List (List Value)} {xs : List (Nd × Bool)} (h : ArX V B vs) (hl : vs.length = xs.length) (hx : ∀ k (hk : k < xs.length), ∃ u0 u1 u2, vs[k]? = some [u0, u1, u2, .bool xs[k].2] ∧ InV V.heap.size V D xs[k].1 [u0, u1, u2]) : XRow V.heap.size V D (some ⟨B, 0, none⟩) xs := by
 obtain ⟨cs, h1, h2, h3, _⟩ := h
 intro _
 refine ⟨B, 0, rfl, fun k hk => ?_⟩
 obtain ⟨u0, u1, u2, g1, g2⟩ := hx k hk
 obtain ⟨_, g3⟩ := h3 k _ g1
 refine ⟨[u0, u1, u2], g2, fun j v hv => ?_, ?_⟩
 ·have hj : j < 3 := by have := (List.getElem?_eq_some_iff.1 hv).1; simpa using this
  rw [show 0 + k * 4 + j = k * 4 + j by omega, cell_of_row V B _ _ _ _ h1, g3 j (by omega)]
  match j, hv with
  | 0, hv => exact hv
  | 1, hv => exact hv
  | 2, hv => exact hv
  | (j + 3), hv => simp at hv
 ·rw [show 0 + k * 4 + 3 = k * 4 + 3 by omega, cell_of_row V B _ _ _ _ h1, g3 3 (by omega)]
  rfl
end Go.Proofs.YtclogekfdmikpaaDoor

/- What Compile has in memory while it goes through the rules. -/
namespace Go.Proofs.YtclogekfdmikpaaDoor
open Go.RowKit
set_option linter.unusedVariables false
set_option linter.unusedSimpArgs false

def CmT (w : World) (D : Nat) (l : List Rl) (bx : Array Value) (kL kR : Nat) (br : Int) (pA pB : Option Addr) (wr : World) : Prop :=
 Below w.heap.size w wr ∧ w.heap.size + 4 ≤ wr.heap.size ∧ wr.heap[w.heap.size]? = some (.cells bx 25) ∧
  wr.heap[w.heap.size + 3]? = some (.cells #[.pointer pA, .pointer pB, .int .u64 br, .int .i64 (l.length : Int)] 66) ∧
  (∃ vs, vs.length = kL ∧ ArX wr (w.heap.size + 1) vs ∧ ∀ i (hi : i < l.length), i < kL → ∃ u0 u1 u2, vs[i]? = some [u0, u1, u2, .bool l[i].start] ∧ InV w.heap.size w D l[i].left [u0, u1, u2]) ∧
  ∃ vs, vs.length = kR ∧ ArX wr (w.heap.size + 2) vs ∧ ∀ i (hi : i < l.length), i < kR → ∃ u0 u1 u2, vs[i]? = some [u0, u1, u2, .bool false] ∧ NwV (w.heap.size + 4) wr 32 l[i].right.rev [u0, u1, u2]
theorem CmT.later {w wr wr' : World} {D : Nat} {l : List Rl} {bx : Array Value} {kL kR : Nat} {br : Int} {pA pB : Option Addr} (h : CmT w D l bx kL kR br pA pB wr) (hb : Below wr.heap.size wr wr') : CmT w D l bx kL kR br pA pB wr' := by
 obtain ⟨h1, h2, h3, h4, ⟨vs, a1, a2, a3⟩, us, b1, b2, b3⟩ := h
 refine ⟨h1.trans (hb.mono h1.size), Nat.le_trans h2 hb.size, (hb.block _ (by omega)).trans h3, (hb.block _ (by omega)).trans h4, ⟨vs, a1, a2.keep (hb.block _ (by omega)), a3⟩, us, b1, b2.keep (hb.block _ (by omega)), fun i hi hk => ?_⟩
 obtain ⟨u0, u1, u2, e1, e2⟩ := b3 i hi hk
 exact ⟨u0, u1, u2, e1, e2.later hb 32⟩
def CmS (w : World) (D : Nat) (l : List Rl) (bx : Array Value) (kL kR : Nat) (br : Int) (wr : World) : Prop := CmT w D l bx kL kR br none none wr
theorem CmS.later {w wr wr' : World} {D : Nat} {l : List Rl} {bx : Array Value} {kL kR : Nat} {br : Int} (h : CmS w D l bx kL kR br wr) (hb : Below wr.heap.size wr wr') : CmS w D l bx kL kR br wr' := CmT.later h hb
theorem CmS.putL {w wr : World} {D : Nat} {l : List Rl} {bx : Array Value} {k kR : Nat} {br : Int} (h : CmS w D l bx k kR br wr) (hk : k < l.length) (h40 : k < 40) {u0 u1 u2 : Value} {b : Bool} (hb : b = l[k].start) (hin : InV w.heap.size w D l[k].left [u0, u1, u2]) :
 CmS w D l bx (k + 1) kR br (F4 wr (w.heap.size + 1) (k * 4) u0 u1 u2 (.bool b)) := by
 obtain ⟨h1, h2, h3, h4, ⟨vs, a1, a2, a3⟩, us, b1, b2, b3⟩ := h
 have hg := f4_grown wr (w.heap.size + 1) (k * 4) u0 u1 u2 (.bool b)
 refine ⟨f4_below h1 (Nat.le_refl _) (by omega) _ _ _ _ _, Nat.le_trans h2 hg.size, (hg.block _ (by omega) (fun e => by simp at e)).trans h3, (hg.block _ (by omega) (fun e => by simp at e)).trans h4, ⟨vs ++ [[u0, u1, u2, .bool b]], by simp [a1], ?_, fun i hi hik => ?_⟩, us, b1, b2.keep (hg.block _ (by omega) (fun e => by simp at e)), fun i hi hk => ?_⟩
 ·have := a2.put (by omega) u0 u1 u2 (.bool b)
  rw [a1] at this
  exact this
 ·rcases Nat.lt_or_ge i k with hl | hl
  ·obtain ⟨x0, x1, x2, e1, e2⟩ := a3 i hi hl
   exact ⟨x0, x1, x2, by rw [List.getElem?_append_left (by omega)]; exact e1, e2⟩
  ·obtain rfl : i = k := by omega
   refine ⟨u0, u1, u2, ?_, hin⟩
   rw [List.getElem?_append_right (by omega), a1, hb]
   simp
 ·obtain ⟨u0, u1, u2, e1, e2⟩ := b3 i hi hk
  exact ⟨u0, u1, u2, e1, e2.grown hg (fun g e => by cases e; omega) 32⟩
theorem CmS.putR {w wr : World} {D : Nat} {l : List Rl} {bx : Array Value} {k kL : Nat} {br : Int} (h : CmS w D l bx kL k br wr) (hk : k < l.length) (h40 : k < 40) {u0 u1 u2 : Value} (hin : NwV (w.heap.size + 4) wr 32 l[k].right.rev [u0, u1, u2]) :
 CmS w D l bx kL (k + 1) br (F4 wr (w.heap.size + 2) (k * 4) u0 u1 u2 (.bool false)) := by
 obtain ⟨h1, h2, h3, h4, ⟨vs, a1, a2, a3⟩, us, b1, b2, b3⟩ := h
 have hg := f4_grown wr (w.heap.size + 2) (k * 4) u0 u1 u2 (.bool false)
 refine ⟨f4_below h1 (Nat.le_refl _) (by omega) _ _ _ _ _, Nat.le_trans h2 hg.size, (hg.block _ (by omega) (fun e => by simp at e)).trans h3, (hg.block _ (by omega) (fun e => by simp at e)).trans h4, ⟨vs, a1, a2.keep (hg.block _ (by omega) (fun e => by simp at e)), a3⟩, us ++ [[u0, u1, u2, .bool false]], by simp [b1], ?_, fun i hi hik => ?_⟩
 ·have := b2.put (by omega) u0 u1 u2 (.bool false)
  rw [b1] at this
  exact this
 ·rcases Nat.lt_or_ge i k with hl | hl
  ·obtain ⟨x0, x1, x2, e1, e2⟩ := b3 i hi hl
   exact ⟨x0, x1, x2, by rw [List.getElem?_append_left (by omega)]; exact e1, e2.grown hg (fun g e => by cases e; omega) 32⟩
  ·obtain rfl : i = k := by omega
   refine ⟨u0, u1, u2, ?_, hin.grown hg (fun g e => by cases e; omega) 32⟩
   rw [List.getElem?_append_right (by omega), b1]
   simp
theorem CmS.putB {w wr : World} {D : Nat} {l : List Rl} {bx : Array Value} {kL kR : Nat} {br : Int} (h : CmS w D l bx kL kR br wr) (br' : Int) : CmS w D l bx kL kR br' (wr.setCell ⟨w.heap.size + 3, 2, none⟩ (.int .u64 br')) := by
 obtain ⟨h1, h2, h3, h4, ⟨vs, a1, a2, a3⟩, us, b1, b2, b3⟩ := h
 have hg := grown_cell wr (w.heap.size + 3) 2 (.int .u64 br')
 refine ⟨h1.grown hg (by omega) (fun k e => by cases e; omega), Nat.le_trans h2 hg.size, (hg.block _ (by omega) (fun e => by simp at e)).trans h3, heap_setCell_same _ _ 2 _ _ _ h4, ⟨vs, a1, a2.keep (hg.block _ (by omega) (fun e => by simp at e)), a3⟩, us, b1, b2.keep (hg.block _ (by omega) (fun e => by simp at e)), fun i hi hk => ?_⟩
 obtain ⟨u0, u1, u2, e1, e2⟩ := b3 i hi hk
 exact ⟨u0, u1, u2, e1, e2.grown hg (fun g e => by cases e; omega) 32⟩
theorem CmS.tab {w wr : World} {D : Nat} {l : List Rl} {bx : Array Value} {kL kR : Nat} {br : Int} (h : CmS w D l bx kL kR br wr) :
 (wr.cell? ⟨w.heap.size + 3, 0, none⟩ = some (.pointer none) ∧ wr.cell? ⟨w.heap.size + 3, 1, none⟩ = some (.pointer none) ∧ wr.cell? ⟨w.heap.size + 3, 2, none⟩ = some (.int .u64 br) ∧ wr.cell? ⟨w.heap.size + 3, 3, none⟩ = some (.int .i64 (l.length : Int))) ∧
 (wr.frozen? ⟨w.heap.size + 3, 0, none⟩ = false ∧ wr.frozen? ⟨w.heap.size + 3, 1, none⟩ = false ∧ wr.frozen? ⟨w.heap.size + 3, 2, none⟩ = false) :=
 ⟨⟨cell_of_row _ _ 0 _ _ _ h.2.2.2.1, cell_of_row _ _ 1 _ _ _ h.2.2.2.1, cell_of_row _ _ 2 _ _ _ h.2.2.2.1, cell_of_row _ _ 3 _ _ _ h.2.2.2.1⟩, Lib.frozen_of_heap h.2.2.2.1 0, Lib.frozen_of_heap h.2.2.2.1 1, Lib.frozen_of_heap h.2.2.2.1 2⟩
theorem CmS.arL {w wr : World} {D : Nat} {l : List Rl} {bx : Array Value} {kL kR : Nat} {br : Int} (h : CmS w D l bx kL kR br wr) {q : Nat} (hq : q < 160) : (∃ v, wr.cell? ⟨w.heap.size + 1, q, none⟩ = some v) ∧ wr.frozen? ⟨w.heap.size + 1, q, none⟩ = false := by
 obtain ⟨_, _, _, _, ⟨vs, a1, a2, a3⟩, _⟩ := h
 exact a2.cell hq
theorem CmS.arR {w wr : World} {D : Nat} {l : List Rl} {bx : Array Value} {kL kR : Nat} {br : Int} (h : CmS w D l bx kL kR br wr) {q : Nat} (hq : q < 160) : (∃ v, wr.cell? ⟨w.heap.size + 2, q, none⟩ = some v) ∧ wr.frozen? ⟨w.heap.size + 2, q, none⟩ = false := by
 obtain ⟨_, _, _, _, _, us, a1, a2, a3⟩ := h
 exact a2.cell hq
theorem CmT.lefts {w wr : World} {D : Nat} {l : List Rl} {bx : Array Value} {kR : Nat} {br : Int} {pA pB : Option Addr} (h : CmT w D l bx l.length kR br pA pB wr) : XRow wr.heap.size wr D (some ⟨w.heap.size + 1, 0, none⟩) (l.map fun r => (r.left, r.start)) := by
 obtain ⟨h1, h2, h3, h4, ⟨vs, a1, a2, a3⟩, us, b1, b2, b3⟩ := h
 refine a2.row (by simp [a1]) fun k hk => ?_
 obtain ⟨u0, u1, u2, e1, e2⟩ := a3 k (by simpa using hk) (by simpa using hk)
 exact ⟨u0, u1, u2, by simpa using e1, by simpa using (e2.later h1 D).base h1.size D⟩
theorem CmT.rights {w wr : World} {D : Nat} {l : List Rl} {bx : Array Value} {kL : Nat} {br : Int} {pA pB : Option Addr} (h : CmT w D l bx kL l.length br pA pB wr) : XRow wr.heap.size wr 32 (some ⟨w.heap.size + 2, 0, none⟩) (l.map fun r => (r.right.rev, false)) := by
 obtain ⟨h1, h2, h3, h4, ⟨vs, a1, a2, a3⟩, us, b1, b2, b3⟩ := h
 refine b2.row (by simp [b1]) fun k hk => ?_
 obtain ⟨u0, u1, u2, e1, e2⟩ := b3 k (by simpa using hk) (by simpa using hk)
 exact ⟨u0, u1, u2, by simpa using e1, by simpa using e2.in⟩
theorem CmT.put {w wr : World} {D : Nat} {l : List Rl} {bx : Array Value} {kL kR : Nat} {br : Int} {pA pB : Option Addr} (h : CmT w D l bx kL kR br pA pB wr) (p : Option Addr) : CmT w D l bx kL kR br p pB (wr.setCell ⟨w.heap.size + 3, 0, none⟩ (.pointer p)) ∧ CmT w D l bx kL kR br pA p (wr.setCell ⟨w.heap.size + 3, 1, none⟩ (.pointer p)) := by
 obtain ⟨h1, h2, h3, h4, ⟨vs, a1, a2, a3⟩, us, b1, b2, b3⟩ := h
 have all : ∀ (j : Nat) (qA qB : Option Addr), (wr.setCell ⟨w.heap.size + 3, j, none⟩ (.pointer p)).heap[w.heap.size + 3]? = some (.cells #[.pointer qA, .pointer qB, .int .u64 br, .int .i64 (l.length : Int)] 66) → CmT w D l bx kL kR br qA qB (wr.setCell ⟨w.heap.size + 3, j, none⟩ (.pointer p)) := by
  intro j qA qB hh
  have hg := grown_cell wr (w.heap.size + 3) j (.pointer p)
  refine ⟨h1.grown hg (by omega) (fun k e => by cases e; omega), Nat.le_trans h2 hg.size, (hg.block _ (by omega) (fun e => by simp at e)).trans h3, hh, ⟨vs, a1, a2.keep (hg.block _ (by omega) (fun e => by simp at e)), a3⟩, us, b1, b2.keep (hg.block _ (by omega) (fun e => by simp at e)), fun i hi hk => ?_⟩
  obtain ⟨u0, u1, u2, e1, e2⟩ := b3 i hi hk
  exact ⟨u0, u1, u2, e1, e2.grown hg (fun g e => by cases e; omega) 32⟩
 exact ⟨all 0 p pB (heap_setCell_same _ _ 0 _ _ _ h4), all 1 pA p (heap_setCell_same _ _ 1 _ _ _ h4)⟩
theorem CmT.cells {w wr : World} {D : Nat} {l : List Rl} {c0 c1 : Value} {kL kR : Nat} {br : Int} {pA pB : Option Addr} (h : CmT w D l #[c0, c1] kL kR br pA pB wr) :
 wr.cell? ⟨w.heap.size, 0, none⟩ = some c0 ∧ wr.cell? ⟨w.heap.size + 3, 0, none⟩ = some (.pointer pA) ∧ wr.cell? ⟨w.heap.size + 3, 1, none⟩ = some (.pointer pB) ∧ wr.cell? ⟨w.heap.size + 3, 3, none⟩ = some (.int .i64 (l.length : Int)) ∧
 wr.frozen? ⟨w.heap.size + 3, 0, none⟩ = false ∧ wr.frozen? ⟨w.heap.size + 3, 1, none⟩ = false :=
 ⟨cell_of_row _ _ 0 _ _ _ h.2.2.1, cell_of_row _ _ 0 _ _ _ h.2.2.2.1, cell_of_row _ _ 1 _ _ _ h.2.2.2.1, cell_of_row _ _ 3 _ _ _ h.2.2.2.1, Lib.frozen_of_heap h.2.2.2.1 0, Lib.frozen_of_heap h.2.2.2.1 1⟩
theorem cell_past {V : World} {TB j : Nat} {p : Option Addr} {x v : Value} {ad : Addr} (hp : V.cell? ⟨TB, j, none⟩ = some (.pointer p)) (hv : V.cell? ad = some v) (hne : v ≠ .pointer p) : (V.setCell ⟨TB, j, none⟩ x).cell? ad = some v := by
 rw [World.cell?_setCell_other]
 ·exact hv
 ·intro e
  rw [← e, hp] at hv
  exact hne (Option.some.inj hv).symm
theorem MchAt.past {V : World} {TB j bm K : Nat} {p : Option Addr} {x : Value} {cs : Array Value} {nx : List (List Nat)} {ou : List Nat} (h : MchAt V bm K nx ou) (ht : V.heap[TB]? = some (.cells cs 66)) (hp : V.cell? ⟨TB, j, none⟩ = some (.pointer p)) : MchAt (V.setCell ⟨TB, j, none⟩ x) bm K nx ou := by
 obtain ⟨na, nc, oa, oc, h1, h2, h3, h4⟩ := h
 have hg := grown_cell V TB j x
 have rd : ∀ {k : IntKind} {a : Option Addr} {n : Nat} {l : List Int}, Rd k V a n l → Rd k (V.setCell ⟨TB, j, none⟩ x) a n l := fun h => ⟨h.1, fun h0 => by
  obtain ⟨b, off, e, hc⟩ := h.2 h0
  exact ⟨b, off, e, fun i hi => cell_past hp (hc i hi) (by simp)⟩⟩
 refine ⟨na, nc, oa, oc, (hg.block bm (Array.getElem?_eq_some_iff.1 h1).1 (fun e => ?_)).trans h1, fun h0 => ?_, rd h3, h4⟩
 ·cases e
  exact ne_ty h1 ht (by decide) rfl
 ·obtain ⟨b, off, e, hk⟩ := h2 h0
  refine ⟨b, off, e, fun i hi => ?_⟩
  obtain ⟨ra, rc, g1, g2⟩ := hk i hi
  exact ⟨ra, rc, cell_past hp g1 (by simp), rd g2⟩
def BldO (K : Int) (xs : List (Nd × Bool)) (p : Option Addr) (x : Int) (W : World) : Prop :=
 (alwB K xs = false ∧ x = 1 ∧ p = none) ∨ (alwB K xs = true ∧ x = 7 ∧ p = none ∧ BigC K.toNat xs) ∨
  (alwB K xs = true ∧ x = 0 ∧ ∃ la nx ou, p = some ⟨la, 0, none⟩ ∧ MchAt W la K.toNat nx ou ∧ LeastOf K.toNat xs nx ou ∧ nx.length ≤ 400 ∧ ¬ BigC K.toNat xs)
theorem bld_out {K : Int} {xs : List (Nd × Bool)} {w w' : World} {e : Ending} (h : BldP K xs w e w') : Below w.heap.size w w' ∧ ∃ p x, e = .returned (.tuple #[.pointer p, .int .i64 x]) ∧ BldO K xs p x w' := by
 obtain ⟨hb, ⟨h1, rfl⟩ | ⟨h1, ⟨rfl, h2⟩ | ⟨lb, nx, ou, rfl, h2, h3, h4, h5⟩⟩⟩ := h
 ·exact ⟨hb, _, _, rfl, .inl ⟨h1, rfl, rfl⟩⟩
 ·exact ⟨hb, _, _, rfl, .inr (.inl ⟨h1, rfl, rfl, h2.big⟩)⟩
 ·exact ⟨hb, _, _, rfl, .inr (.inr ⟨h1, rfl, lb, nx, ou, rfl, h2, h3, h4, h5⟩)⟩
theorem BldO.up {K : Int} {xs : List (Nd × Bool)} {p : Option Addr} {x : Int} {W W' : World} (h : BldO K xs p x W) (hm : ∀ la nx ou, MchAt W la K.toNat nx ou → MchAt W' la K.toNat nx ou) : BldO K xs p x W' := by
 rcases h with h | h | ⟨h1, h2, la, nx, ou, h3, h4, h5⟩
 ·exact .inl h
 ·exact .inr (.inl h)
 ·exact .inr (.inr ⟨h1, h2, la, nx, ou, h3, hm _ _ _ h4, h5⟩)
end Go.Proofs.YtclogekfdmikpaaDoor

/- A scope in which the run jumps forward, to one of two labels. -/
namespace Go.Proofs.YtclogekfdmikpaaDoor
open Go Go.RowKit

def ExTwo (R0 R1 : Act → World → Prop) (Q : Exit → Act → World → Prop) : Exit → Act → World → Prop
 | .goto 0, a, w => R0 a w
 | .goto 1, a, w => R1 a w
 | .goto (_ + 2), _, _ => False
 | e, a, w => Q e a w
section
variable {P : Program} {a : Act} {w : World} {Q : Exit → Act → World → Prop} {R0 R1 : Act → World → Prop}
theorem wp_scope_two {c r0 r1 : Code} (hf0 : findLabel c 0 = some r0) (hf1 : findLabel c 1 = some r1) (h0 : ∀ a w, R0 a w → r0.wp P (Exit.noGoto Q) a w) (h1 : ∀ a w, R1 a w → r1.wp P (Exit.noGoto Q) a w)
 (first : c.wp P (ExTwo R0 R1 Q) a w) : (Code.scope c).wp P Q a w := by
 intro b k cs
 have go : ∀ (l : Nat) (r : Code) (a : Act) (w : World), findLabel c l = some r → r.wp P (Exit.noGoto Q) a w → ∃ e a' w', Q e a' w' ∧ Arrives P (lone (b.at a (.code r :: .inScope c :: k)) cs w) b k cs e a' w' := by
  intro l r a w hf h
  obtain ⟨e, a₁, w₁, hq, harr⟩ := h b (.inScope c :: k) cs
  cases e with
  | normal => exact ⟨.normal, a₁, w₁, hq, Steps.trans harr (.one step_inScope)⟩
  | exit id => exact ⟨.exit id, a₁, w₁, hq, fun k' hk => harr k' (by simp [exitTo, hk])⟩
  | goto l' => exact hq.elim
  | ret => exact ⟨_, a₁, w₁, hq, harr⟩
  | panic ch => exact ⟨_, a₁, w₁, hq, harr⟩
  | outgrown => exact ⟨_, a₁, w₁, hq, harr⟩
 obtain ⟨e, a₁, w₁, hq, harr⟩ := first b (.inScope c :: k) cs
 cases e with
 | normal => exact ⟨.normal, a₁, w₁, hq, .head step_scope (Steps.trans harr (.one step_inScope))⟩
 | exit id => exact ⟨.exit id, a₁, w₁, hq, fun k' hk => .head step_scope (harr k' (by simp [exitTo, hk]))⟩
 | goto l =>
   match l, hq, harr with
   | 0, hq, harr =>
     have hg : gotoIn 0 (.inScope c :: k) = some (.code r0 :: .inScope c :: k) := by simp [gotoIn, hf0]
     obtain ⟨e₂, a₂, w₂, hq₂, harr₂⟩ := go 0 r0 a₁ w₁ hf0 (h0 _ _ hq)
     exact ⟨e₂, a₂, w₂, hq₂, .of_steps (.head step_scope (harr _ hg)) harr₂⟩
   | 1, hq, harr =>
     have hg : gotoIn 1 (.inScope c :: k) = some (.code r1 :: .inScope c :: k) := by simp [gotoIn, hf1]
     obtain ⟨e₂, a₂, w₂, hq₂, harr₂⟩ := go 1 r1 a₁ w₁ hf1 (h1 _ _ hq)
     exact ⟨e₂, a₂, w₂, hq₂, .of_steps (.head step_scope (harr _ hg)) harr₂⟩
   | (_ + 2), hq, _ => exact hq.elim
 | ret => exact ⟨_, a₁, w₁, hq, .of_steps (.one step_scope) harr⟩
 | panic ch => exact ⟨_, a₁, w₁, hq, .of_steps (.one step_scope) harr⟩
 | outgrown => exact ⟨_, a₁, w₁, hq, .of_steps (.one step_scope) harr⟩
theorem wp_scope_fwd {c r0 r1 : Code} (hf0 : findLabel c 0 = some r0) (hf1 : findLabel c 1 = some r1)
 (first : ∀ R0 R1 : Act → World → Prop, Hid (∀ a w, r0.wp P (Exit.noGoto Q) a w → R0 a w) → Hid (∀ a w, r1.wp P (Exit.noGoto Q) a w → R1 a w) → c.wp P (ExTwo R0 R1 Q) a w) : (Code.scope c).wp P Q a w :=
 wp_scope_two (R0 := fun a w => r0.wp P (Exit.noGoto Q) a w) (R1 := fun a w => r1.wp P (Exit.noGoto Q) a w) hf0 hf1 (fun _ _ h => h) (fun _ _ h => h) (first _ _ (fun _ _ h => h) (fun _ _ h => h))
end
end Go.Proofs.YtclogekfdmikpaaDoor
