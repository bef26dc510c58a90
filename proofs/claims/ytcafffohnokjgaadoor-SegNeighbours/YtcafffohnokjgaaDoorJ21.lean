/- In one text: NfaV, BasO, BasU, TabA, DfaRa, TabB, BasG. -/
import Derived.Test.YtcafffohnokjgaaDoorJ20
import Derived.Test.YtcafffohnokjgaaDoorJ01
import Derived.SizedLaws
import Derived.ProofKit
import Derived.OpenShut
import Derived.ChangeOld
import Derived.Below
import Derived.Test.YtcafffohnokjgaaDoorJ18
import Derived.Deep.CutBlock
import Derived.WalkMore
/- The walk of Reverse. -/
namespace Go.Proofs.YtcafffohnokjgaaDoor
open Go.RowKit
set_option linter.unusedVariables false
set_option linter.unusedSimpArgs false

theorem new_at3 (w : World) (o1 o2 o3 : Obj) : ((w.alloc o1).alloc o2 |>.alloc o3).heap[w.heap.size]? = some o1 ∧ ((w.alloc o1).alloc o2 |>.alloc o3).heap[w.heap.size + 1]? = some o2 ∧ ((w.alloc o1).alloc o2 |>.alloc o3).heap[w.heap.size + 2]? = some o3 := by
 have b3 := (Below.refl _ ((w.alloc o1).alloc o2)).alloc (Nat.le_refl _) o3
 have b2 := (Below.refl _ (w.alloc o1)).alloc (Nat.le_refl _) o2
 refine ⟨(b3.block _ (by simp; omega)).trans ((b2.block _ (by simp)).trans (heap_alloc_new w o1)), (b3.block _ (by simp)).trans (new_at2 w o1 o2), ?_⟩
 have := heap_alloc_new ((w.alloc o1).alloc o2) o3
 rw [show ((w.alloc o1).alloc o2).heap.size = w.heap.size + 2 by simp] at this
 exact this
set_option maxHeartbeats 4000000 in
theorem rev_any (D : Nat) (n : Nd) (ca pa : Option Addr) (cc pc : Nat) (w : World) (hin : InV w.heap.size w D n [.int .i64 n.op, .slice ca n.cl.length cc, .slice pa (toL n.kids).length pc]) (hok : n.ok = true) :
 Calls Tryd.prog 24 #[.agg #[.int .i64 n.op, .slice ca n.cl.length cc, .slice pa (toL n.kids).length pc]] w (TuPost 32 n w) := by
 have hk := hok
 unfold Nd.ok at hk
 simp only [Bool.and_eq_true, decide_eq_true_eq] at hk
 obtain ⟨hk1, hk2⟩ := hk
 have hwd := wds_le 32 n hk1
 obtain ⟨op, hop⟩ : ∃ op, op = n.op := ⟨_, rfl⟩
 obtain ⟨cn, hcn⟩ : ∃ cn, cn = n.cl.length := ⟨_, rfl⟩
 obtain ⟨K, hK⟩ : ∃ K, K = (toL n.kids).length := ⟨_, rfl⟩
 obtain ⟨W0, hW0⟩ : ∃ W0, W0 = ((w.alloc (.cells #[.int .i64 op, .slice ca cn cc, .slice pa K pc] 46)).alloc (.cells #[.int .i64 0, .slice none 0 0, .slice none 0 0] 46)).alloc (.cells #[.int .i64 268435456] 3) := ⟨_, rfl⟩
 obtain ⟨H, hH⟩ : ∃ H, H = w.heap.size := ⟨_, rfl⟩
 have HB0 : Hid (Below w.heap.size w W0) := by rw [hW0]; exact (((Below.refl _ w).alloc (Nat.le_refl _) _).alloc (by simp) _).alloc (by simp; omega) _
 obtain ⟨b1, b2, b3⟩ := new_at3 w (.cells #[.int .i64 op, .slice ca cn cc, .slice pa K pc] 46) (.cells #[.int .i64 0, .slice none 0 0, .slice none 0 0] 46) (.cells #[.int .i64 268435456] 3)
 rw [← hW0, ← hH] at b1 b2 b3
 have HX : Hid (W0.heap[H]? = some (.cells #[.int .i64 op, .slice ca cn cc, .slice pa K pc] 46) ∧ W0.heap[H + 1]? = some (.cells #[.int .i64 0, .slice none 0 0, .slice none 0 0] 46) ∧ H = w.heap.size) := ⟨b1, b2, hH⟩
 have HC : Hid (Calls Tryd.prog 32 #[.agg #[.int .i64 op, .slice ca cn cc, .slice pa K pc], .int .i64 131072, .pointer (some ⟨H + 2, 0, none⟩)] W0 (BdPost n 268435456 (H + 2) W0)) := by
  rw [hop, hcn, hK]
  exact bd_any 32 D n ca pa cc pc 268435456 (H + 2) 131072 w W0 hin HB0.out (by omega) b3 hk1 (by omega) (by omega) (by omega) (by omega)
 have HT : Hid (∀ V : World, Below w.heap.size w V → Calls Tryd.prog 33 #[.agg #[.int .i64 op, .slice ca cn cc, .slice pa K pc]] V (TuPost 32 n V)) := fun V hV => by
  rw [hop, hcn, hK]
  exact tu_any 32 D n _ ca pa _ cc _ pc V ((hin.later hV D).base hV.size D) hk1 hk2
 have e0 : W0.cell? ⟨H, 0, none⟩ = some (.int .i64 op) := cell_of_row W0 H 0 _ _ _ b1
 have e1 : W0.cell? ⟨H, 1, none⟩ = some (.slice ca cn cc) := cell_of_row W0 H 1 _ _ _ b1
 have e2 : W0.cell? ⟨H, 2, none⟩ = some (.slice pa K pc) := cell_of_row W0 H 2 _ _ _ b1
 rw [← hop, ← hcn, ← hK]
 clear hin hok hk1 hk2 hwd hop hcn hK b1 b2 b3
 go_enter Tryd.func24, Tryd.ntmps24
 go_upto_region 2 with fail
 rw [← hH, ← hW0]
 clear hH hW0
 go_wp2_with fail
 refine HC.out.mono ?_
 rintro e w1 ⟨c', rfl, hg, _, _⟩
 have HB1 : Hid (Below w.heap.size w w1) := HB0.out.grown hg HB0.out.size (fun k hk => by cases hk; have := HX.out.2.2; omega)
 have HX1 : Hid (w1.heap[H]? = some (.cells #[.int .i64 op, .slice ca cn cc, .slice pa K pc] 46) ∧ w1.heap[H + 1]? = some (.cells #[.int .i64 0, .slice none 0 0, .slice none 0 0] 46)) :=
  ⟨(hg.block H (Array.getElem?_eq_some_iff.1 HX.out.1).1 (fun e => by simp at e)).trans HX.out.1, (hg.block (H + 1) (Array.getElem?_eq_some_iff.1 HX.out.2.1).1 (fun e => by simp at e)).trans HX.out.2.1⟩
 have f0 : w1.cell? ⟨H, 0, none⟩ = some (.int .i64 op) := cell_of_row w1 H 0 _ _ _ HX1.out.1
 have f1 : w1.cell? ⟨H, 1, none⟩ = some (.slice ca cn cc) := cell_of_row w1 H 1 _ _ _ HX1.out.1
 have f2 : w1.cell? ⟨H, 2, none⟩ = some (.slice pa K pc) := cell_of_row w1 H 2 _ _ _ HX1.out.1
 clear hg e0 e1 e2 HC
 go_wp2_with fail
 refine (HT.out w1 HB1.out).mono ?_
 rintro e w2 ⟨⟨yo, ya, yn, yc, yp, yk, yd⟩, rfl, hnw, hb2⟩
 have hx2 : w2.heap[H + 1]? = some (.cells #[.int .i64 0, .slice none 0 0, .slice none 0 0] 46) := (hb2.block (H + 1) (Array.getElem?_eq_some_iff.1 HX1.out.2).1).trans HX1.out.2
 obtain ⟨q1, q2, q3, q4, q5, q6⟩ := tz_cells hx2
 have HFN : Hid (TuPost 32 n w (.returned (.agg #[.int .i64 yo, .slice ya yn yc, .slice yp yk yd])) (F3 w2 (H + 1) 0 ⟨yo, ya, yn, yc, yp, yk, yd⟩)) := by
  have hl : H + 1 < w1.heap.size := (Array.getElem?_eq_some_iff.1 HX1.out.2).1
  have hh := HX.out.2.2
  refine ⟨⟨yo, ya, yn, yc, yp, yk, yd⟩, rfl, (hnw.grown (f3_grown w2 (H + 1) 0 _) (fun g hg => by cases hg; exact hl) 32).mono HB1.out.size 32, f3_below (HB1.out.trans (hb2.mono HB1.out.size)) (Nat.le_refl _) (by omega) 0 _⟩
 clear hnw hb2 hx2 f0 f1 f2
 go_wp2
 refine bodyPost_ret (v := .agg #[.int .i64 yo, .slice ya yn yc, .slice yp yk yd]) ?_ rfl HFN.out
 rw [results_cell_one rfl]
 go_simp
end Go.Proofs.YtcafffohnokjgaaDoor

/- Arguments opened: an expression by value, a list of numbers, a number. -/
namespace Go.Proofs.YtcafffohnokjgaaDoor
open Go.ChangeShapes Go.WideShapes Go.ChangeAt Go.RowKit
set_option linter.unusedVariables false

theorem open_list {H : Type} {enc : TypeId × Value → H} {W : World} {a : Option Addr} {len cap : Nat} {d : DataW H} {p : List MemPlace} (h : DataW.Trod enc Tryd.prog W 0 (fun _ => true) true 26 (.slice a len cap) d p) (hw : (d.weights Tryd.prog 26).all (· ≤ reachBytes) = true) :
 ∃ xs, Rd .i64 W a len xs ∧ len ≤ cap ∧ cap ≤ 9223372036854775807 ∧ (a = none → cap = 0) := by
 obtain ⟨fuel, hf⟩ := h
 obtain ⟨a', zs, c, hcs, hr, _, h3, h4, h5⟩ := open_cls hf hw
 simp [Value.cells] at hcs
 obtain ⟨rfl, rfl, rfl⟩ := hcs
 exact ⟨zs, hr, h3, h4, h5⟩
theorem open_int {H : Type} {enc : TypeId × Value → H} {W : World} {k : IntKind} {v : Int} {d : DataW H} {p : List MemPlace} (h : DataW.Trod enc Tryd.prog W 0 (fun _ => true) true 3 (.int k v) d p) : -9223372036854775808 ≤ v ∧ v ≤ 9223372036854775807 := by
 obtain ⟨fuel, hf⟩ := h
 obtain ⟨op, hop, h1, h2⟩ := DataW.trod_int Tryd.underlying3 hf
 simp [Value.cells] at hop
 rw [hop.2]
 exact i64_of_wf h2
end Go.Proofs.YtcafffohnokjgaaDoor

/- Rules that come in, in memory and as arguments. -/
namespace Go.Proofs.YtcafffohnokjgaaDoor
open Go.ChangeShapes Go.WideShapes Go.ChangeAt Go.RowKit
set_option linter.unusedVariables false
set_option linter.unusedSimpArgs false

structure RlP where
 la : Option Addr
 lc : Nat
 lp : Option Addr
 lpc : Nat
 ra : Option Addr
 rc : Nat
 rp : Option Addr
 rpc : Nat
abbrev Rl.vals (r : Rl) (q : RlP) : Array Value := #[.int .i64 r.left.op, .slice q.la r.left.cl.length q.lc, .slice q.lp (toL r.left.kids).length q.lpc, .int .i64 r.right.op, .slice q.ra r.right.cl.length q.rc, .slice q.rp (toL r.right.kids).length q.rpc, .bool r.brk, .bool r.start]
def RlAt (w : World) (d : Nat) (r : Rl) (q : RlP) : Prop :=
 InV w.heap.size w d r.left [.int .i64 r.left.op, .slice q.la r.left.cl.length q.lc, .slice q.lp (toL r.left.kids).length q.lpc] ∧ InV w.heap.size w d r.right [.int .i64 r.right.op, .slice q.ra r.right.cl.length q.rc, .slice q.rp (toL r.right.kids).length q.rpc]
theorem RlAt.later {w w' : World} {d : Nat} {r : Rl} {q : RlP} (h : RlAt w d r q) (hb : Below w.heap.size w w') : RlAt w' d r q := ⟨(h.1.later hb d).base hb.size d, (h.2.later hb d).base hb.size d⟩
theorem box8 {w : World} {B : Nat} {a b c d e f g h : Value} {t : TypeId} (hh : w.heap[B]? = some (.cells #[a, b, c, d, e, f, g, h] t)) :
 w.cell? ⟨B, 0, none⟩ = some a ∧ w.cell? ⟨B, 1, none⟩ = some b ∧ w.cell? ⟨B, 2, none⟩ = some c ∧ w.cell? ⟨B, 3, none⟩ = some d ∧ w.cell? ⟨B, 4, none⟩ = some e ∧ w.cell? ⟨B, 5, none⟩ = some f ∧ w.cell? ⟨B, 6, none⟩ = some g ∧ w.cell? ⟨B, 7, none⟩ = some h :=
 ⟨cell_of_row w B 0 _ _ _ hh, cell_of_row w B 1 _ _ _ hh, cell_of_row w B 2 _ _ _ hh, cell_of_row w B 3 _ _ _ hh, cell_of_row w B 4 _ _ _ hh, cell_of_row w B 5 _ _ _ hh, cell_of_row w B 6 _ _ _ hh, cell_of_row w B 7 _ _ _ hh⟩
def RowR (w : World) (d : Nat) (a : Option Addr) (n : Nat) (l : List Rl) : Prop :=
 l.length = n ∧ ∀ i (hi : i < l.length), ∃ b off q, a = some ⟨b, off, none⟩ ∧ RlAt w d l[i] q ∧ ∀ j v, (l[i].vals q)[j]? = some v → w.cell? ⟨b, off + i * 8 + j, none⟩ = some v
theorem RowR.later {w w' : World} {d : Nat} {a : Option Addr} {n : Nat} {l : List Rl} (h : RowR w d a n l) (hb : Below w.heap.size w w') : RowR w' d a n l := by
 refine ⟨h.1, fun i hi => ?_⟩
 obtain ⟨b, off, q, h1, h2, h3⟩ := h.2 i hi
 exact ⟨b, off, q, h1, h2.later hb, fun j v hv => (hb.cell (World.block_lt_of_cell? w _ (h3 j v hv))).trans (h3 j v hv)⟩
theorem RowR.cells {w : World} {d : Nat} {a : Option Addr} {n : Nat} {l : List Rl} (h : RowR w d a n l) (i : Nat) (hi : i < l.length) : ∃ b off q, a = some ⟨b, off, none⟩ ∧ RlAt w d l[i] q ∧
 w.cell? ⟨b, off + i * 8, none⟩ = some (.int .i64 l[i].left.op) ∧ w.cell? ⟨b, off + i * 8 + 1, none⟩ = some (.slice q.la l[i].left.cl.length q.lc) ∧ w.cell? ⟨b, off + i * 8 + 2, none⟩ = some (.slice q.lp (toL l[i].left.kids).length q.lpc) ∧
 w.cell? ⟨b, off + i * 8 + 3, none⟩ = some (.int .i64 l[i].right.op) ∧ w.cell? ⟨b, off + i * 8 + 4, none⟩ = some (.slice q.ra l[i].right.cl.length q.rc) ∧ w.cell? ⟨b, off + i * 8 + 5, none⟩ = some (.slice q.rp (toL l[i].right.kids).length q.rpc) ∧
 w.cell? ⟨b, off + i * 8 + 6, none⟩ = some (.bool l[i].brk) ∧ w.cell? ⟨b, off + i * 8 + 7, none⟩ = some (.bool l[i].start) := by
 obtain ⟨b, off, q, h1, h2, h3⟩ := h.2 i hi
 exact ⟨b, off, q, h1, h2, h3 0 _ rfl, h3 1 _ rfl, h3 2 _ rfl, h3 3 _ rfl, h3 4 _ rfl, h3 5 _ rfl, h3 6 _ rfl, h3 7 _ rfl⟩

theorem w35 {H : Type} (d0 d1 d2 d3 : DataW H) (h : ((DataW.agg [d0, d1, d2, d3]).weights Tryd.prog 48).all (· ≤ reachBytes) = true) : (d0.weights Tryd.prog 46).all (· ≤ reachBytes) = true ∧ (d1.weights Tryd.prog 46).all (· ≤ reachBytes) = true := by
 simp only [DataW.weights, Tryd.underlying48, DataW.weightsEach, List.map_cons, List.map_nil, List.all_append, Bool.and_eq_true] at h
 exact ⟨h.1, h.2.1⟩
theorem open_rule {H : Type} {enc : TypeId × Value → H} {W : World} {fuel : Nat} {cs : List Value} {x : DataW H × List MemPlace} (hf : DataW.trod enc Tryd.prog W 0 (fun _ => true) true fuel 48 cs = some x) (hw : (x.1.weights Tryd.prog 48).all (· ≤ reachBytes) = true) : ∃ r q, RlAt W fuel r q ∧ cs = (r.vals q).toList := by
 obtain ⟨xs, k, rfl, hxy, hlen, hxl, hfl⟩ := DataW.trod_struct Tryd.underlying48 hf
 have cb : Tryd.prog.cellsOf 4 = 1 := by kernel_rfl
 have cn : Tryd.prog.cellsOf 46 = 3 := by kernel_rfl
 have cr : Tryd.prog.cellsOf 48 = 8 := by kernel_rfl
 rw [cr] at hlen
 have hx4 : xs.length = 4 := hxl
 obtain ⟨v0, v1, v2, v3, v4, v5, v6, v7, rfl⟩ : ∃ v0 v1 v2 v3 v4 v5 v6 v7, cs = [v0, v1, v2, v3, v4, v5, v6, v7] := by
  rcases cs with _ | ⟨v0, _ | ⟨v1, _ | ⟨v2, _ | ⟨v3, _ | ⟨v4, _ | ⟨v5, _ | ⟨v6, _ | ⟨v7, _ | ⟨v8, r⟩⟩⟩⟩⟩⟩⟩⟩⟩
  all_goals first | exact ⟨_, _, _, _, _, _, _, _, rfl⟩ | (simp at hlen)
 obtain ⟨y0, y1, y2, y3, rfl⟩ : ∃ y0 y1 y2 y3, xs = [y0, y1, y2, y3] := by
  rcases xs with _ | ⟨v0, _ | ⟨v1, _ | ⟨v2, _ | ⟨v3, _ | ⟨v4, r⟩⟩⟩⟩⟩
  all_goals first | exact ⟨_, _, _, _, rfl⟩ | (simp at hx4)
 have g0 := hfl 0 _ rfl
 have g1 := hfl 1 _ rfl
 have g2 := hfl 2 _ rfl
 have g3 := hfl 3 _ rfl
 simp [cb, cn] at g0 g1 g2 g3
 rw [hxy] at hw
 obtain ⟨hw0, hw1⟩ := w35 y0.1 y1.1 y2.1 y3.1 hw
 obtain ⟨m0, hm0⟩ := open_node k g0 hw0
 obtain ⟨m1, hm1⟩ := open_node k g1 hw1
 obtain ⟨b0, hb0, _⟩ := DataW.trod_bool Tryd.underlying4 g2
 obtain ⟨b1, hb1, _⟩ := DataW.trod_bool Tryd.underlying4 g3
 obtain ⟨la, lc, lp, lpc, e0⟩ := hm0.three
 obtain ⟨ra, rc, rp, rpc, e1⟩ := hm1.three
 simp at hb0 hb1 e0 e1
 obtain ⟨rfl, rfl, rfl⟩ := e0
 obtain ⟨rfl, rfl, rfl⟩ := e1
 subst hb0 hb1
 exact ⟨⟨m0, m1, b0, b1⟩, ⟨la, lc, lp, lpc, ra, rc, rp, rpc⟩, ⟨hm0.mono (by omega), hm1.mono (by omega)⟩, rfl⟩
theorem open_rules {H : Type} {enc : TypeId × Value → H} {W : World} {a : Option Addr} {len cap : Nat} {d : DataW H} {p : List MemPlace} (h : DataW.Trod enc Tryd.prog W 0 (fun _ => true) true 23 (.slice a len cap) d p) (hw : (d.weights Tryd.prog 23).all (· ≤ reachBytes) = true) :
 ∃ D l, RowR W D a len l ∧ len ≤ 140737488355328 ∧ len ≤ cap := by
 obtain ⟨fuel, hf⟩ := h
 have cr : Tryd.prog.cellsOf 48 = 8 := by kernel_rfl
 have br : Tryd.prog.bytesOf 48 = 120 := by kernel_rfl
 rcases DataW.trod_slice Tryd.underlying23 hf with ⟨hcs, _⟩ | ⟨x, l, c, elems, rest, n, hn, hcs, hyy, _, hl, hm, hel, hat, hsp, _⟩
 ·simp [Value.cells] at hcs
  obtain ⟨rfl, rfl, rfl⟩ := hcs
  exact ⟨0, [], ⟨rfl, fun i hi => by simp at hi⟩, by omega, by omega⟩
 ·simp [Value.cells] at hcs
  obtain ⟨rfl, rfl, rfl⟩ := hcs
  have hd : d = .slice (elems.map (·.1)) (rest.map (·.1)) := congrArg Prod.fst hyy
  rw [hd] at hw
  simp only [DataW.weights, Tryd.underlying23, List.all_cons, List.all_append, Bool.and_eq_true, decide_eq_true_eq, List.length_map, br, reachBytes] at hw
  obtain ⟨hw3, hw4, _⟩ := hw
  have hw5 : (elems.length + rest.length) * 120 ≤ 140737488351232 := of_decide_eq_true hw3
  haveI : Inhabited (Rl × RlP) := ⟨(⟨nilNd, nilNd, false, false⟩, ⟨none, 0, none, 0, none, 0, none, 0⟩)⟩
  have each : ∀ i, i < len → ∃ y : Rl × RlP, RlAt W n y.1 y.2 ∧ ∀ j, j < 8 → W.cell? (x.add (i * 8 + j)) = (y.1.vals y.2)[j]? := by
   intro i hi
   have h1 := hat i hi
   rw [List.getElem?_eq_getElem (by omega)] at h1
   obtain ⟨us, hus, htr⟩ := Option.bind_eq_some_iff.1 h1
   rw [cr] at hus
   obtain ⟨_, hul, hcell⟩ := World.cells?_some hus
   have hwi : ((elems[i]'(by omega)).1.weights Tryd.prog 48).all (· ≤ reachBytes) = true := wAll _ _ hw4 _ (List.mem_map.2 ⟨elems[i]'(by omega), List.getElem_mem _, rfl⟩)
   obtain ⟨r, q, hr, hv⟩ := open_rule htr hwi
   refine ⟨(r, q), hr, fun j hj => ?_⟩
   have := hcell j hj
   rw [Go.Deep.add_add, hv] at this
   rw [this]
   simp
  obtain ⟨R, hR⟩ := Go.Deep.choose_lt each
  refine ⟨n, (List.range len).map fun i => (R i).1, ⟨by simp, fun i hi => ?_⟩, by omega, hl⟩
  have hi' : i < len := by simpa using hi
  obtain ⟨h1, h2⟩ := hR i hi'
  obtain ⟨b, off, rfl⟩ : ∃ b off, x = ⟨b, off, none⟩ := by
   obtain ⟨b, off, spot⟩ := x
   have h30 := (hR 0 (by omega)).2 0 (by omega)
   have hs : spot = none := by simpa [Addr.add] using World.cell?_spot h30
   exact ⟨b, off, by rw [hs]⟩
  have e : ((List.range len).map fun i => (R i).1)[i]'hi = (R i).1 := by simp
  refine ⟨b, off, (R i).2, rfl, by rw [e]; exact h1, fun j v hv => ?_⟩
  rw [e] at hv
  have hj : j < 8 := by
   rcases Nat.lt_or_ge j 8 with h | h
   ·exact h
   ·rw [Array.getElem?_eq_none (by simpa using h)] at hv; cases hv
  have := h2 j hj
  rw [add_lit, hv] at this
  rw [show off + i * 8 + j = off + (i * 8 + j) by omega]
  exact this
end Go.Proofs.YtcafffohnokjgaaDoor

/- Arrays of expressions that are filled, for the walk of Compile. -/
namespace Go.Proofs.YtcafffohnokjgaaDoor
open Go.RowKit
set_option linter.unusedVariables false
set_option linter.unusedSimpArgs false

def F4 (V : World) (B o : Nat) (v0 v1 v2 v3 : Value) : World := (((V.setCell ⟨B, o, none⟩ v0).setCell ⟨B, o + 1, none⟩ v1).setCell ⟨B, o + 2, none⟩ v2).setCell ⟨B, o + 3, none⟩ v3
def A4 (cs : Array Value) (o : Nat) (v0 v1 v2 v3 : Value) : Array Value := (((cs.setIfInBounds o v0).setIfInBounds (o + 1) v1).setIfInBounds (o + 2) v2).setIfInBounds (o + 3) v3
theorem f4_heap {V : World} {B : Nat} {cs : Array Value} {t : TypeId} (o : Nat) (v0 v1 v2 v3 : Value) (h : V.heap[B]? = some (.cells cs t (0, 0))) : (F4 V B o v0 v1 v2 v3).heap[B]? = some (.cells (A4 cs o v0 v1 v2 v3) t (0, 0)) :=
 heap_setCell_same _ B (o + 3) _ _ v3 (heap_setCell_same _ B (o + 2) _ _ v2 (heap_setCell_same _ B (o + 1) _ _ v1 (heap_setCell_same V B o _ _ v0 h)))
theorem f4_grown (V : World) (B o : Nat) (v0 v1 v2 v3 : Value) : V.grownBy (F4 V B o v0 v1 v2 v3) (some B) :=
 grown_all (grown_all (grown_all (grown_cell V B o v0) (grown_cell _ B (o + 1) v1)) (grown_cell _ B (o + 2) v2)) (grown_cell _ B (o + 3) v3)
theorem a4_size (cs : Array Value) (o : Nat) (v0 v1 v2 v3 : Value) : (A4 cs o v0 v1 v2 v3).size = cs.size := by simp [A4]
theorem a4_get (cs : Array Value) (o : Nat) (v0 v1 v2 v3 : Value) (h : o + 3 < cs.size) (q : Nat) : (A4 cs o v0 v1 v2 v3)[q]? = if o ≤ q ∧ q < o + 4 then [v0, v1, v2, v3][q - o]? else cs[q]? := by
 unfold A4
 simp only [Array.getElem?_setIfInBounds, Array.size_setIfInBounds]
 by_cases h3 : o + 3 = q
 ·subst h3; simp; omega
 ·rw [if_neg h3]
  by_cases h2 : o + 2 = q
  ·subst h2; simp; omega
  ·rw [if_neg h2]
   by_cases h1 : o + 1 = q
   ·subst h1; simp; omega
   ·rw [if_neg h1]
    by_cases h0 : o = q
    ·subst h0; simp; omega
    ·rw [if_neg h0, if_neg (by omega)]
theorem f4_below {B0 B : Nat} {W V : World} (h : Below B0 W V) (hW : B0 ≤ W.heap.size) (hB : B0 ≤ B) (o : Nat) (v0 v1 v2 v3 : Value) : Below B0 W (F4 V B o v0 v1 v2 v3) := h.grown (f4_grown V B o v0 v1 v2 v3) (Nat.le_trans hW h.size) (fun k hk => by cases hk; exact hB)
def ArX (V : World) (B : Nat) (vs : List (List Value)) : Prop := ∃ cs : Array Value, V.heap[B]? = some (.cells cs 56 (0, 0)) ∧ cs.size = 160 ∧ (∀ k us, vs[k]? = some us → us.length = 4 ∧ ∀ j, j < 4 → cs[k * 4 + j]? = us[j]?) ∧ ∀ q, q < 160 → ∃ v, cs[q]? = some v
theorem zeros123 : Tryd.zeroCells56.size = 160 := by kernel_rfl
theorem ArX.first (V : World) : ArX (V.alloc (.cells Tryd.zeroCells56 56)) V.heap.size [] :=
 ⟨_, heap_alloc_new V _, zeros123, fun k us h => by simp at h, fun q hq => ⟨_, Array.getElem?_eq_getElem (by rw [zeros123]; exact hq)⟩⟩
theorem ArX.keep {V V' : World} {B : Nat} {vs : List (List Value)} (h : ArX V B vs) (he : V'.heap[B]? = V.heap[B]?) : ArX V' B vs := by
 obtain ⟨cs, h1, h2⟩ := h
 exact ⟨cs, he.trans h1, h2⟩
theorem ArX.lt {V : World} {B : Nat} {vs : List (List Value)} (h : ArX V B vs) : B < V.heap.size := by
 obtain ⟨cs, h1, _⟩ := h
 exact (Array.getElem?_eq_some_iff.1 h1).1
theorem ArX.cell {V : World} {B : Nat} {vs : List (List Value)} (h : ArX V B vs) {q : Nat} (hq : q < 160) : (∃ v, V.cell? ⟨B, q, none⟩ = some v) ∧ V.frozen? ⟨B, q, none⟩ = false := by
 obtain ⟨cs, h1, _, _, h4⟩ := h
 obtain ⟨v, hv⟩ := h4 q hq
 exact ⟨⟨v, by rw [cell_of_row V B q _ _ _ h1]; exact hv⟩, Lib.frozen_of_heap h1 q⟩
theorem ArX.put {V : World} {B : Nat} {vs : List (List Value)} (h : ArX V B vs) (hl : vs.length < 40) (v0 v1 v2 v3 : Value) : ArX (F4 V B (vs.length * 4) v0 v1 v2 v3) B (vs ++ [[v0, v1, v2, v3]]) := by
 obtain ⟨cs, h1, h2, h3, h4⟩ := h
 refine ⟨_, f4_heap _ _ _ _ _ h1, by rw [a4_size, h2], fun k us hk => ?_, fun q hq => ?_⟩
 ·rcases Nat.lt_or_ge k vs.length with hkl | hkl
  ·rw [List.getElem?_append_left hkl] at hk
   obtain ⟨g1, g2⟩ := h3 k us hk
   refine ⟨g1, fun j hj => ?_⟩
   rw [a4_get _ _ _ _ _ _ (by omega), if_neg (by omega)]
   exact g2 j hj
  ·have hkl2 : k < (vs ++ [[v0, v1, v2, v3]]).length := (List.getElem?_eq_some_iff.1 hk).1
   simp at hkl2
   obtain rfl : k = vs.length := by omega
   simp at hk
   subst hk
   refine ⟨rfl, fun j hj => ?_⟩
   rw [a4_get _ _ _ _ _ _ (by omega), if_pos (by omega)]
   congr 1
   omega
 ·rw [a4_get _ _ _ _ _ _ (by omega)]
  split
  ·rename_i hr
   have : q - vs.length * 4 < 4 := by omega
   exact ⟨_, List.getElem?_eq_getElem (by simpa using this)⟩
  ·exact h4 q hq
theorem ArX.row {V : World} {B D : Nat} {vs : List (List Value)} {xs : List (Nd × Bool)} (h : ArX V B vs) (hl : vs.length = xs.length) (hx : ∀ k (hk : k < xs.length), ∃ u0 u1 u2, vs[k]? = some [u0, u1, u2, .bool xs[k].2] ∧ InV V.heap.size V D xs[k].1 [u0, u1, u2]) : XRow V.heap.size V D (some ⟨B, 0, none⟩) xs := by
 obtain ⟨cs, h1, h2, h3, _⟩ := h
 intro _
 refine ⟨B, 0, rfl, fun k hk => ?_⟩
 obtain ⟨u0, u1, u2, g1, g2⟩ := hx k hk
 obtain ⟨_, g3⟩ := h3 k _ g1
 refine ⟨[u0, u1, u2], g2, fun j v hv => ?_, ?_⟩
 ·have hj : j < 3 := by have := (List.getElem?_eq_some_iff.1 hv).1; simpa using this
  rw [show 0 + k * 4 + j = k * 4 + j by omega, cell_of_row V B _ _ _ _ h1, g3 j (by omega)]
  match j, hv with
  | 0, hv => exact hv
  | 1, hv => exact hv
  | 2, hv => exact hv
  | (j + 3), hv => simp at hv
 ·rw [show 0 + k * 4 + 3 = k * 4 + 3 by omega, cell_of_row V B _ _ _ _ h1, g3 3 (by omega)]
  rfl
end Go.Proofs.YtcafffohnokjgaaDoor

/- The walk of Run. -/
namespace Go.Proofs.YtcafffohnokjgaaDoor
open Go.RowKit Go.Shelf Go.Maps
set_option linter.unusedVariables false
set_option linter.unusedSimpArgs false

theorem MchAt.later {w w' : World} {bm K : Nat} {nx : List (List Nat)} {ou : List Nat} (h : MchAt w bm K nx ou) (hb : Below w.heap.size w w') : MchAt w' bm K nx ou := by
 obtain ⟨na, nc, oa, oc, h1, h2, h3, h4⟩ := h
 refine ⟨na, nc, oa, oc, (hb.block bm (Array.getElem?_eq_some_iff.1 h1).1).trans h1, fun hp => ?_, h3.later hb, h4⟩
 obtain ⟨b, off, e, hk⟩ := h2 hp
 refine ⟨b, off, e, fun i hi => ?_⟩
 obtain ⟨ra, rc, k1, k2⟩ := hk i hi
 exact ⟨ra, rc, upC hb k1, k2.later hb⟩
theorem make_uc (n : Nat) (hn : n ≤ 100000) (W : World) : (Instr.makeSlice 81 (.int .i64 0) (.int .i64 ((n : Int) + 1))).run Tryd.prog W = .ok (.slice (some ⟨W.heap.size, 0, none⟩) 0 (n + 1)) (W.alloc (.cells (uv (List.replicate (n + 1) 0)).toArray 58)) := by
 obtain ⟨i0, hi, hz0, hz1, hz2⟩ := info_parts info_u64
 have := run_make (P := Tryd.prog) W 81 58 i0 _ Tryd.underlying81 hi hz0 .i64 .i64 (0 : Int) ((n : Int) + 1) (by omega) (by omega) (by rw [hz2]; omega) (by omega)
 rw [show ((n : Int) + 1).toNat = n + 1 by omega, hz1, made_u] at this
 exact this
def runO (nx : List (List Nat)) (ou : List Nat) (rs : List Nat) (k : Nat) : List Nat := (List.range k).map (fun i => ou.getD (runM nx 0 (rs.take i)) 0)
theorem runO_snoc (nx : List (List Nat)) (ou rs : List Nat) (k : Nat) : runO nx ou rs (k + 1) = runO nx ou rs k ++ [ou.getD (runM nx 0 (rs.take k)) 0] := by simp [runO, List.range_succ]
def Cls (K : Nat) (row : List Int) : Prop := ∀ c, c ∈ row → 0 ≤ c ∧ c < (K : Int)
def RunP (K : Nat) (nx : List (List Nat)) (ou : List Nat) (row : List Int) (w : World) (e : Ending) (w' : World) : Prop :=
 Below w.heap.size w w' ∧ ((¬ Cls K row ∧ e = .returned (.tuple #[.slice none 0 0, .int .i64 1])) ∨ (Cls K row ∧ ∃ g cap, e = .returned (.tuple #[.slice (some ⟨g, 0, none⟩) (row.length + 1) cap, .int .i64 0]) ∧ w'.ownsRow w.heap.size 58 1 (.slice (some ⟨g, 0, none⟩) (row.length + 1) cap) (row.length + 1) (uv (runO nx ou (row.map Int.toNat) (row.length + 1)))))
set_option maxRecDepth 100000 in
set_option maxHeartbeats 8000000 in
theorem run_any (w : World) (bm K : Nat) (nx : List (List Nat)) (ou : List Nat) (row : List Int) (a : Option Addr) (cp : Nat) (h : MchAt w bm K nx ou) (hA : AsMet nx) (hW : Wide K nx) (hlo : ou.length = nx.length) (hr : Rd .i64 w a row.length row) (hl : row.length ≤ 1000) :
 Calls Tryd.prog 40 #[.pointer (some ⟨bm, 0, none⟩), .slice a row.length cp] w (RunP K nx ou row w) := by
 obtain ⟨n, hn⟩ : ∃ n, n = row.length := ⟨_, rfl⟩
 have HN : Hid (n = row.length) := hn
 have hni : (n : Int) ≤ 1000 := by omega
 have HMA : Hid (MchAt w bm K nx ou) := h
 have HFA : Hid (AsMet nx ∧ Wide K nx ∧ ou.length = nx.length ∧ 0 < nx.length) := ⟨hA, hW, hlo, asMet_pos hA⟩
 have HRD : Hid (Rd .i64 w a n row) := by rw [hn]; exact hr
 have hmk := make_uc n (by omega)
 have HRE : Hid (∀ (V : World) (c : Int), Below w.heap.size w V → Calls Tryd.prog 62 #[.pointer (some ⟨bm, 0, none⟩), .int .i64 c] V fun e w' => e = .returned (.bool (decide (0 ≤ c) && decide (c < (K : Int)))) ∧ w' = V) := fun V c hV => reads_any V bm K nx ou c (h.later hV)
 have HFI : Hid (∀ (V : World) (s : Nat), s < nx.length → Below w.heap.size w V → Calls Tryd.prog 63 #[.pointer (some ⟨bm, 0, none⟩), .int .i64 (s : Int)] V fun e w' => e = .returned (.int .u64 (ou.getD s 0 : Nat)) ∧ w' = V) := fun V s hs hV => fit_any V bm K nx ou s (h.later hV) (by rw [hlo]; exact hs)
 have HST : Hid (∀ (V : World) (s c : Nat), s < nx.length → c < K → Below w.heap.size w V → Calls Tryd.prog 64 #[.pointer (some ⟨bm, 0, none⟩), .int .i64 (s : Int), .int .i64 (c : Int)] V fun e w' => e = .returned (.int .i64 (nxt nx s c : Nat)) ∧ w' = V) := fun V s c hs hc hV => step_mch V bm K nx ou s c (h.later hV) hs hc (by rw [show nx.getD s [] = nx[s] by simp [List.getD_eq_getElem?_getD, hs]]; exact hW _ (List.getElem_mem hs))
 obtain ⟨i0, ji, jz0, jz1, jz2⟩ := info_parts info_u64
 have HJ : Hid (Tryd.prog.info? 58 = some i0 ∧ i0.zero = some (.int .u64 0) ∧ i0.size = 1 ∧ i0.bytes = 8) := ⟨ji, jz0, jz1, jz2⟩
 rw [← hn]
 clear h hA hW hlo hr hl hn ji jz0 jz1 jz2
 go_enter Tryd.func40, Tryd.ntmps40
 go_wp2_with fail
 go_loopw [14] (fun x14 wr => ∃ k : Nat, k ≤ n ∧ x14 = .int .i64 (k : Int) ∧ wr = w ∧ Cls K (row.take k)) (fun x14 _ => n - (intOf x14).toNat)
 case atStart => exact ⟨0, by omega, rfl, rfl, fun c hc => by simp at hc⟩
 case round =>
  obtain ⟨k, hk, hx14, hwr, hcl⟩ := hrel
  subst hx14
  obtain rfl : w = wr := hwr.symm
  have HCL : Hid (Cls K (row.take k)) := hcl
  clear hcl
  by_cases hlt : k < n
  ·have hkr : k < row.length := by rw [← HN.out]; exact hlt
   obtain ⟨b, off, rfl, hc⟩ := HRD.out.2 (by omega)
   have a0 := hc k hlt
   obtain ⟨X, hX⟩ : ∃ X, X = row[k] := ⟨_, rfl⟩
   rw [show row.getD k 0 = X by rw [hX]; simp [List.getD_eq_getElem?_getD, hkr]] at a0
   have HX : Hid (X = row[k]) := hX
   clear hX hc
   have HC := HRE.out w X (Below.refl _ _)
   by_cases hg : 0 ≤ X ∧ X < (K : Int)
   ·rw [show (decide (0 ≤ X) && decide (X < (K : Int))) = true by simp [hg]] at HC
    have HCC : Hid (Calls Tryd.prog 62 #[.pointer (some ⟨bm, 0, none⟩), .int .i64 X] w fun e w' => e = .returned (.bool true) ∧ w' = w) := HC
    have HCL2 : Hid (Cls K (row.take (k + 1))) := by
     intro c hc
     rw [take_snoc row k hkr] at hc
     rcases List.mem_append.1 hc with hc | hc
     ·exact HCL.out c hc
     ·rw [List.mem_singleton.1 hc, ← HX.out]; exact hg
    clear HC hg
    go_wp2_with fail
    refine HCC.out.mono ?_
    rintro e w1 ⟨rfl, hw1⟩
    subst hw1
    go_wp2_with fail
    go_roundw
    case rel => exact ⟨k + 1, by omega, by go_num, trivial, HCL2.out⟩
    case measure => simp [intOf]; omega
   ·rw [show (decide (0 ≤ X) && decide (X < (K : Int))) = false by simp; omega] at HC
    have HCC : Hid (Calls Tryd.prog 62 #[.pointer (some ⟨bm, 0, none⟩), .int .i64 X] w fun e w' => e = .returned (.bool false) ∧ w' = w) := HC
    have HF : Hid (¬ Cls K row) := fun hh => hg (by rw [HX.out]; exact hh _ (List.getElem_mem hkr))
    clear HC hg
    go_wp2_with fail
    refine HCC.out.mono ?_
    rintro e w1 ⟨rfl, hw1⟩
    subst hw1
    go_wp2_with fail
    go_ret2
    exact ⟨Below.refl _ _, .inl ⟨HF.out, rfl⟩⟩
  ·obtain rfl : k = n := by omega
   have HALL : Hid (Cls K row) := by
    have := HCL.out
    rw [List.take_of_length_le (by rw [← HN.out]; exact Nat.le_refl _)] at this
    exact this
   clear HCL
   obtain ⟨rs, hrs⟩ : ∃ rs, rs = row.map Int.toNat := ⟨_, rfl⟩
   have HRS : Hid (rs = row.map Int.toNat ∧ rs.length = k) := ⟨hrs, by rw [hrs, List.length_map, HN.out]⟩
   clear hrs
   obtain ⟨w1, hw1⟩ : ∃ w1, w1 = w.alloc (.cells (uv (List.replicate (k + 1) 0)).toArray 58) := ⟨_, rfl⟩
   obtain ⟨G, hG⟩ : ∃ G, G = w.heap.size := ⟨_, rfl⟩
   have HB1 : Hid (Below w.heap.size w w1) := by rw [hw1]; exact (Below.refl _ w).alloc (Nat.le_refl _) _
   have HO1 : Hid (w1.ownsRow w.heap.size 58 1 (.slice (some ⟨G, 0, none⟩) 0 (k + 1)) 0 (uv [])) := by
    refine ⟨rfl, .inr ⟨G, k + 1, (uv (List.replicate (k + 1) 0)).toArray, rfl, by omega, by rw [hw1, hG]; exact heap_alloc_new w _, by omega, ?_, by simp [uv], by simp [uv]⟩⟩
    all_goals (first | omega | (unfold maxLen; omega))
   obtain ⟨Y, hY⟩ : ∃ Y, Y = ou.getD 0 0 := ⟨_, rfl⟩
   have HY : Hid (Y = ou.getD 0 0) := hY
   have HC : Hid (Calls Tryd.prog 63 #[.pointer (some ⟨bm, 0, none⟩), .int .i64 0] w1 fun e w' => e = .returned (.int .u64 (Y : Int)) ∧ w' = w1) := by rw [hY]; exact HFI.out w1 0 HFA.out.2.2.2 HB1.out
   clear hY
   go_upto_region 9 with fail
   rw [← hG, ← hw1]
   clear hG hw1 hmk
   go_wp2_with fail
   refine HC.out.mono ?_
   rintro e w1' ⟨rfl, hw1'⟩
   subst hw1'
   go_upto_region 10 with (at_builtin; refine wpList_append_lies _ rfl _ _ 81 rfl w.heap.size 58 i0 _ 1 8 Tryd.underlying81 HJ.out.1 HJ.out.2.1 HJ.out.2.2.1 HJ.out.2.2.2 rfl (by decide) (.slice (some ⟨G, 0, none⟩) 0 (k + 1)) (0) (uv []) rfl (own_later5 HO1.out ((Below.refl _ w1').alloc (Nat.le_refl _) _)) ⟨w1'.heap.size, 0, none⟩ 1 1 [.int .u64 (Y : Int)] rfl rfl (World.news_of_block (cs := #[.int .u64 (Y : Int)]) (t := 58) (fr := (0, 0)) (heap_alloc_new w1' _)) (by simp [Value.oneCell']) (by omega) (by unfold maxLen; omega) (by omega) (by have := HB1.out.size; simp; omega) _ rfl (fun g2 cap2 w2 q1 q2 q3 q4 => ?_); have HF2 : Hid (w2.ownsRow w.heap.size 58 1 (.slice (some ⟨g2, 0, none⟩) (0 + 1) cap2) (0 + 1) (uv [] ++ [.int .u64 (Y : Int)]) ∧ Below w.heap.size w w2) := ⟨q1, (HB1.out.alloc HB1.out.size _).grown q2 (Nat.le_trans HB1.out.size (by simp)) (fun k e => (own_lt HO1.out e).1)⟩; clear q1 q2 q3 q4)
   have HO2 : Hid (w2.ownsRow w.heap.size 58 1 (.slice (some ⟨g2, 0, none⟩) (0 + 1) cap2) (0 + 1) (uv (runO nx ou rs (0 + 1)))) := by
    have h1 := HF2.out.1
    rw [HY.out] at h1
    rw [runO_snoc]
    exact h1
   have HB2 : Hid (Below w.heap.size w w2) := HF2.out.2
   clear HF2 HC
   go_wp2_with fail
   go_loopw [8, 9, 35] (fun x8 x9 x35 wz => ∃ j s g cap : Nat, j ≤ k ∧ x35 = .int .i64 (j : Int) ∧ x8 = .int .i64 (s : Int) ∧ s = runM nx 0 (rs.take j) ∧ x9 = .slice (some ⟨g, 0, none⟩) (j + 1) cap ∧ wz.ownsRow w.heap.size 58 1 (.slice (some ⟨g, 0, none⟩) (j + 1) cap) (j + 1) (uv (runO nx ou rs (j + 1))) ∧ Below w.heap.size w wz) (fun _ _ x35 _ => k - (intOf x35).toNat)
   case atStart => exact ⟨0, 0, g2, cap2, by omega, rfl, rfl, rfl, rfl, HO2.out, HB2.out⟩
   case round =>
    obtain ⟨j, s, g, cap, hj, hx35, hx8, hs, hx9, ho, hb⟩ := hrel
    subst hx35 hx8 hx9
    have HS : Hid (s = runM nx 0 (rs.take j) ∧ s < nx.length) := ⟨hs, by rw [hs]; exact runM_lt HFA.out.1 HFA.out.2.2.2 _ _ HFA.out.2.2.2⟩
    have HO : Hid (wr.ownsRow w.heap.size 58 1 (.slice (some ⟨g, 0, none⟩) (j + 1) cap) (j + 1) (uv (runO nx ou rs (j + 1)))) := ho
    have HB : Hid (Below w.heap.size w wr) := hb
    clear hs ho hb HO2 HB2
    by_cases hlt2 : j < k
    ·have hjr : j < row.length := by rw [← HN.out]; exact hlt2
     obtain ⟨b, off, rfl, hc⟩ := HRD.out.2 (by omega)
     have a0 := upC HB.out (hc j hlt2)
     have hX := HALL.out row[j] (List.getElem_mem hjr)
     obtain ⟨c, hcX⟩ : ∃ c : Nat, row[j] = (c : Int) := ⟨row[j].toNat, by omega⟩
     rw [show row.getD j 0 = (c : Int) by rw [← hcX]; simp [List.getD_eq_getElem?_getD, hjr]] at a0
     have hcK : c < K := by rw [hcX] at hX; omega
     have hrj : rs[j]? = some c := by rw [HRS.out.1, List.getElem?_map, List.getElem?_eq_getElem hjr, hcX]; simp
     have HCS : Hid (Calls Tryd.prog 64 #[.pointer (some ⟨bm, 0, none⟩), .int .i64 (s : Int), .int .i64 (c : Int)] wr fun e w' => e = .returned (.int .i64 (nxt nx s c : Nat)) ∧ w' = wr) := HST.out wr s c HS.out.2 hcK HB.out
     obtain ⟨t, ht⟩ : ∃ t, t = nxt nx s c := ⟨_, rfl⟩
     rw [← ht] at HCS
     have HTT : Hid (t = runM nx 0 (rs.take (j + 1)) ∧ t < nx.length) := by
      have hjl : j < rs.length := by rw [HRS.out.2]; exact hlt2
      have h1 : t = runM nx 0 (rs.take (j + 1)) := by
       rw [take_snoc rs j hjl, runM_app, ← HS.out.1, ht, show rs[j] = c by rw [List.getElem?_eq_getElem hjl] at hrj; exact Option.some.inj hrj]
       rfl
      exact ⟨h1, by rw [h1]; exact runM_lt HFA.out.1 HFA.out.2.2.2 _ _ HFA.out.2.2.2⟩
     obtain ⟨Y, hY⟩ : ∃ Y, Y = ou.getD t 0 := ⟨_, rfl⟩
     have HY : Hid (Y = ou.getD t 0) := hY
     have HCF : Hid (Calls Tryd.prog 63 #[.pointer (some ⟨bm, 0, none⟩), .int .i64 (t : Int)] wr fun e w' => e = .returned (.int .u64 (Y : Int)) ∧ w' = wr) := by rw [hY]; exact HFI.out wr t HTT.out.2 HB.out
     clear hc hX hcX hcK hrj ht hY
     go_wp2_with fail
     refine HCS.out.mono ?_
     rintro e w3 ⟨rfl, hw3⟩
     obtain rfl : wr = w3 := hw3.symm
     go_wp2_with fail
     refine HCF.out.mono ?_
     rintro e w3 ⟨rfl, hw3⟩
     obtain rfl : wr = w3 := hw3.symm
     clear HCS HCF a0
     obtain ⟨R1, hR1⟩ : ∃ R1, R1 = runO nx ou rs (j + 1) := ⟨_, rfl⟩
     have HR1 : Hid (R1 = runO nx ou rs (j + 1)) := hR1
     obtain ⟨q, hq⟩ : ∃ q, q = j + 1 := ⟨_, rfl⟩
     have HQ : Hid (q = j + 1) := hq
     have hqk : q ≤ k := by omega
     rw [← hR1, ← hq] at HO
     rw [← hq]
     clear hR1 hq
     go_wp2_with (at_builtin; refine wpList_append_lies _ rfl _ _ 81 rfl w.heap.size 58 i0 _ 1 8 Tryd.underlying81 HJ.out.1 HJ.out.2.1 HJ.out.2.2.1 HJ.out.2.2.2 rfl (by decide) (.slice (some ⟨g, 0, none⟩) q cap) q (uv R1) rfl (own_later5 HO.out ((Below.refl _ wr).alloc (Nat.le_refl _) _)) ⟨wr.heap.size, 0, none⟩ 1 1 [.int .u64 (Y : Int)] rfl rfl (World.news_of_block (cs := #[.int .u64 (Y : Int)]) (t := 58) (fr := (0, 0)) (heap_alloc_new wr _)) (by simp [Value.oneCell']) (by omega) (by unfold maxLen; omega) (by omega) (by have := HB.out.size; simp; omega) _ rfl (fun g5 cap5 w5 q1 q2 q3 q4 => ?_); have HF5 : Hid (w5.ownsRow w.heap.size 58 1 (.slice (some ⟨g5, 0, none⟩) (q + 1) cap5) (q + 1) (uv R1 ++ [.int .u64 (Y : Int)]) ∧ Below w.heap.size w w5) := ⟨q1, (HB.out.alloc HB.out.size _).grown q2 (Nat.le_trans HB.out.size (by simp)) (fun k e => (own_lt HO.out e).1)⟩; clear q1 q2 q3 q4)
     have HOF : Hid (w5.ownsRow w.heap.size 58 1 (.slice (some ⟨g5, 0, none⟩) (j + 1 + 1) cap5) (j + 1 + 1) (uv (runO nx ou rs (j + 1 + 1))) ∧ Below w.heap.size w w5) := by
      obtain ⟨h1, h2⟩ := HF5.out
      rw [HR1.out, HQ.out, HY.out, HTT.out.1] at h1
      rw [runO_snoc nx ou rs (j + 1)]
      exact ⟨by simpa [uv] using h1, h2⟩
     clear HF5
     go_roundw
     case rel => exact ⟨j + 1, t, g5, cap5, by omega, by go_num, rfl, HTT.out.1, by rw [HQ.out], HOF.out⟩
     case measure => simp [intOf]; omega
    ·obtain rfl : j = k := by omega
     have HOF : Hid (wr.ownsRow w.heap.size 58 1 (.slice (some ⟨g, 0, none⟩) (row.length + 1) cap) (row.length + 1) (uv (runO nx ou (row.map Int.toNat) (row.length + 1)))) := by
      have h1 := HO.out
      rw [HRS.out.1, HN.out] at h1
      exact h1
     go_wp2_with fail
     go_ret2
     refine ⟨HB.out, .inr ⟨HALL.out, g, cap, ?_, HOF.out⟩⟩
     rw [← HN.out]
     rfl
end Go.Proofs.YtcafffohnokjgaaDoor

/- What Compile has in memory while it goes through the rules. -/
namespace Go.Proofs.YtcafffohnokjgaaDoor
open Go.RowKit
set_option linter.unusedVariables false
set_option linter.unusedSimpArgs false

def CmT (w : World) (D : Nat) (l : List Rl) (bx : Array Value) (kL kR : Nat) (br : Int) (pA pB : Option Addr) (wr : World) : Prop :=
 Below w.heap.size w wr ∧ w.heap.size + 4 ≤ wr.heap.size ∧ wr.heap[w.heap.size]? = some (.cells bx 25) ∧
  wr.heap[w.heap.size + 3]? = some (.cells #[.pointer pA, .pointer pB, .int .u64 br, .int .i64 (l.length : Int)] 60) ∧
  (∃ vs, vs.length = kL ∧ ArX wr (w.heap.size + 1) vs ∧ ∀ i (hi : i < l.length), i < kL → ∃ u0 u1 u2, vs[i]? = some [u0, u1, u2, .bool l[i].start] ∧ InV w.heap.size w D l[i].left [u0, u1, u2]) ∧
  ∃ vs, vs.length = kR ∧ ArX wr (w.heap.size + 2) vs ∧ ∀ i (hi : i < l.length), i < kR → ∃ u0 u1 u2, vs[i]? = some [u0, u1, u2, .bool false] ∧ NwV (w.heap.size + 4) wr 32 l[i].right.rev [u0, u1, u2]
theorem CmT.later {w wr wr' : World} {D : Nat} {l : List Rl} {bx : Array Value} {kL kR : Nat} {br : Int} {pA pB : Option Addr} (h : CmT w D l bx kL kR br pA pB wr) (hb : Below wr.heap.size wr wr') : CmT w D l bx kL kR br pA pB wr' := by
 obtain ⟨h1, h2, h3, h4, ⟨vs, a1, a2, a3⟩, us, b1, b2, b3⟩ := h
 refine ⟨h1.trans (hb.mono h1.size), Nat.le_trans h2 hb.size, (hb.block _ (by omega)).trans h3, (hb.block _ (by omega)).trans h4, ⟨vs, a1, a2.keep (hb.block _ (by omega)), a3⟩, us, b1, b2.keep (hb.block _ (by omega)), fun i hi hk => ?_⟩
 obtain ⟨u0, u1, u2, e1, e2⟩ := b3 i hi hk
 exact ⟨u0, u1, u2, e1, e2.later hb 32⟩
def CmS (w : World) (D : Nat) (l : List Rl) (bx : Array Value) (kL kR : Nat) (br : Int) (wr : World) : Prop := CmT w D l bx kL kR br none none wr
theorem CmS.later {w wr wr' : World} {D : Nat} {l : List Rl} {bx : Array Value} {kL kR : Nat} {br : Int} (h : CmS w D l bx kL kR br wr) (hb : Below wr.heap.size wr wr') : CmS w D l bx kL kR br wr' := CmT.later h hb
theorem CmS.putL {w wr : World} {D : Nat} {l : List Rl} {bx : Array Value} {k kR : Nat} {br : Int} (h : CmS w D l bx k kR br wr) (hk : k < l.length) (h40 : k < 40) {u0 u1 u2 : Value} {b : Bool} (hb : b = l[k].start) (hin : InV w.heap.size w D l[k].left [u0, u1, u2]) :
 CmS w D l bx (k + 1) kR br (F4 wr (w.heap.size + 1) (k * 4) u0 u1 u2 (.bool b)) := by
 obtain ⟨h1, h2, h3, h4, ⟨vs, a1, a2, a3⟩, us, b1, b2, b3⟩ := h
 have hg := f4_grown wr (w.heap.size + 1) (k * 4) u0 u1 u2 (.bool b)
 refine ⟨f4_below h1 (Nat.le_refl _) (by omega) _ _ _ _ _, Nat.le_trans h2 hg.size, (hg.block _ (by omega) (fun e => by simp at e)).trans h3, (hg.block _ (by omega) (fun e => by simp at e)).trans h4, ⟨vs ++ [[u0, u1, u2, .bool b]], by simp [a1], ?_, fun i hi hik => ?_⟩, us, b1, b2.keep (hg.block _ (by omega) (fun e => by simp at e)), fun i hi hk => ?_⟩
 ·have := a2.put (by omega) u0 u1 u2 (.bool b)
  rw [a1] at this
  exact this
 ·rcases Nat.lt_or_ge i k with hl | hl
  ·obtain ⟨x0, x1, x2, e1, e2⟩ := a3 i hi hl
   exact ⟨x0, x1, x2, by rw [List.getElem?_append_left (by omega)]; exact e1, e2⟩
  ·obtain rfl : i = k := by omega
   refine ⟨u0, u1, u2, ?_, hin⟩
   rw [List.getElem?_append_right (by omega), a1, hb]
   simp
 ·obtain ⟨u0, u1, u2, e1, e2⟩ := b3 i hi hk
  exact ⟨u0, u1, u2, e1, e2.grown hg (fun g e => by cases e; omega) 32⟩
theorem CmS.putR {w wr : World} {D : Nat} {l : List Rl} {bx : Array Value} {k kL : Nat} {br : Int} (h : CmS w D l bx kL k br wr) (hk : k < l.length) (h40 : k < 40) {u0 u1 u2 : Value} (hin : NwV (w.heap.size + 4) wr 32 l[k].right.rev [u0, u1, u2]) :
 CmS w D l bx kL (k + 1) br (F4 wr (w.heap.size + 2) (k * 4) u0 u1 u2 (.bool false)) := by
 obtain ⟨h1, h2, h3, h4, ⟨vs, a1, a2, a3⟩, us, b1, b2, b3⟩ := h
 have hg := f4_grown wr (w.heap.size + 2) (k * 4) u0 u1 u2 (.bool false)
 refine ⟨f4_below h1 (Nat.le_refl _) (by omega) _ _ _ _ _, Nat.le_trans h2 hg.size, (hg.block _ (by omega) (fun e => by simp at e)).trans h3, (hg.block _ (by omega) (fun e => by simp at e)).trans h4, ⟨vs, a1, a2.keep (hg.block _ (by omega) (fun e => by simp at e)), a3⟩, us ++ [[u0, u1, u2, .bool false]], by simp [b1], ?_, fun i hi hik => ?_⟩
 ·have := b2.put (by omega) u0 u1 u2 (.bool false)
  rw [b1] at this
  exact this
 ·rcases Nat.lt_or_ge i k with hl | hl
  ·obtain ⟨x0, x1, x2, e1, e2⟩ := b3 i hi hl
   exact ⟨x0, x1, x2, by rw [List.getElem?_append_left (by omega)]; exact e1, e2.grown hg (fun g e => by cases e; omega) 32⟩
  ·obtain rfl : i = k := by omega
   refine ⟨u0, u1, u2, ?_, hin.grown hg (fun g e => by cases e; omega) 32⟩
   rw [List.getElem?_append_right (by omega), b1]
   simp
theorem CmS.putB {w wr : World} {D : Nat} {l : List Rl} {bx : Array Value} {kL kR : Nat} {br : Int} (h : CmS w D l bx kL kR br wr) (br' : Int) : CmS w D l bx kL kR br' (wr.setCell ⟨w.heap.size + 3, 2, none⟩ (.int .u64 br')) := by
 obtain ⟨h1, h2, h3, h4, ⟨vs, a1, a2, a3⟩, us, b1, b2, b3⟩ := h
 have hg := grown_cell wr (w.heap.size + 3) 2 (.int .u64 br')
 refine ⟨h1.grown hg (by omega) (fun k e => by cases e; omega), Nat.le_trans h2 hg.size, (hg.block _ (by omega) (fun e => by simp at e)).trans h3, heap_setCell_same _ _ 2 _ _ _ h4, ⟨vs, a1, a2.keep (hg.block _ (by omega) (fun e => by simp at e)), a3⟩, us, b1, b2.keep (hg.block _ (by omega) (fun e => by simp at e)), fun i hi hk => ?_⟩
 obtain ⟨u0, u1, u2, e1, e2⟩ := b3 i hi hk
 exact ⟨u0, u1, u2, e1, e2.grown hg (fun g e => by cases e; omega) 32⟩
theorem CmS.tab {w wr : World} {D : Nat} {l : List Rl} {bx : Array Value} {kL kR : Nat} {br : Int} (h : CmS w D l bx kL kR br wr) :
 (wr.cell? ⟨w.heap.size + 3, 0, none⟩ = some (.pointer none) ∧ wr.cell? ⟨w.heap.size + 3, 1, none⟩ = some (.pointer none) ∧ wr.cell? ⟨w.heap.size + 3, 2, none⟩ = some (.int .u64 br) ∧ wr.cell? ⟨w.heap.size + 3, 3, none⟩ = some (.int .i64 (l.length : Int))) ∧
 (wr.frozen? ⟨w.heap.size + 3, 0, none⟩ = false ∧ wr.frozen? ⟨w.heap.size + 3, 1, none⟩ = false ∧ wr.frozen? ⟨w.heap.size + 3, 2, none⟩ = false) :=
 ⟨⟨cell_of_row _ _ 0 _ _ _ h.2.2.2.1, cell_of_row _ _ 1 _ _ _ h.2.2.2.1, cell_of_row _ _ 2 _ _ _ h.2.2.2.1, cell_of_row _ _ 3 _ _ _ h.2.2.2.1⟩, Lib.frozen_of_heap h.2.2.2.1 0, Lib.frozen_of_heap h.2.2.2.1 1, Lib.frozen_of_heap h.2.2.2.1 2⟩
theorem CmS.arL {w wr : World} {D : Nat} {l : List Rl} {bx : Array Value} {kL kR : Nat} {br : Int} (h : CmS w D l bx kL kR br wr) {q : Nat} (hq : q < 160) : (∃ v, wr.cell? ⟨w.heap.size + 1, q, none⟩ = some v) ∧ wr.frozen? ⟨w.heap.size + 1, q, none⟩ = false := by
 obtain ⟨_, _, _, _, ⟨vs, a1, a2, a3⟩, _⟩ := h
 exact a2.cell hq
theorem CmS.arR {w wr : World} {D : Nat} {l : List Rl} {bx : Array Value} {kL kR : Nat} {br : Int} (h : CmS w D l bx kL kR br wr) {q : Nat} (hq : q < 160) : (∃ v, wr.cell? ⟨w.heap.size + 2, q, none⟩ = some v) ∧ wr.frozen? ⟨w.heap.size + 2, q, none⟩ = false := by
 obtain ⟨_, _, _, _, _, us, a1, a2, a3⟩ := h
 exact a2.cell hq
theorem CmT.lefts {w wr : World} {D : Nat} {l : List Rl} {bx : Array Value} {kR : Nat} {br : Int} {pA pB : Option Addr} (h : CmT w D l bx l.length kR br pA pB wr) : XRow wr.heap.size wr D (some ⟨w.heap.size + 1, 0, none⟩) (l.map fun r => (r.left, r.start)) := by
 obtain ⟨h1, h2, h3, h4, ⟨vs, a1, a2, a3⟩, us, b1, b2, b3⟩ := h
 refine a2.row (by simp [a1]) fun k hk => ?_
 obtain ⟨u0, u1, u2, e1, e2⟩ := a3 k (by simpa using hk) (by simpa using hk)
 exact ⟨u0, u1, u2, by simpa using e1, by simpa using (e2.later h1 D).base h1.size D⟩
theorem CmT.rights {w wr : World} {D : Nat} {l : List Rl} {bx : Array Value} {kL : Nat} {br : Int} {pA pB : Option Addr} (h : CmT w D l bx kL l.length br pA pB wr) : XRow wr.heap.size wr 32 (some ⟨w.heap.size + 2, 0, none⟩) (l.map fun r => (r.right.rev, false)) := by
 obtain ⟨h1, h2, h3, h4, ⟨vs, a1, a2, a3⟩, us, b1, b2, b3⟩ := h
 refine b2.row (by simp [b1]) fun k hk => ?_
 obtain ⟨u0, u1, u2, e1, e2⟩ := b3 k (by simpa using hk) (by simpa using hk)
 exact ⟨u0, u1, u2, by simpa using e1, by simpa using e2.in⟩
theorem CmT.put {w wr : World} {D : Nat} {l : List Rl} {bx : Array Value} {kL kR : Nat} {br : Int} {pA pB : Option Addr} (h : CmT w D l bx kL kR br pA pB wr) (p : Option Addr) : CmT w D l bx kL kR br p pB (wr.setCell ⟨w.heap.size + 3, 0, none⟩ (.pointer p)) ∧ CmT w D l bx kL kR br pA p (wr.setCell ⟨w.heap.size + 3, 1, none⟩ (.pointer p)) := by
 obtain ⟨h1, h2, h3, h4, ⟨vs, a1, a2, a3⟩, us, b1, b2, b3⟩ := h
 have all : ∀ (j : Nat) (qA qB : Option Addr), (wr.setCell ⟨w.heap.size + 3, j, none⟩ (.pointer p)).heap[w.heap.size + 3]? = some (.cells #[.pointer qA, .pointer qB, .int .u64 br, .int .i64 (l.length : Int)] 60) → CmT w D l bx kL kR br qA qB (wr.setCell ⟨w.heap.size + 3, j, none⟩ (.pointer p)) := by
  intro j qA qB hh
  have hg := grown_cell wr (w.heap.size + 3) j (.pointer p)
  refine ⟨h1.grown hg (by omega) (fun k e => by cases e; omega), Nat.le_trans h2 hg.size, (hg.block _ (by omega) (fun e => by simp at e)).trans h3, hh, ⟨vs, a1, a2.keep (hg.block _ (by omega) (fun e => by simp at e)), a3⟩, us, b1, b2.keep (hg.block _ (by omega) (fun e => by simp at e)), fun i hi hk => ?_⟩
  obtain ⟨u0, u1, u2, e1, e2⟩ := b3 i hi hk
  exact ⟨u0, u1, u2, e1, e2.grown hg (fun g e => by cases e; omega) 32⟩
 exact ⟨all 0 p pB (heap_setCell_same _ _ 0 _ _ _ h4), all 1 pA p (heap_setCell_same _ _ 1 _ _ _ h4)⟩
theorem CmT.cells {w wr : World} {D : Nat} {l : List Rl} {c0 c1 : Value} {kL kR : Nat} {br : Int} {pA pB : Option Addr} (h : CmT w D l #[c0, c1] kL kR br pA pB wr) :
 wr.cell? ⟨w.heap.size, 0, none⟩ = some c0 ∧ wr.cell? ⟨w.heap.size + 3, 0, none⟩ = some (.pointer pA) ∧ wr.cell? ⟨w.heap.size + 3, 1, none⟩ = some (.pointer pB) ∧ wr.cell? ⟨w.heap.size + 3, 3, none⟩ = some (.int .i64 (l.length : Int)) ∧
 wr.frozen? ⟨w.heap.size + 3, 0, none⟩ = false ∧ wr.frozen? ⟨w.heap.size + 3, 1, none⟩ = false :=
 ⟨cell_of_row _ _ 0 _ _ _ h.2.2.1, cell_of_row _ _ 0 _ _ _ h.2.2.2.1, cell_of_row _ _ 1 _ _ _ h.2.2.2.1, cell_of_row _ _ 3 _ _ _ h.2.2.2.1, Lib.frozen_of_heap h.2.2.2.1 0, Lib.frozen_of_heap h.2.2.2.1 1⟩
theorem cell_past {V : World} {TB j : Nat} {p : Option Addr} {x v : Value} {ad : Addr} (hp : V.cell? ⟨TB, j, none⟩ = some (.pointer p)) (hv : V.cell? ad = some v) (hne : v ≠ .pointer p) : (V.setCell ⟨TB, j, none⟩ x).cell? ad = some v := by
 rw [World.cell?_setCell_other]
 ·exact hv
 ·intro e
  rw [← e, hp] at hv
  exact hne (Option.some.inj hv).symm
theorem MchAt.past {V : World} {TB j bm K : Nat} {p : Option Addr} {x : Value} {cs : Array Value} {nx : List (List Nat)} {ou : List Nat} (h : MchAt V bm K nx ou) (ht : V.heap[TB]? = some (.cells cs 60)) (hp : V.cell? ⟨TB, j, none⟩ = some (.pointer p)) : MchAt (V.setCell ⟨TB, j, none⟩ x) bm K nx ou := by
 obtain ⟨na, nc, oa, oc, h1, h2, h3, h4⟩ := h
 have hg := grown_cell V TB j x
 have rd : ∀ {k : IntKind} {a : Option Addr} {n : Nat} {l : List Int}, Rd k V a n l → Rd k (V.setCell ⟨TB, j, none⟩ x) a n l := fun h => ⟨h.1, fun h0 => by
  obtain ⟨b, off, e, hc⟩ := h.2 h0
  exact ⟨b, off, e, fun i hi => cell_past hp (hc i hi) (by simp)⟩⟩
 refine ⟨na, nc, oa, oc, (hg.block bm (Array.getElem?_eq_some_iff.1 h1).1 (fun e => ?_)).trans h1, fun h0 => ?_, rd h3, h4⟩
 ·cases e
  exact ne_ty h1 ht (by decide) rfl
 ·obtain ⟨b, off, e, hk⟩ := h2 h0
  refine ⟨b, off, e, fun i hi => ?_⟩
  obtain ⟨ra, rc, g1, g2⟩ := hk i hi
  exact ⟨ra, rc, cell_past hp g1 (by simp), rd g2⟩
def BldO (K : Int) (xs : List (Nd × Bool)) (p : Option Addr) (x : Int) (W : World) : Prop :=
 (alwB K xs = false ∧ x = 1 ∧ p = none) ∨ (alwB K xs = true ∧ x = 7 ∧ p = none ∧ BigC K.toNat xs) ∨
  (alwB K xs = true ∧ x = 0 ∧ ∃ la nx ou, p = some ⟨la, 0, none⟩ ∧ MchAt W la K.toNat nx ou ∧ LeastOf K.toNat xs nx ou ∧ nx.length ≤ 400 ∧ ¬ BigC K.toNat xs)
theorem bld_out {K : Int} {xs : List (Nd × Bool)} {w w' : World} {e : Ending} (h : BldP K xs w e w') : Below w.heap.size w w' ∧ ∃ p x, e = .returned (.tuple #[.pointer p, .int .i64 x]) ∧ BldO K xs p x w' := by
 obtain ⟨hb, ⟨h1, rfl⟩ | ⟨h1, ⟨rfl, h2⟩ | ⟨lb, nx, ou, rfl, h2, h3, h4, h5⟩⟩⟩ := h
 ·exact ⟨hb, _, _, rfl, .inl ⟨h1, rfl, rfl⟩⟩
 ·exact ⟨hb, _, _, rfl, .inr (.inl ⟨h1, rfl, rfl, h2.big⟩)⟩
 ·exact ⟨hb, _, _, rfl, .inr (.inr ⟨h1, rfl, lb, nx, ou, rfl, h2, h3, h4, h5⟩)⟩
theorem BldO.up {K : Int} {xs : List (Nd × Bool)} {p : Option Addr} {x : Int} {W W' : World} (h : BldO K xs p x W) (hm : ∀ la nx ou, MchAt W la K.toNat nx ou → MchAt W' la K.toNat nx ou) : BldO K xs p x W' := by
 rcases h with h | h | ⟨h1, h2, la, nx, ou, h3, h4, h5⟩
 ·exact .inl h
 ·exact .inr (.inl h)
 ·exact .inr (.inr ⟨h1, h2, la, nx, ou, h3, hm _ _ _ h4, h5⟩)
end Go.Proofs.YtcafffohnokjgaaDoor

/- A scope in which the run jumps forward, to one of two labels. -/
namespace Go.Proofs.YtcafffohnokjgaaDoor
open Go Go.RowKit

def ExTwo (R0 R1 : Act → World → Prop) (Q : Exit → Act → World → Prop) : Exit → Act → World → Prop
 | .goto 0, a, w => R0 a w
 | .goto 1, a, w => R1 a w
 | .goto (_ + 2), _, _ => False
 | e, a, w => Q e a w
section
variable {P : Program} {a : Act} {w : World} {Q : Exit → Act → World → Prop} {R0 R1 : Act → World → Prop}
theorem wp_scope_two {c r0 r1 : Code} (hf0 : findLabel c 0 = some r0) (hf1 : findLabel c 1 = some r1) (h0 : ∀ a w, R0 a w → r0.wp P (Exit.noGoto Q) a w) (h1 : ∀ a w, R1 a w → r1.wp P (Exit.noGoto Q) a w)
 (first : c.wp P (ExTwo R0 R1 Q) a w) : (Code.scope c).wp P Q a w := by
 intro b k cs
 have go : ∀ (l : Nat) (r : Code) (a : Act) (w : World), findLabel c l = some r → r.wp P (Exit.noGoto Q) a w → ∃ e a' w', Q e a' w' ∧ Arrives P (lone (b.at a (.code r :: .inScope c :: k)) cs w) b k cs e a' w' := by
  intro l r a w hf h
  obtain ⟨e, a₁, w₁, hq, harr⟩ := h b (.inScope c :: k) cs
  cases e with
  | normal => exact ⟨.normal, a₁, w₁, hq, Steps.trans harr (.one step_inScope)⟩
  | exit id => exact ⟨.exit id, a₁, w₁, hq, fun k' hk => harr k' (by simp [exitTo, hk])⟩
  | goto l' => exact hq.elim
  | ret => exact ⟨_, a₁, w₁, hq, harr⟩
  | panic ch => exact ⟨_, a₁, w₁, hq, harr⟩
  | outgrown => exact ⟨_, a₁, w₁, hq, harr⟩
 obtain ⟨e, a₁, w₁, hq, harr⟩ := first b (.inScope c :: k) cs
 cases e with
 | normal => exact ⟨.normal, a₁, w₁, hq, .head step_scope (Steps.trans harr (.one step_inScope))⟩
 | exit id => exact ⟨.exit id, a₁, w₁, hq, fun k' hk => .head step_scope (harr k' (by simp [exitTo, hk]))⟩
 | goto l =>
   match l, hq, harr with
   | 0, hq, harr =>
     have hg : gotoIn 0 (.inScope c :: k) = some (.code r0 :: .inScope c :: k) := by simp [gotoIn, hf0]
     obtain ⟨e₂, a₂, w₂, hq₂, harr₂⟩ := go 0 r0 a₁ w₁ hf0 (h0 _ _ hq)
     exact ⟨e₂, a₂, w₂, hq₂, .of_steps (.head step_scope (harr _ hg)) harr₂⟩
   | 1, hq, harr =>
     have hg : gotoIn 1 (.inScope c :: k) = some (.code r1 :: .inScope c :: k) := by simp [gotoIn, hf1]
     obtain ⟨e₂, a₂, w₂, hq₂, harr₂⟩ := go 1 r1 a₁ w₁ hf1 (h1 _ _ hq)
     exact ⟨e₂, a₂, w₂, hq₂, .of_steps (.head step_scope (harr _ hg)) harr₂⟩
   | (_ + 2), hq, _ => exact hq.elim
 | ret => exact ⟨_, a₁, w₁, hq, .of_steps (.one step_scope) harr⟩
 | panic ch => exact ⟨_, a₁, w₁, hq, .of_steps (.one step_scope) harr⟩
 | outgrown => exact ⟨_, a₁, w₁, hq, .of_steps (.one step_scope) harr⟩
theorem wp_scope_fwd {c r0 r1 : Code} (hf0 : findLabel c 0 = some r0) (hf1 : findLabel c 1 = some r1)
 (first : ∀ R0 R1 : Act → World → Prop, Hid (∀ a w, r0.wp P (Exit.noGoto Q) a w → R0 a w) → Hid (∀ a w, r1.wp P (Exit.noGoto Q) a w → R1 a w) → c.wp P (ExTwo R0 R1 Q) a w) : (Code.scope c).wp P Q a w :=
 wp_scope_two (R0 := fun a w => r0.wp P (Exit.noGoto Q) a w) (R1 := fun a w => r1.wp P (Exit.noGoto Q) a w) hf0 hf1 (fun _ _ h => h) (fun _ _ h => h) (first _ _ (fun _ _ h => h) (fun _ _ h => h))
end
end Go.Proofs.YtcafffohnokjgaaDoor
