/- The walk of the statements' cut. -/
import Derived.Test.YtcbnmahbdcjamaaFrS
import Derived.Test.YtcbnmahbdcjamaaFrK
namespace Go.Proofs.Ytcbnmahbdcjamaa
open Go.RowKit Go.Sort
set_option linter.unusedVariables false
set_option linter.unusedSimpArgs false

theorem wpList_append_srcF {P : Program} {w : World} {ops : Array Oper} {rest : List Oper} {o : Oper} {a : Act} {Q : Exit → Act → World → Prop} (hgd : o.guard = none) (s x : Operand) (t : TypeId)
    (ho : o.op = .call { callee := .builtin .append, args := #[s, x], argTypes := #[t, t] })
    (base : Nat) (e : TypeId) (i : TypeInfo) (z : Value) (size bytes : Nat) (ht : P.underlying t = some (.slice e)) (hi : P.info? e = some i) (hz : i.zero = some z)
    (hsize : i.size = size) (hby : i.bytes = bytes) (hzs : z.cells.size = size) (hsz : 0 < size)
    (v : Value) (n : Nat) (xs : List Value) (hs : a.eval s = v) (hown : w.ownsRow base e size v n xs)
    (ad : Option Addr) (m c : Nat) (news : List Value) (hx : a.eval x = .slice ad m c) (hsrc : SrcAt w ad m c size news)
    (h63 : n + m ≤ maxLen) (hbytes : (n + m) * bytes ≤ 140737488355328) (hbase : base ≤ w.heap.size)
    (h : ∀ v' w', w'.ownsRow base e size v' (n + m) (xs ++ news) → w.grownBy w' v.ownBlock → wpList P ops Q rest (a.put o.dst v') w') : wpList P ops Q (o :: rest) a w := by
  obtain ⟨s1, s2, s3, s4⟩ := hsrc
  cases ad with
  | none =>
    obtain ⟨rfl, rfl⟩ := s2 rfl
    obtain rfl : news = [] := List.eq_nil_of_length_eq_zero (by simpa using s1)
    exact wpList_append_own_none hgd s x t ho base e i size ht hi v n xs hs hown hx (h v w (by simpa using hown) ⟨rfl, rfl, rfl, Nat.le_refl _, fun _ _ _ => rfl⟩)
  | some x' =>
    exact wpList_append_own _ hgd s x t ho base e i z size bytes ht hi hz hsize hby hzs hsz v n xs hs hown x' m c news hx s1 (s3 x' rfl) s4 h63 hbytes hbase
      (fun v' w' h1 h2 _ => h v' w' h1 h2)
theorem srcP {w : World} {a : Option Addr} {n c : Nat} {l : List Opn} (h : RdP w a n l) (hn : a = none → c = 0) : SrcAt w a n c 7 (flatP l) := by
  refine ⟨by rw [flatP_len, h.1]; omega, fun e => ⟨?_, hn e⟩, fun y e j u hu => ?_, flatP_cells l⟩
  · rcases Nat.eq_zero_or_pos n with h0 | h0
    · exact h0
    · obtain ⟨b, off, hb, _⟩ := h.2 h0; rw [e] at hb; cases hb
  · have hp : 0 < n := by
      rcases Nat.eq_zero_or_pos n with h0 | h0
      · have : l = [] := List.eq_nil_of_length_eq_zero (by rw [h.1]; exact h0)
        rw [this] at hu; simp [flatP] at hu
      · exact h0
    obtain ⟨b, off, hb, hc⟩ := h.2 hp
    rw [e] at hb
    cases hb
    rw [add_lit]
    exact hc j u hu
theorem rdE_take {w : World} {a : Option Addr} {n : Nat} {l : List (Int × Int)} (h : RdE w a n l) (m : Nat) (hm : m ≤ n) : RdE w a m (l.take m) := by
  refine ⟨by rw [List.length_take, h.1]; omega, fun hp => ?_⟩
  obtain ⟨b, off, hb, hc⟩ := h.2 (by omega)
  refine ⟨b, off, hb, fun j u hu => hc j u ?_⟩
  have e : flatE l = flatE (l.take m) ++ flatE (l.drop m) := by
    unfold flatE
    rw [← List.flatMap_append, List.take_append_drop]
  rw [e]
  rw [List.getElem?_append_left (List.getElem?_eq_some_iff.1 hu).1]
  exact hu
theorem rdP_take {w : World} {a : Option Addr} {n : Nat} {l : List Opn} (h : RdP w a n l) (m : Nat) (hm : m ≤ n) : RdP w a m (l.take m) := by
  refine ⟨by rw [List.length_take, h.1]; omega, fun hp => ?_⟩
  obtain ⟨b, off, hb, hc⟩ := h.2 (by omega)
  refine ⟨b, off, hb, fun j u hu => hc j u ?_⟩
  have e : flatP l = flatP (l.take m) ++ flatP (l.drop m) := by
    unfold flatP
    rw [← List.flatMap_append, List.take_append_drop]
  rw [e]
  rw [List.getElem?_append_left (List.getElem?_eq_some_iff.1 hu).1]
  exact hu
/-- A frame that came in: its slices have room. -/
def FrAtC (w : World) (v : Value) (f : Frm) : Prop :=
  ∃ (va : Option Addr) (vn vc : Nat) (oa : Option Addr) (on oc : Nat), v = .agg #[.int .i64 f.kind, .int .i64 f.fr, .slice va vn vc, .slice oa on oc, .int .i64 f.next] ∧ RdE w va vn f.vec ∧ RdP w oa on f.ops ∧ vn ≤ vc ∧ on ≤ oc ∧ (va = none → vc = 0) ∧ (oa = none → oc = 0)
theorem FrAtC.later {w w' : World} {v : Value} {f : Frm} (h : FrAtC w v f) (hb : Below w.heap.size w w') : FrAtC w' v f := by
  obtain ⟨va, vn, vc, oa, on, oc, e, h1, h2, h3⟩ := h
  exact ⟨va, vn, vc, oa, on, oc, e, h1.later hb, h2.later hb, h3⟩
theorem FrAtC.at {w : World} {v : Value} {f : Frm} (h : FrAtC w v f) : FrAt w v f := by
  obtain ⟨va, vn, vc, oa, on, oc, e, h1, h2, h3⟩ := h
  exact ⟨va, vn, vc, oa, on, oc, e, h1, h2⟩
/-- Likewise, its rows behind a place. -/
def FrAtD (w : World) (v : Value) (f : Frm) (B : Nat) : Prop :=
  ∃ (va : Option Addr) (vn vc : Nat) (oa : Option Addr) (on oc : Nat), v = .agg #[.int .i64 f.kind, .int .i64 f.fr, .slice va vn vc, .slice oa on oc, .int .i64 f.next] ∧ RdE w va vn f.vec ∧ RdP w oa on f.ops ∧ vn ≤ vc ∧ on ≤ oc ∧ (va = none → vc = 0) ∧ (oa = none → oc = 0) ∧ (∀ x, va = some x → B ≤ x.block) ∧ ∀ x, oa = some x → B ≤ x.block
theorem FrAtD.at {w : World} {v : Value} {f : Frm} {B : Nat} (h : FrAtD w v f B) : FrAt w v f := by
  obtain ⟨va, vn, vc, oa, on, oc, e, h1, h2, _⟩ := h
  exact ⟨va, vn, vc, oa, on, oc, e, h1, h2⟩
theorem FrAtD.cg {w W : World} {Q : Nat → Prop} {v : Value} {f : Frm} {B : Nat} (h : FrAtD w v f B) (hc : Chg w W Q) (hq : ∀ j, B ≤ j → ¬ Q j) : FrAtD W v f B := by
  obtain ⟨va, vn, vc, oa, on, oc, e, h1, h2, h3, h4, h5, h6, h7, h8⟩ := h
  exact ⟨va, vn, vc, oa, on, oc, e, rdE_cg h1 hc (fun x e => hq _ (h7 x e)), rdP_cg h2 hc (fun x e => hq _ (h8 x e)), h3, h4, h5, h6, h7, h8⟩
theorem set5g {w : World} {F : Nat} {f0 f1 f2 f3 f4 : Value} (hF : w.heap[F]? = some (.cells #[f0, f1, f2, f3, f4] 51)) (v0 v1 v2 v3 v4 : Value) :
    Chg w (((((w.setCell ⟨F, 0, none⟩ v0).setCell ⟨F, 1, none⟩ v1).setCell ⟨F, 2, none⟩ v2).setCell ⟨F, 3, none⟩ v3).setCell ⟨F, 4, none⟩ v4) (fun k => k = F) ∧ (((((w.setCell ⟨F, 0, none⟩ v0).setCell ⟨F, 1, none⟩ v1).setCell ⟨F, 2, none⟩ v2).setCell ⟨F, 3, none⟩ v3).setCell ⟨F, 4, none⟩ v4).heap[F]? = some (.cells #[v0, v1, v2, v3, v4] 51) := by
  have q5 : Chg w (((((w.setCell ⟨F, 0, none⟩ v0).setCell ⟨F, 1, none⟩ v1).setCell ⟨F, 2, none⟩ v2).setCell ⟨F, 3, none⟩ v3).setCell ⟨F, 4, none⟩ v4) (fun k => k = F) := cg_trans (cg_trans (cg_trans (cg_trans (cg_set w F 0 v0) (cg_set _ F 1 v1) (fun _ _ h => h)) (cg_set _ F 2 v2) (fun _ _ h => h)) (cg_set _ F 3 v3) (fun _ _ h => h)) (cg_set _ F 4 v4) (fun _ _ h => h)
  have r0 := heap_setX w F 0 v0 _ _ _ hF
  have r1 := heap_setX _ F 1 v1 _ _ _ r0
  have r2 := heap_setX _ F 2 v2 _ _ _ r1
  have r3 := heap_setX _ F 3 v3 _ _ _ r2
  have r4 := heap_setX _ F 4 v4 _ _ _ r3
  exact ⟨q5, r4.trans (by rfl)⟩
/-- The cells of a frame's box. -/
theorem cells5 {W : World} {X : Nat} {c0 c1 c2 c3 c4 : Value} {t : TypeId} (h : W.heap[X]? = some (.cells #[c0, c1, c2, c3, c4] t)) :
    (W.cell? ⟨X, 0, none⟩ = some c0 ∧ W.cell? ⟨X, 1, none⟩ = some c1 ∧ W.cell? ⟨X, 2, none⟩ = some c2 ∧ W.cell? ⟨X, 3, none⟩ = some c3 ∧ W.cell? ⟨X, 4, none⟩ = some c4) ∧ W.frozen? ⟨X, 0, none⟩ = false ∧ W.frozen? ⟨X, 1, none⟩ = false ∧ W.frozen? ⟨X, 2, none⟩ = false ∧ W.frozen? ⟨X, 3, none⟩ = false ∧ W.frozen? ⟨X, 4, none⟩ = false :=
  ⟨⟨cell_of_row W X 0 _ _ _ h, cell_of_row W X 1 _ _ _ h, cell_of_row W X 2 _ _ _ h, cell_of_row W X 3 _ _ _ h, cell_of_row W X 4 _ _ _ h⟩, Lib.frozen_of_heap h _, Lib.frozen_of_heap h _, Lib.frozen_of_heap h _, Lib.frozen_of_heap h _, Lib.frozen_of_heap h _⟩
def cutF (f : Frm) : Frm := ⟨f.kind, f.fr, f.vec.take 70, f.ops.take 70, f.next⟩
theorem cutF_len (f : Frm) : (cutF f).vec.length ≤ 70 ∧ (cutF f).ops.length ≤ 70 := by
  constructor
  · show (f.vec.take 70).length ≤ 70; rw [List.length_take]; omega
  · show (f.ops.take 70).length ≤ 70; rw [List.length_take]; omega
theorem cutE_run (a : Option Addr) (len cap n : Nat) (h : n ≤ cap) (W : World) : (Instr.slice 42 (.slice a len cap) none (some (.int .i64 n)) none).run Try.prog W = .ok (.slice a n cap) W := by
  have h0 : (0 : Int) ≤ (n : Int) := by omega
  have h1 : (n : Int) ≤ (cap : Int) := by omega
  go_simp
theorem cutP_run (a : Option Addr) (len cap n : Nat) (h : n ≤ cap) (W : World) : (Instr.slice 22 (.slice a len cap) none (some (.int .i64 n)) none).run Try.prog W = .ok (.slice a n cap) W := by
  have h0 : (0 : Int) ≤ (n : Int) := by omega
  have h1 : (n : Int) ≤ (cap : Int) := by omega
  go_simp
set_option maxRecDepth 100000 in
set_option maxHeartbeats 2000000 in
theorem cut_any (f : Frm) (v : Value) (w : World) (hat : FrAtC w v f) :
    Calls Try.prog 25 #[v] w fun e w' => ∃ v', e = .returned v' ∧ FrAtD w' v' (cutF f) w.heap.size ∧ Below w.heap.size w w' := by
  obtain ⟨i0, hi, hz0, hz1, hz2⟩ := info_parts infoE15
  obtain ⟨j0, ji, jz0, jz1, jz2⟩ := info_parts infoP15
  obtain ⟨va, vn, vc, oa, on, oc, rfl, hre, hrp, h1, h2, h3, h4⟩ := hat
  obtain ⟨m, hm⟩ : ∃ m, m = min vn 70 := ⟨_, rfl⟩
  obtain ⟨q, hq⟩ : ∃ q, q = min on 70 := ⟨_, rfl⟩
  have hm1 := min_run vn m 70 (by omega)
  have hq1 := min_run on q 70 (by omega)
  have hc1 := cutE_run va vn vc m (by omega)
  have hc2 := cutP_run oa on oc q (by omega)
  have e1 : f.vec.take m = f.vec.take 70 := by
    have := hre.1
    rw [hm]
    by_cases h : vn ≤ 70
    · rw [Nat.min_eq_left h, ← this, List.take_length, List.take_of_length_le (by omega)]
    · rw [Nat.min_eq_right (by omega)]
  have e2 : f.ops.take q = f.ops.take 70 := by
    have := hrp.1
    rw [hq]
    by_cases h : on ≤ 70
    · rw [Nat.min_eq_left h, ← this, List.take_length, List.take_of_length_le (by omega)]
    · rw [Nat.min_eq_right (by omega)]
  have HSE : Hid (∀ W, Below w.heap.size w W → SrcAt W va m vc 2 (flatE (f.vec.take m))) := fun W h => srcE (rdE_take (hre.later h) m (by omega)) h3
  have HSP : Hid (∀ W, Below w.heap.size w W → SrcAt W oa q oc 7 (flatP (f.ops.take q))) := fun W h => srcP (rdP_take (hrp.later h) q (by omega)) h4
  have HM : Hid (m ≤ 70 ∧ q ≤ 70) := ⟨by omega, by omega⟩
  have HE : Hid (cutF f = ⟨f.kind, f.fr, f.vec.take m, f.ops.take q, f.next⟩) := by show _ = _; rw [e1, e2]; rfl
  obtain ⟨W1, hW1⟩ : ∃ W1, W1 = (w.alloc (.cells #[.int .i64 f.kind, .int .i64 f.fr, .slice va vn vc, .slice oa on oc, .int .i64 f.next] 51)).alloc (.cells #[.int .i64 0, .int .i64 0, .slice none 0 0, .slice none 0 0, .int .i64 0] 51) := ⟨_, rfl⟩
  have HB1 : Hid (Below w.heap.size w W1) := by show Below _ _ _; rw [hW1]; exact ((Below.refl _ w).alloc (Nat.le_refl _) _).alloc (by simp) _
  have hx : W1.heap[w.heap.size]? = some (.cells #[.int .i64 f.kind, .int .i64 f.fr, .slice va vn vc, .slice oa on oc, .int .i64 f.next] 51) := by
    rw [hW1]
    exact (((Below.refl _ _).alloc (Nat.le_refl _) _).block w.heap.size (by simp)).trans (heap_alloc_new w _)
  have hy : W1.heap[w.heap.size + 1]? = some (.cells #[.int .i64 0, .int .i64 0, .slice none 0 0, .slice none 0 0, .int .i64 0] 51) := by
    rw [hW1]
    have := heap_alloc_new (w.alloc (.cells #[.int .i64 f.kind, .int .i64 f.fr, .slice va vn vc, .slice oa on oc, .int .i64 f.next] 51)) (.cells #[.int .i64 0, .int .i64 0, .slice none 0 0, .slice none 0 0, .int .i64 0] 51)
    simpa using this
  have HSZ : Hid (W1.heap.size = w.heap.size + 2) := by show _ = _; rw [hW1]; simp
  obtain ⟨Y, hY⟩ : ∃ Y, Y = w.heap.size + 1 := ⟨_, rfl⟩
  obtain ⟨X, hX⟩ : ∃ X, X = w.heap.size := ⟨_, rfl⟩
  have HYE : Hid (Y = w.heap.size + 1) := hY
  have HXE : Hid (X = w.heap.size) := hX
  rw [← hX] at hx
  rw [← hY] at hy
  have HX1 : Hid (W1.heap[X]? = some (.cells #[.int .i64 f.kind, .int .i64 f.fr, .slice va vn vc, .slice oa on oc, .int .i64 f.next] 51)) := hx
  have HY1 : Hid (W1.heap[Y]? = some (.cells #[.int .i64 0, .int .i64 0, .slice none 0 0, .slice none 0 0, .int .i64 0] 51)) := hy
  have hOE : (W1.alloc (.cells #[] 107)).ownsRow W1.heap.size 107 2 (.slice (some ⟨W1.heap.size, 0, none⟩) 0 0) 0 [] := World.ownsRow_made W1 #[] 0 (Nat.le_refl _) (by simp [maxLen]) rfl
  have HOE : Hid ((W1.alloc (.cells #[] 107)).ownsRow W1.heap.size 107 2 (.slice (some ⟨W1.heap.size, 0, none⟩) 0 0) 0 []) := hOE
  have x2 : (W1.alloc (.cells #[] 107)).cell? ⟨X, 2, none⟩ = some (.slice va vn vc) := cell_of_row _ X 2 _ _ _ ((((Below.refl _ W1).alloc (Nat.le_refl _) (.cells #[] 107)).block X (Array.getElem?_eq_some_iff.1 hx).1).trans hx)
  have HBA : Hid (Below W1.heap.size W1 (W1.alloc (.cells #[] 107))) := (Below.refl _ W1).alloc (Nat.le_refl _) _
  clear hre hrp h1 h2 h3 h4 hm hq e1 e2 hx hy hX hY hOE
  generalize f.kind = fk at *
  generalize f.fr = ff at *
  generalize f.next = fx at *
  go_enter Try.func25, Try.ntmps25
  go_upto_region 1 with fail
  simp only [← hW1, ← HYE.out]
  simp only [← HXE.out]
  clear hW1
  go_upto_region 2 with (at_builtin; refine wpList_append_srcF rfl (.tmp 3) (.tmp 10) 42 rfl W1.heap.size 107 i0 (.agg #[.int .i64 0, .int .i64 0]) 2 16 Try.underlying42 hi hz0 hz1 hz2 rfl (by decide) _ 0 [] rfl HOE.out va m vc (flatE (f.vec.take m)) rfl (HSE.out _ (HB1.out.trans (HBA.out.mono HB1.out.size))) (by have := HM.out; unfold maxLen; omega) (by have := HM.out; omega) HBA.out.size ?_)
  clear x2
  intro v2 w2 o2 g2
  have hcg2 : Chg W1 w2 (fun _ => False) := cg_trans (cg_alloc (cg_refl W1 (fun _ => False)) _) (cg_gb g2) (fun j hj e => by cases e; exact absurd hj (Nat.lt_irrefl _))
  have hX2 := cg_heap hcg2 HX1.out (fun h => h)
  have hY2 := cg_heap hcg2 HY1.out (fun h => h)
  have HCG2 : Hid (Chg W1 w2 (fun _ => False)) := hcg2
  have HO2 : Hid (w2.ownsRow W1.heap.size 107 2 v2 m (flatE (f.vec.take m))) := by
    show World.ownsRow _ _ _ _ _ _ _
    simpa using o2
  obtain ⟨a2, c2, rfl, _, _, _, _⟩ := rdE_own HO2.out
  have HX2 : Hid (w2.heap[X]? = some (.cells #[.int .i64 fk, .int .i64 ff, .slice va vn vc, .slice oa on oc, .int .i64 fx] 51)) := hX2
  have HY2 : Hid (w2.heap[Y]? = some (.cells #[.int .i64 0, .int .i64 0, .slice none 0 0, .slice none 0 0, .int .i64 0] 51)) := hY2
  have c20 : w2.cell? ⟨X, 2, none⟩ = some (.slice va vn vc) := cell_of_row _ X 2 _ _ _ hX2
  have f20 : w2.frozen? ⟨X, 2, none⟩ = false := Lib.frozen_of_heap hX2 _
  clear o2 g2 hcg2 hX2 hY2
  go_upto_region 2 with fail
  obtain ⟨W3, hW3⟩ : ∃ W3, W3 = w2.setCell ⟨X, 2, none⟩ (.slice a2 m c2) := ⟨_, rfl⟩
  have hXY : X ≠ Y := by have := HXE.out; have := HYE.out; omega
  have hYX : Y ≠ X := fun e => hXY e.symm
  have hs3 : W3.heap.size = w2.heap.size := by rw [hW3]; simp [World.setCell]
  have hcs := cg_set w2 X 2 (.slice a2 m c2)
  have hX3 : W3.heap[X]? = some (.cells #[.int .i64 fk, .int .i64 ff, .slice a2 m c2, .slice oa on oc, .int .i64 fx] 51) := by rw [hW3]; exact (heap_setX w2 X 2 _ _ _ _ HX2.out).trans (by rfl)
  have hY3 : W3.heap[Y]? = some (.cells #[.int .i64 0, .int .i64 0, .slice none 0 0, .slice none 0 0, .int .i64 0] 51) := by rw [hW3]; exact cg_heap hcs HY2.out hYX
  have hXs : X < W1.heap.size := by have := HSZ.out; have := HXE.out; omega
  have hYs : Y < W1.heap.size := by have := HSZ.out; have := HYE.out; omega
  have ho3 : W3.ownsRow W1.heap.size 107 2 (.slice a2 m c2) m (flatE (f.vec.take m)) := by
    rw [hW3]
    exact cg_own hcs HO2.out (fun j hj e => by have := (HO2.out.lt j hj).1; omega)
  have hb3 : Below w.heap.size w W3 := by
    rw [hW3]
    refine HB1.out.trans (cg_bel (cg_trans (cg_trans (cg_refl W1 (fun j => j = X)) HCG2.out (fun _ _ h => h.elim)) hcs (fun _ _ h => h)) HB1.out.size (fun j hj => by have := HXE.out; omega))
  have HB3 : Hid (Below w.heap.size w W3) := hb3
  have HX3 : Hid (W3.heap[X]? = some (.cells #[.int .i64 fk, .int .i64 ff, .slice a2 m c2, .slice oa on oc, .int .i64 fx] 51)) := hX3
  have HY3 : Hid (W3.heap[Y]? = some (.cells #[.int .i64 0, .int .i64 0, .slice none 0 0, .slice none 0 0, .int .i64 0] 51)) := hY3
  have HO3 : Hid (W3.ownsRow W1.heap.size 107 2 (.slice a2 m c2) m (flatE (f.vec.take m))) := ho3
  have HS3 : Hid (W1.heap.size ≤ W3.heap.size) := by show _ ≤ _; rw [hs3]; exact HCG2.out.2.2.2.1
  have hOP : (W3.alloc (.cells #[] 34)).ownsRow W3.heap.size 34 7 (.slice (some ⟨W3.heap.size, 0, none⟩) 0 0) 0 [] := World.ownsRow_made W3 #[] 0 (Nat.le_refl _) (by simp [maxLen]) rfl
  have HOP : Hid ((W3.alloc (.cells #[] 34)).ownsRow W3.heap.size 34 7 (.slice (some ⟨W3.heap.size, 0, none⟩) 0 0) 0 []) := hOP
  have x3 : (W3.alloc (.cells #[] 34)).cell? ⟨X, 3, none⟩ = some (.slice oa on oc) := cell_of_row _ X 3 _ _ _ ((((Below.refl _ W3).alloc (Nat.le_refl _) (.cells #[] 34)).block X (Array.getElem?_eq_some_iff.1 hX3).1).trans hX3)
  have HBA3 : Hid (Below W3.heap.size W3 (W3.alloc (.cells #[] 34))) := (Below.refl _ W3).alloc (Nat.le_refl _) _
  have HXS : Hid (X < W1.heap.size ∧ Y < W1.heap.size) := ⟨hXs, hYs⟩
  simp only [← hW3]
  clear hW3 c20 f20 hs3 hcs hX3 hY3 hXs hYs ho3 hb3 hOP HBA HOE HSE
  go_upto_region 3 with (at_builtin; refine wpList_append_srcF rfl (.tmp 13) (.tmp 20) 22 rfl W3.heap.size 34 j0 op0.val 7 56 Try.underlying22 ji jz0 jz1 jz2 rfl (by decide) _ 0 [] rfl HOP.out oa q oc (flatP (f.ops.take q)) rfl (HSP.out _ (HB3.out.trans (HBA3.out.mono HB3.out.size))) (by have := HM.out; unfold maxLen; omega) (by have := HM.out; omega) HBA3.out.size ?_)
  clear x3
  intro v4 w4 o4 g4
  have hcg4 : Chg W3 w4 (fun _ => False) := cg_trans (cg_alloc (cg_refl W3 (fun _ => False)) _) (cg_gb g4) (fun j hj e => by cases e; exact absurd hj (Nat.lt_irrefl _))
  have hX4 := cg_heap hcg4 HX3.out (fun h => h)
  have hY4 := cg_heap hcg4 HY3.out (fun h => h)
  have HO4 : Hid (w4.ownsRow W3.heap.size 34 7 v4 q (flatP (f.ops.take q))) := by
    show World.ownsRow _ _ _ _ _ _ _
    simpa using o4
  have HE4 : Hid (w4.ownsRow W1.heap.size 107 2 (.slice a2 m c2) m (flatE (f.vec.take m))) := cg_own hcg4 HO3.out (fun _ _ h => h)
  obtain ⟨a4, c4, rfl, _, _, _, _⟩ := rdP_own HO4.out
  have HX4 : Hid (w4.heap[X]? = some (.cells #[.int .i64 fk, .int .i64 ff, .slice a2 m c2, .slice oa on oc, .int .i64 fx] 51)) := hX4
  have HY4 : Hid (w4.heap[Y]? = some (.cells #[.int .i64 0, .int .i64 0, .slice none 0 0, .slice none 0 0, .int .i64 0] 51)) := hY4
  have HB4 : Hid (Below w.heap.size w w4) := HB3.out.trans (cg_bel hcg4 HB3.out.size (fun j hj => hj.elim))
  have c30 : w4.cell? ⟨X, 3, none⟩ = some (.slice oa on oc) := cell_of_row _ X 3 _ _ _ hX4
  have f30 : w4.frozen? ⟨X, 3, none⟩ = false := Lib.frozen_of_heap hX4 _
  clear o4 g4 hcg4 hX4 hY4
  go_upto_region 3 with fail
  obtain ⟨W5, hW5⟩ : ∃ W5, W5 = w4.setCell ⟨X, 3, none⟩ (.slice a4 q c4) := ⟨_, rfl⟩
  have hcs := cg_set w4 X 3 (.slice a4 q c4)
  have hX5 : W5.heap[X]? = some (.cells #[.int .i64 fk, .int .i64 ff, .slice a2 m c2, .slice a4 q c4, .int .i64 fx] 51) := by rw [hW5]; exact (heap_setX w4 X 3 _ _ _ _ HX4.out).trans (by rfl)
  have hY5 : W5.heap[Y]? = some (.cells #[.int .i64 0, .int .i64 0, .slice none 0 0, .slice none 0 0, .int .i64 0] 51) := by rw [hW5]; exact cg_heap hcs HY4.out hYX
  have hE5 : W5.ownsRow W1.heap.size 107 2 (.slice a2 m c2) m (flatE (f.vec.take m)) := by
    rw [hW5]
    exact cg_own hcs HE4.out (fun j hj e => by have := (HE4.out.lt j hj).1; have := HXS.out; omega)
  have hP5 : W5.ownsRow W3.heap.size 34 7 (.slice a4 q c4) q (flatP (f.ops.take q)) := by
    rw [hW5]
    exact cg_own hcs HO4.out (fun j hj e => by have := (HO4.out.lt j hj).1; have := HXS.out; have := HS3.out; omega)
  have hB5 : Below w.heap.size w W5 := by rw [hW5]; exact HB4.out.trans (cg_bel hcs HB4.out.size (fun j hj => by have := HXE.out; omega))
  have x0 : W5.cell? ⟨X, 0, none⟩ = some (.int .i64 fk) := cell_of_row _ X 0 _ _ _ hX5
  have x1 : W5.cell? ⟨X, 1, none⟩ = some (.int .i64 ff) := cell_of_row _ X 1 _ _ _ hX5
  have x2 : W5.cell? ⟨X, 2, none⟩ = some (.slice a2 m c2) := cell_of_row _ X 2 _ _ _ hX5
  have x3 : W5.cell? ⟨X, 3, none⟩ = some (.slice a4 q c4) := cell_of_row _ X 3 _ _ _ hX5
  have x4 : W5.cell? ⟨X, 4, none⟩ = some (.int .i64 fx) := cell_of_row _ X 4 _ _ _ hX5
  have y0 : W5.cell? ⟨Y, 0, none⟩ = some (.int .i64 0) := cell_of_row _ Y 0 _ _ _ hY5
  have y1 : W5.cell? ⟨Y, 1, none⟩ = some (.int .i64 0) := cell_of_row _ Y 1 _ _ _ hY5
  have y2 : W5.cell? ⟨Y, 2, none⟩ = some (.slice none 0 0) := cell_of_row _ Y 2 _ _ _ hY5
  have y3 : W5.cell? ⟨Y, 3, none⟩ = some (.slice none 0 0) := cell_of_row _ Y 3 _ _ _ hY5
  have y4 : W5.cell? ⟨Y, 4, none⟩ = some (.int .i64 0) := cell_of_row _ Y 4 _ _ _ hY5
  have z0 : W5.frozen? ⟨Y, 0, none⟩ = false := Lib.frozen_of_heap hY5 _
  have z1 : W5.frozen? ⟨Y, 1, none⟩ = false := Lib.frozen_of_heap hY5 _
  have z2 : W5.frozen? ⟨Y, 2, none⟩ = false := Lib.frozen_of_heap hY5 _
  have z3 : W5.frozen? ⟨Y, 3, none⟩ = false := Lib.frozen_of_heap hY5 _
  have z4 : W5.frozen? ⟨Y, 4, none⟩ = false := Lib.frozen_of_heap hY5 _
  have HFIN : Hid (∀ W, Chg W5 W (fun j => j = Y) → FrAtD W (.agg #[.int .i64 fk, .int .i64 ff, .slice a2 m c2, .slice a4 q c4, .int .i64 fx]) ⟨fk, ff, f.vec.take m, f.ops.take q, fx⟩ w.heap.size ∧ Below w.heap.size w W) := by
    intro W hW
    have q1 := cg_own hW hE5 (fun j hj e => by have := (hE5.lt j hj).1; have := HXS.out; omega)
    have q2 := cg_own hW hP5 (fun j hj e => by have := (hP5.lt j hj).1; have := HXS.out; have := HS3.out; omega)
    obtain ⟨_, _, e1, r1, _, r2, r3⟩ := rdE_own q1
    obtain ⟨_, _, e2, s1, _, s2, s3⟩ := rdP_own q2
    cases e1
    cases e2
    exact ⟨⟨a2, m, c2, a4, q, c4, rfl, r2, s2, r1, s1, r3, s3, (fun x e => by have h9 := (hE5.lt x.block (by rw [e]; rfl)).1; have := HB1.out.size; omega), fun x e => by have h9 := (hP5.lt x.block (by rw [e]; rfl)).1; have := HB1.out.size; have := HS3.out; omega⟩, hB5.trans (cg_bel hW hB5.size (fun j hj => by have := HYE.out; omega))⟩
  simp only [← hW5]
  clear hW5 hcs hX5 hY5 hE5 hP5 hB5 c30 f30
  go_wp2
  refine bodyPost_ret (v := .agg #[.int .i64 fk, .int .i64 ff, .slice a2 m c2, .slice a4 q c4, .int .i64 fx]) ?_ rfl ?_
  · rw [results_cell_fr rfl]
    go_simp
  · obtain ⟨r1, r2⟩ := HFIN.out _ (cg_trans (cg_trans (cg_trans (cg_trans (cg_set W5 Y 0 (.int .i64 fk)) (cg_set _ Y 1 (.int .i64 ff)) (fun _ _ h => h)) (cg_set _ Y 2 (.slice a2 m c2)) (fun _ _ h => h)) (cg_set _ Y 3 (.slice a4 q c4)) (fun _ _ h => h)) (cg_set _ Y 4 (.int .i64 fx)) (fun _ _ h => h))
    exact ⟨_, rfl, by rw [HE.out]; exact r1, r2⟩
end Go.Proofs.Ytcbnmahbdcjamaa
