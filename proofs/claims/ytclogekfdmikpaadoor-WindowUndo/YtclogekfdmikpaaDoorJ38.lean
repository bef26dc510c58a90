/- In one text: SegE, SegF, TabI, TabJ, DfaRj, TabL. -/
import Derived.Test.YtclogekfdmikpaaDoorJ31
import Derived.Test.YtclogekfdmikpaaDoorJ28
import Derived.Test.YtclogekfdmikpaaDoorJ24
/- The walks of seg's around and Next. -/
namespace Go.Proofs.YtclogekfdmikpaaDoor
open Go.RowKit Go.Shelf
set_option linter.unusedVariables false
set_option linter.unusedSimpArgs false
attribute [local go_sem] Oper.semAt_some

end Go.Proofs.YtclogekfdmikpaaDoor

/- The walk of seg's Prev. -/
namespace Go.Proofs.YtclogekfdmikpaaDoor
open Go.RowKit Go.Shelf
set_option linter.unusedVariables false
set_option linter.unusedSimpArgs false
attribute [local go_sem] Oper.semAt_some

end Go.Proofs.YtclogekfdmikpaaDoor

/- The walks of small and few. -/
namespace Go.Proofs.YtclogekfdmikpaaDoor
open Go.RowKit Go.Shelf Go.Maps
set_option linter.unusedVariables false
set_option linter.unusedSimpArgs false

def SmP (n : Nd) (w : World) (e : Ending) (w' : World) : Prop := ∃ b, e = .returned (.bool b) ∧ (b = true → n.cnt ≤ 400 → n.cnt ≤ 30) ∧ Below w.heap.size w w'
set_option maxHeartbeats 4000000 in
theorem small9_any (D : Nat) (n : Nd) (ca pa : Option Addr) (cc pc B : Nat) (w : World) (hin : InV B w D n [.int .i64 n.op, .slice ca n.cl.length cc, .slice pa (toL n.kids).length pc]) (hB : B ≤ w.heap.size) :
 Calls Tryd.prog 22 #[.agg #[.int .i64 n.op, .slice ca n.cl.length cc, .slice pa (toL n.kids).length pc]] w (SmP n w) := by
 obtain ⟨op, hop⟩ : ∃ op, op = n.op := ⟨_, rfl⟩
 obtain ⟨cn, hcn⟩ : ∃ cn, cn = n.cl.length := ⟨_, rfl⟩
 obtain ⟨K, hK⟩ : ∃ K, K = (toL n.kids).length := ⟨_, rfl⟩
 have HIN : Hid (InV w.heap.size w D n [.int .i64 n.op, .slice ca n.cl.length cc, .slice pa (toL n.kids).length pc]) := hin.base hB D
 have HCO : Hid (∀ V : World, Below w.heap.size w V → Calls Tryd.prog 37 #[.agg #[.int .i64 op, .slice ca cn cc, .slice pa K pc]] V fun e w' => ∃ v : Int, e = .returned (.int .i64 v) ∧ (n.cnt ≤ 400 → v = (n.cnt : Int)) ∧ Below V.heap.size V w') := fun V hV => by
  rw [hop, hcn, hK]; exact countX_any D n ca pa cc pc _ V (HIN.out.later hV D)
 have HST : Hid (∀ V : World, Below w.heap.size w V → Calls Tryd.prog 38 #[.agg #[.int .i64 op, .slice ca cn cc, .slice pa K pc]] V fun e w' => ∃ t : Int, e = .returned (.int .i64 t) ∧ Below V.heap.size V w') := fun V hV => by
  rw [hop, hcn, hK]; exact starsX_any D n ca pa cc pc _ V (HIN.out.later hV D)
 obtain ⟨W0, hW0⟩ : ∃ W0, W0 = w.alloc (.cells #[.int .i64 op, .slice ca cn cc, .slice pa K pc] 56) := ⟨_, rfl⟩
 obtain ⟨H, hH⟩ : ∃ H, H = w.heap.size := ⟨_, rfl⟩
 have HB0 : Hid (Below w.heap.size w W0) := by rw [hW0]; exact (Below.refl _ w).alloc (Nat.le_refl _) _
 have HX0 : Hid (W0.heap[H]? = some (.cells #[.int .i64 op, .slice ca cn cc, .slice pa K pc] 56)) := by show _ = _; rw [hW0, hH]; exact heap_alloc_new w _
 rw [← hop, ← hcn, ← hK]
 clear hin hop hcn hK
 go_enter Tryd.func22, Tryd.ntmps22
 go_upto_region 1 with fail
 rw [← hH, ← hW0]
 clear hH hW0
 have e0 : W0.cell? ⟨H, 0, none⟩ = some (.int .i64 op) := cell_of_row W0 H 0 _ _ _ HX0.out
 have e1 : W0.cell? ⟨H, 1, none⟩ = some (.slice ca cn cc) := cell_of_row W0 H 1 _ _ _ HX0.out
 have e2 : W0.cell? ⟨H, 2, none⟩ = some (.slice pa K pc) := cell_of_row W0 H 2 _ _ _ HX0.out
 go_wp2_with fail
 refine (HCO.out W0 HB0.out).mono ?_
 rintro e w1 ⟨v, rfl, hv, hb1⟩
 have HB1 : Hid (Below w.heap.size w w1) := HB0.out.trans (hb1.mono HB0.out.size)
 have HX1 : Hid (w1.heap[H]? = some (.cells #[.int .i64 op, .slice ca cn cc, .slice pa K pc] 56)) := (hb1.block H (Array.getElem?_eq_some_iff.1 HX0.out).1).trans HX0.out
 clear hb1 e0 e1 e2
 have HV : Hid (n.cnt ≤ 400 → v = (n.cnt : Int)) := hv
 clear hv
 by_cases h30 : v ≤ 20
 ·have e0 : w1.cell? ⟨H, 0, none⟩ = some (.int .i64 op) := cell_of_row w1 H 0 _ _ _ HX1.out
  have e1 : w1.cell? ⟨H, 1, none⟩ = some (.slice ca cn cc) := cell_of_row w1 H 1 _ _ _ HX1.out
  have e2 : w1.cell? ⟨H, 2, none⟩ = some (.slice pa K pc) := cell_of_row w1 H 2 _ _ _ HX1.out
  go_wp2_with fail
  refine (HST.out w1 HB1.out).mono ?_
  rintro e w2 ⟨t, rfl, hb2⟩
  have HB2 : Hid (Below w.heap.size w w2) := HB1.out.trans (hb2.mono HB1.out.size)
  clear hb2 e0 e1 e2
  by_cases ht : t ≤ 2
  all_goals
   go_wp2_with fail
   go_ret
   exact ⟨_, rfl, fun _ h => by have := HV.out h; omega, HB2.out⟩
 ·go_wp2_with fail
  go_ret
  exact ⟨false, rfl, fun h => by simp at h, HB1.out⟩
theorem info_Rl : (Tryd.prog.info? 58).map (fun i => (i.zero, i.size, i.bytes)) = some (some (.agg #[.int .i64 0, .slice none 0 0, .slice none 0 0, .int .i64 0, .slice none 0 0, .slice none 0 0, .bool false, .bool false]), 8, 120) := by kernel_rfl
theorem cutS (a : Option Addr) (len cap n : Nat) (h : n ≤ cap) (W : World) : (Instr.slice 22 (.slice a len cap) none (some (.int .i64 n)) none).run Tryd.prog W = .ok (.slice a n cap) W := by
 have h0 : (0 : Int) ≤ (n : Int) := by omega
 have h1 : (n : Int) ≤ (cap : Int) := by omega
 go_simp
def flR (ps : List (Rl × RlP)) : List Value := ps.flatMap fun x => (x.1.vals x.2).toList
theorem flR_len (ps : List (Rl × RlP)) : (flR ps).length = ps.length * 8 := by
 induction ps with
 | nil => rfl
 | cons x r ih => simp only [flR, List.flatMap_cons, List.length_append] at ih ⊢; rw [ih]; simp; omega
def KeptR (w : World) (D : Nat) (l : List Rl) (ps : List (Rl × RlP)) : Prop := ∀ x, x ∈ ps → RlAt w D x.1 x.2 ∧ x.1 ∈ l ∧ (x.1.left.cnt ≤ 400 → x.1.left.cnt ≤ 30) ∧ (x.1.right.cnt ≤ 400 → x.1.right.cnt ≤ 30)
def FwS (w0 w : World) (D : Nat) (l : List Rl) (c0 c1 c2 v : Value) (ps : List (Rl × RlP)) (wr : World) : Prop :=
 Below w.heap.size w wr ∧ wr.heap[w.heap.size]? = some (.cells #[c0, c1] 25) ∧ wr.heap[w.heap.size + 1]? = some (.cells #[.slice none 0 0, .slice none 0 0] 25) ∧ wr.heap[w.heap.size + 2]? = some (.cells #[c2, v] 25) ∧
  wr.ownsRow w.heap.size 58 8 v ps.length (flR ps) ∧ KeptR w0 D l ps
theorem FwS.later {w0 w wr W : World} {D : Nat} {l : List Rl} {c0 c1 c2 v : Value} {ps : List (Rl × RlP)} (h : FwS w0 w D l c0 c1 c2 v ps wr) (hb : Below wr.heap.size wr W) : FwS w0 w D l c0 c1 c2 v ps W := by
 obtain ⟨h1, h2, h3, h4, h5, h6⟩ := h
 exact ⟨h1.trans (hb.mono h1.size), (hb.block _ (Array.getElem?_eq_some_iff.1 h2).1).trans h2, (hb.block _ (Array.getElem?_eq_some_iff.1 h3).1).trans h3, (hb.block _ (Array.getElem?_eq_some_iff.1 h4).1).trans h4, own_later5 h5 hb, h6⟩
theorem FwS.more {w0 w wr W w1 : World} {D : Nat} {l : List Rl} {c0 c1 c2 : Value} {av : Option Addr} {N cv g cp : Nat} {ps : List (Rl × RlP)} {r : Rl} {q : RlP} (h : FwS w0 w D l c0 c1 c2 (.slice av N cv) ps wr) (hN : N = ps.length) (hb : Below wr.heap.size wr W)
 (o1 : w1.ownsRow w.heap.size 58 8 (.slice (some ⟨g, 0, none⟩) (N + 1) cp) (N + 1) (flR ps ++ (r.vals q).toList)) (gr : W.grownBy w1 (Value.slice av N cv).ownBlock) (hk : RlAt w0 D r q ∧ r ∈ l ∧ (r.left.cnt ≤ 400 → r.left.cnt ≤ 30) ∧ (r.right.cnt ≤ 400 → r.right.cnt ≤ 30)) :
 (w1.cell? ⟨w.heap.size + 2, 1, none⟩ = some (.slice av N cv) ∧ w1.frozen? ⟨w.heap.size + 2, 1, none⟩ = false) ∧ FwS w0 w D l c0 c1 c2 (.slice (some ⟨g, 0, none⟩) (N + 1) cp) (ps ++ [(r, q)]) (w1.setCell ⟨w.heap.size + 2, 1, none⟩ (.slice (some ⟨g, 0, none⟩) (N + 1) cp)) := by
 obtain ⟨h1, h2, h3, h4, h5, h6⟩ := h.later hb
 have hne : ∀ (B : Nat) (cs : Array Value), W.heap[B]? = some (.cells cs 25) → w1.heap[B]? = some (.cells cs 25) := fun B cs hB =>
  (gr.block B (Array.getElem?_eq_some_iff.1 hB).1 (fun e => by
   obtain ⟨_, _, cur, hc⟩ := own_lt h5 e.symm
   exact ne_ty hc hB (by decide) rfl)).trans hB
 have k2 := hne _ _ h2
 have k3 := hne _ _ h3
 have k4 := hne _ _ h4
 have hg := grown_cell w1 (w.heap.size + 2) 1 (Value.slice (some ⟨g, 0, none⟩) (N + 1) cp)
 have hb1 : Below w.heap.size w w1 := h1.grown gr h1.size (fun y hy => (own_lt h5 hy).1)
 refine ⟨⟨cell_of_row _ _ 1 _ _ _ k4, Lib.frozen_of_heap k4 1⟩, hb1.grown hg hb1.size (fun y hy => by cases hy; omega), (hg.block _ (Array.getElem?_eq_some_iff.1 k2).1 (fun e => by simp at e)).trans k2, (hg.block _ (Array.getElem?_eq_some_iff.1 k3).1 (fun e => by simp at e)).trans k3, heap_setCell_same _ _ 1 _ _ _ k4, ?_, ?_⟩
 ·rw [show (ps ++ [(r, q)]).length = N + 1 by simp [hN], show flR (ps ++ [(r, q)]) = flR ps ++ (r.vals q).toList by simp [flR]]
  refine o1.kept hg (.inr fun e => ?_)
  obtain ⟨_, _, cur, hc⟩ := own_lt o1 e
  exact ne_ty hc k4 (by decide) rfl
 ·intro x hx
  rcases List.mem_append.1 hx with hx | hx
  ·exact h6 x hx
  ·rw [List.mem_singleton.1 hx]; exact hk
def Few9 (D : Nat) (l : List Rl) (ca : Option Addr) (m cc : Nat) (w0 w : World) (e : Ending) (w' : World) : Prop :=
 Below w.heap.size w w' ∧ ∃ (ps : List (Rl × RlP)) (a : Option Addr) (c : Nat), e = .returned (.agg #[.slice ca m cc, .slice a ps.length c]) ∧ ps.length ≤ 8 ∧ KeptR w0 D l ps ∧ w'.ownsRow w.heap.size 58 8 (.slice a ps.length c) ps.length (flR ps)
end Go.Proofs.YtclogekfdmikpaaDoor

/- The walk of few. -/
namespace Go.Proofs.YtclogekfdmikpaaDoor
open Go.RowKit Go.Shelf Go.Maps
set_option linter.unusedVariables false
set_option linter.unusedSimpArgs false

set_option maxRecDepth 100000 in
set_option maxHeartbeats 8000000 in
theorem few9_any (D K m : Nat) (l : List Rl) (ca ra : Option Addr) (cc rc : Nat) (w0 w : World) (hb0 : Below w0.heap.size w0 w) (hr : RowR w0 D ra l.length l) (hl : l.length ≤ 140737488355328) (hK : K ≤ cc) (hK2 : K ≤ 140737488355328) (hm : m = min K 30) :
 Calls Tryd.prog 10 #[.agg #[.slice ca K cc, .slice ra l.length rc]] w (Few9 D l ca m cc w0 w) := by
 obtain ⟨RN, hRN⟩ : ∃ RN, RN = l.length := ⟨_, rfl⟩
 have HRN : Hid (RN = l.length) := hRN
 have HR : Hid (RowR w0 D ra l.length l) := hr
 have HB0 : Hid (Below w0.heap.size w0 w) := hb0
 have hRi : (RN : Int) ≤ 140737488355328 := by omega
 have hKi : (K : Int) ≤ 140737488355328 := by omega
 have hmin := min_run K m 30 (by omega)
 have hcut := cutS ca K cc m (by omega)
 obtain ⟨j0, ji, jz0, jz1, jz2⟩ := info_parts info_Rl
 have HJ : Hid (Tryd.prog.info? 58 = some j0 ∧ j0.zero = some (.agg #[.int .i64 0, .slice none 0 0, .slice none 0 0, .int .i64 0, .slice none 0 0, .slice none 0 0, .bool false, .bool false]) ∧ j0.size = 8 ∧ j0.bytes = 120) := ⟨ji, jz0, jz1, jz2⟩
 obtain ⟨H, hH⟩ : ∃ H, H = w.heap.size := ⟨_, rfl⟩
 have HH : Hid (H = w.heap.size) := hH
 rw [← hRN]
 obtain ⟨W0, hW0⟩ : ∃ W0, W0 = ((w.alloc (.cells #[.slice ca K cc, .slice ra RN rc] 25)).alloc (.cells #[.slice none 0 0, .slice none 0 0] 25)).alloc (.cells #[.slice ca m cc, .slice none 0 0] 25) := ⟨_, rfl⟩
 have HF0 : Hid (FwS w0 w D l (.slice ca K cc) (.slice ra RN rc) (.slice ca m cc) (.slice none 0 0) [] W0) := by
  obtain ⟨b1, b2, b3⟩ := new_at3 w (.cells #[.slice ca K cc, .slice ra RN rc] 25) (.cells #[.slice none 0 0, .slice none 0 0] 25) (.cells #[.slice ca m cc, .slice none 0 0] 25)
  rw [← hW0] at b1 b2 b3
  refine ⟨?_, b1, b2, b3, ⟨rfl, .inl ⟨rfl, rfl⟩⟩, fun x hx => by simp at hx⟩
  rw [hW0]; exact (((Below.refl _ w).alloc (Nat.le_refl _) _).alloc (by simp) _).alloc (by simp; omega) _
 clear hr hb0 hl hRN hK hK2 hm ji jz0 jz1 jz2
 go_enter Tryd.func10, Tryd.ntmps10
 go_upto_region 2 with fail
 simp only [World.size_alloc, ← hH, show H + 1 + 1 = H + 2 from rfl]
 rw [← hW0]
 clear hH hW0 hmin hcut
 go_wp2_with fail
 go_loopw [4] (fun x4 wr => ∃ (k N cv : Nat) (av : Option Addr) (ps : List (Rl × RlP)), k ≤ RN ∧ N = ps.length ∧ N ≤ 8 ∧ x4 = .int .i64 (k : Int) ∧ FwS w0 w D l (.slice ca K cc) (.slice ra RN rc) (.slice ca m cc) (.slice av N cv) ps wr) (fun x4 _ => RN - (intOf x4).toNat)
 case atStart => exact ⟨0, 0, 0, none, [], by omega, rfl, by omega, rfl, HF0.out⟩
 case round =>
  obtain ⟨k, N, cv, av, ps, hk, hN, hN8, hx4, hfs⟩ := hrel
  subst hx4
  have HFS : Hid (FwS w0 w D l (.slice ca K cc) (.slice ra RN rc) (.slice ca m cc) (.slice av N cv) ps wr) := hfs
  have HN : Hid (N = ps.length) := hN
  clear hfs hN
  have d1 : wr.cell? ⟨H, 1, none⟩ = some (.slice ra RN rc) := by rw [HH.out]; exact cell_of_row _ _ 1 _ _ _ HFS.out.2.1
  have o0 : wr.cell? ⟨H + 2, 0, none⟩ = some (.slice ca m cc) := by rw [HH.out]; exact cell_of_row _ _ 0 _ _ _ HFS.out.2.2.2.1
  have o1 : wr.cell? ⟨H + 2, 1, none⟩ = some (.slice av N cv) := by rw [HH.out]; exact cell_of_row _ _ 1 _ _ _ HFS.out.2.2.2.1
  have hNi : (N : Int) ≤ 8 := by omega
  by_cases hlt : k < RN ∧ N < 6
  ·have hk1 : (k : Int) < (RN : Int) := by omega
   have hk2 : (N : Int) < 6 := by omega
   have hkl : k < l.length := by rw [← HRN.out]; exact hlt.1
   obtain ⟨b, off, q, rfl, hr0, t0, t1, t2, t3, t4, t5, t6, t7⟩ := HR.out.cells k hkl
   replace t0 := upC (HB0.out.trans (HFS.out.1.mono HB0.out.size)) t0
   replace t1 := upC (HB0.out.trans (HFS.out.1.mono HB0.out.size)) t1
   replace t2 := upC (HB0.out.trans (HFS.out.1.mono HB0.out.size)) t2
   replace t3 := upC (HB0.out.trans (HFS.out.1.mono HB0.out.size)) t3
   replace t4 := upC (HB0.out.trans (HFS.out.1.mono HB0.out.size)) t4
   replace t5 := upC (HB0.out.trans (HFS.out.1.mono HB0.out.size)) t5
   replace t6 := upC (HB0.out.trans (HFS.out.1.mono HB0.out.size)) t6
   replace t7 := upC (HB0.out.trans (HFS.out.1.mono HB0.out.size)) t7
   obtain ⟨r, hrr⟩ : ∃ r, r = l[k] := ⟨_, rfl⟩
   have HRR : Hid (r ∈ l) := by rw [hrr]; exact List.getElem_mem hkl
   have HRA : Hid (RlAt w0 D r q) := by rw [hrr]; exact hr0
   rw [← hrr] at t0 t1 t2 t3 t4 t5 t6 t7
   have HMO : Hid (∀ (W w1 : World) (g cp : Nat), Below wr.heap.size wr W → w1.ownsRow w.heap.size 58 8 (.slice (some ⟨g, 0, none⟩) (N + 1) cp) (N + 1) (flR ps ++ (r.vals q).toList) → W.grownBy w1 (Value.slice av N cv).ownBlock → (r.left.cnt ≤ 400 → r.left.cnt ≤ 30) → (r.right.cnt ≤ 400 → r.right.cnt ≤ 30) →
    (w1.cell? ⟨H + 2, 1, none⟩ = some (.slice av N cv) ∧ w1.frozen? ⟨H + 2, 1, none⟩ = false) ∧ FwS w0 w D l (.slice ca K cc) (.slice (some ⟨b, off, none⟩) RN rc) (.slice ca m cc) (.slice (some ⟨g, 0, none⟩) (N + 1) cp) (ps ++ [(r, q)]) (w1.setCell ⟨H + 2, 1, none⟩ (.slice (some ⟨g, 0, none⟩) (N + 1) cp))) := fun W w1 g cp hW h1 h2 h3 h4 => by
    rw [HH.out]; exact HFS.out.more HN.out hW h1 h2 ⟨HRA.out, HRR.out, h3, h4⟩
   clear hrr hr0
   obtain ⟨la, lc, lp, lpc, ra, rcc, rp, rpc⟩ := q
   have HSL : Hid (∀ V : World, Below wr.heap.size wr V → Calls Tryd.prog 22 #[.agg #[.int .i64 r.left.op, .slice la r.left.cl.length lc, .slice lp (toL r.left.kids).length lpc]] V (SmP r.left V)) := fun V hV => by
    have hB1 := HFS.out.1.trans (hV.mono HFS.out.1.size)
    have hB := HB0.out.trans (hB1.mono HB0.out.size)
    exact small9_any D r.left la lp lc lpc _ V (HRA.out.1.later hB D) hB.size
   have HSR : Hid (∀ V : World, Below wr.heap.size wr V → Calls Tryd.prog 22 #[.agg #[.int .i64 r.right.op, .slice ra r.right.cl.length rcc, .slice rp (toL r.right.kids).length rpc]] V (SmP r.right V)) := fun V hV => by
    have hB1 := HFS.out.1.trans (hV.mono HFS.out.1.size)
    have hB := HB0.out.trans (hB1.mono HB0.out.size)
    exact small9_any D r.right ra rp rcc rpc _ V (HRA.out.2.later hB D) hB.size
   obtain ⟨lo, hlo⟩ : ∃ lo, lo = r.left.op := ⟨_, rfl⟩
   obtain ⟨ln, hln⟩ : ∃ ln, ln = r.left.cl.length := ⟨_, rfl⟩
   obtain ⟨lk, hlk⟩ : ∃ lk, lk = (toL r.left.kids).length := ⟨_, rfl⟩
   obtain ⟨ro, hro⟩ : ∃ ro, ro = r.right.op := ⟨_, rfl⟩
   obtain ⟨rn, hrn⟩ : ∃ rn, rn = r.right.cl.length := ⟨_, rfl⟩
   obtain ⟨rk, hrk⟩ : ∃ rk, rk = (toL r.right.kids).length := ⟨_, rfl⟩
   obtain ⟨st, hst⟩ : ∃ st, st = r.start := ⟨_, rfl⟩
   obtain ⟨br, hbr⟩ : ∃ br, br = r.brk := ⟨_, rfl⟩
   simp only [Rl.vals, ← hlo, ← hln, ← hlk, ← hro, ← hrn, ← hrk, ← hst, ← hbr] at HMO HSL HSR t0 t1 t2 t3 t4 t5 t6 t7
   clear hlo hln hlk hro hrn hrk hst hbr
   obtain ⟨S, hS⟩ : ∃ S, S = wr.heap.size := ⟨_, rfl⟩
   obtain ⟨W1, hW1⟩ : ∃ W1, W1 = wr.alloc (.cells #[.int .i64 lo, .slice la ln lc, .slice lp lk lpc, .int .i64 ro, .slice ra rn rcc, .slice rp rk rpc, .bool br, .bool st] 58) := ⟨_, rfl⟩
   have HB1 : Hid (Below wr.heap.size wr W1) := by rw [hW1]; exact (Below.refl _ wr).alloc (Nat.le_refl _) _
   have HX1 : Hid (W1.heap[S]? = some (.cells #[.int .i64 lo, .slice la ln lc, .slice lp lk lpc, .int .i64 ro, .slice ra rn rcc, .slice rp rk rpc, .bool br, .bool st] 58)) := by show _ = _; rw [hS, hW1]; exact heap_alloc_new wr _
   go_upto_region 6 with fail
   rw [← hS, ← hW1]
   clear hS hW1 t0 t1 t2 t3 t4 t5 t6 t7 d1 o0 o1
   obtain ⟨t0, t1, t2, t3, t4, t5, t6, t7⟩ := box8 HX1.out
   go_wp2_with fail
   refine (HSL.out W1 HB1.out).mono ?_
   rintro e W2 ⟨bL, rfl, hbL, hb2⟩
   have HB2 : Hid (Below wr.heap.size wr W2) := HB1.out.trans (hb2.mono HB1.out.size)
   have HX2 : Hid (W2.heap[S]? = some (.cells #[.int .i64 lo, .slice la ln lc, .slice lp lk lpc, .int .i64 ro, .slice ra rn rcc, .slice rp rk rpc, .bool br, .bool st] 58)) := (hb2.block S (Array.getElem?_eq_some_iff.1 HX1.out).1).trans HX1.out
   clear hb2 t0 t1 t2 t3 t4 t5 t6 t7 HX1 HB1
   cases bL with
   | false =>
     clear hbL
     go_wp2_with fail
     go_roundw
     case rel => exact ⟨k + 1, N, cv, av, ps, by omega, HN.out, by omega, by go_num, HFS.out.later HB2.out⟩
     case measure => simp [intOf]; omega
   | true =>
     have HL1 : Hid (r.left.cnt ≤ 400 → r.left.cnt ≤ 30) := hbL rfl
     clear hbL
     obtain ⟨t0, t1, t2, t3, t4, t5, t6, t7⟩ := box8 HX2.out
     go_wp2_with fail
     refine (HSR.out W2 HB2.out).mono ?_
     rintro e W3 ⟨bR, rfl, hbR, hb3⟩
     have HB3 : Hid (Below wr.heap.size wr W3) := HB2.out.trans (hb3.mono HB2.out.size)
     have HX3 : Hid (W3.heap[S]? = some (.cells #[.int .i64 lo, .slice la ln lc, .slice lp lk lpc, .int .i64 ro, .slice ra rn rcc, .slice rp rk rpc, .bool br, .bool st] 58)) := (hb3.block S (Array.getElem?_eq_some_iff.1 HX2.out).1).trans HX2.out
     clear hb3 t0 t1 t2 t3 t4 t5 t6 t7 HX2 HB2
     cases bR with
     | false =>
       clear hbR
       go_wp2_with fail
       go_roundw
       case rel => exact ⟨k + 1, N, cv, av, ps, by omega, HN.out, by omega, by go_num, HFS.out.later HB3.out⟩
       case measure => simp [intOf]; omega
     | true =>
       have HR1 : Hid (r.right.cnt ≤ 400 → r.right.cnt ≤ 30) := hbR rfl
       clear hbR
       obtain ⟨t0, t1, t2, t3, t4, t5, t6, t7⟩ := box8 HX3.out
       have HF3 : Hid (FwS w0 w D l (.slice ca K cc) (.slice (some ⟨b, off, none⟩) RN rc) (.slice ca m cc) (.slice av N cv) ps W3) := HFS.out.later HB3.out
       have o1 : W3.cell? ⟨H + 2, 1, none⟩ = some (.slice av N cv) := by rw [HH.out]; exact cell_of_row _ _ 1 _ _ _ HF3.out.2.2.2.1
       have HBA : Hid (Below W3.heap.size W3 (W3.alloc (.cells #[.int .i64 lo, .slice la ln lc, .slice lp lk lpc, .int .i64 ro, .slice ra rn rcc, .slice rp rk rpc, .bool br, .bool st] 58))) := (Below.refl _ W3).alloc (Nat.le_refl _) _
       have HOW : Hid ((W3.alloc (.cells #[.int .i64 lo, .slice la ln lc, .slice lp lk lpc, .int .i64 ro, .slice ra rn rcc, .slice rp rk rpc, .bool br, .bool st] 58)).ownsRow w.heap.size 58 8 (.slice av N cv) N (flR ps)) := by
        have := own_later5 HF3.out.2.2.2.2.1 HBA.out
        rw [← HN.out] at this
        exact this
       have HFL : Hid ((flR ps).length = N * 8) := by show _ = _; rw [flR_len, HN.out]
       go_wp2_with (at_builtin; refine wpList_append_lies _ rfl _ _ 23 rfl w.heap.size 58 j0 _ 8 120 Tryd.underlying23 HJ.out.1 HJ.out.2.1 HJ.out.2.2.1 HJ.out.2.2.2 rfl (by decide) (.slice av N cv) N (flR ps) rfl HOW.out ⟨W3.heap.size, 0, none⟩ 1 1 [.int .i64 lo, .slice la ln lc, .slice lp lk lpc, .int .i64 ro, .slice ra rn rcc, .slice rp rk rpc, .bool br, .bool st] rfl rfl (World.news_of_block (cs := #[.int .i64 lo, .slice la ln lc, .slice lp lk lpc, .int .i64 ro, .slice ra rn rcc, .slice rp rk rpc, .bool br, .bool st]) (t := 58) (fr := (0, 0)) (heap_alloc_new W3 _)) (by simp [Value.oneCell']) (by omega) (by unfold maxLen; omega) (by omega) (by have := HF3.out.1.size; simp; omega) _ rfl (fun g4 cap4 w4 q1 q2 q3 q4 => ?_); obtain ⟨⟨x1, x2⟩, hf4⟩ := HMO.out _ w4 g4 cap4 (HB3.out.trans (HBA.out.mono HB3.out.size)) q1 q2 HL1.out HR1.out; have HF4 : Hid (FwS w0 w D l (.slice ca K cc) (.slice (some ⟨b, off, none⟩) RN rc) (.slice ca m cc) (.slice (some ⟨g4, 0, none⟩) (N + 1) cap4) (ps ++ [(r, ⟨la, lc, lp, lpc, ra, rcc, rp, rpc⟩)]) (w4.setCell ⟨H + 2, 1, none⟩ (.slice (some ⟨g4, 0, none⟩) (N + 1) cap4))) := hf4; clear q1 q2 q3 q4 hf4 o1 t0 t1 t2 t3 t4 t5 t6 t7)
       go_roundw
       case rel => exact ⟨k + 1, N + 1, cap4, some ⟨g4, 0, none⟩, ps ++ [(r, ⟨la, lc, lp, lpc, ra, rcc, rp, rpc⟩)], by omega, by simp [HN.out], by omega, by go_num, HF4.out⟩
       case measure => simp [intOf]; omega
  ·have z0 : wr.cell? ⟨H + 1, 0, none⟩ = some (.slice none 0 0) := by rw [HH.out]; exact cell_of_row _ _ 0 _ _ _ HFS.out.2.2.1
   have z1 : wr.cell? ⟨H + 1, 1, none⟩ = some (.slice none 0 0) := by rw [HH.out]; exact cell_of_row _ _ 1 _ _ _ HFS.out.2.2.1
   have y0 : wr.frozen? ⟨H + 1, 0, none⟩ = false := by rw [HH.out]; exact Lib.frozen_of_heap HFS.out.2.2.1 0
   have y1 : wr.frozen? ⟨H + 1, 1, none⟩ = false := by rw [HH.out]; exact Lib.frozen_of_heap HFS.out.2.2.1 1
   have HFIN : Hid (Few9 D l ca m cc w0 w (.returned (.agg #[.slice ca m cc, .slice av N cv])) ((wr.setCell ⟨H + 1, 0, none⟩ (.slice ca m cc)).setCell ⟨H + 1, 1, none⟩ (.slice av N cv))) := by
    obtain ⟨h1, h2, h3, h4, h5, h6⟩ := HFS.out
    have hg := grown_all (grown_cell wr (H + 1) 0 (Value.slice ca m cc)) (grown_cell _ (H + 1) 1 (Value.slice av N cv))
    refine ⟨h1.grown hg h1.size (fun y hy => by cases hy; have := HH.out; omega), ps, av, cv, by rw [← HN.out], by rw [← HN.out]; exact hN8, h6, ?_⟩
    rw [← HN.out] at h5 ⊢
    refine h5.kept hg ?_
    cases hx : (Value.slice av N cv).ownBlock with
    | none => exact .inl rfl
    | some g =>
      refine .inr fun e => ?_
      obtain ⟨_, _, cur, hc⟩ := own_lt h5 hx
      cases e
      rw [HH.out] at hc
      exact ne_ty hc h3 (by decide) rfl
   by_cases hkR : k < RN
   ·have hk1 : (k : Int) < (RN : Int) := by omega
    have hk2 : ¬ (N : Int) < 6 := by omega
    go_wp2
    refine bodyPost_ret (v := .agg #[.slice ca m cc, .slice av N cv]) ?_ rfl HFIN.out
    rw [results_cell_one rfl]
    go_simp
   ·have hk1 : ¬ (k : Int) < (RN : Int) := by omega
    go_wp2
    refine bodyPost_ret (v := .agg #[.slice ca m cc, .slice av N cv]) ?_ rfl HFIN.out
    rw [results_cell_one rfl]
    go_simp
end Go.Proofs.YtclogekfdmikpaaDoor

/- Expressions kept in rows; the walk of few. -/
namespace Go.Proofs.YtclogekfdmikpaaDoor
open Go.RowKit Go.Shelf Go.Maps
set_option linter.unusedVariables false
set_option linter.unusedSimpArgs false

def FlX (B : Nat) (w : World) (D : Nat) (xs : List (Nd × Bool)) (fl : List Value) : Prop :=
 fl.length = xs.length * 4 ∧ ∀ i (hi : i < xs.length), ∃ us, InV B w D xs[i].1 us ∧ (∀ j v, us[j]? = some v → fl[i * 4 + j]? = some v) ∧ fl[i * 4 + 3]? = some (.bool xs[i].2)
theorem FlX.nil (B : Nat) (w : World) (D : Nat) : FlX B w D [] [] := ⟨rfl, fun i hi => by simp at hi⟩
theorem FlX.later {B : Nat} {w w' : World} {D : Nat} {xs : List (Nd × Bool)} {fl : List Value} (h : FlX B w D xs fl) (hb : ∀ n us, InV B w D n us → InV B w' D n us) : FlX B w' D xs fl :=
 ⟨h.1, fun i hi => by obtain ⟨us, h1, h2, h3⟩ := h.2 i hi; exact ⟨us, hb _ _ h1, h2, h3⟩⟩
theorem FlX.snoc {B : Nat} {w : World} {D : Nat} {xs : List (Nd × Bool)} {fl : List Value} (h : FlX B w D xs fl) {x : Nd × Bool} {u0 u1 u2 : Value} (hx : InV B w D x.1 [u0, u1, u2]) : FlX B w D (xs ++ [x]) (fl ++ [u0, u1, u2, .bool x.2]) := by
 refine ⟨by simp [h.1]; omega, fun i hi => ?_⟩
 rcases Nat.lt_or_ge i xs.length with hl | hl
 ·obtain ⟨us, h1, h2, h3⟩ := h.2 i hl
  rw [List.getElem_append_left hl]
  refine ⟨us, h1, fun j v hv => ?_, ?_⟩
  ·have := h2 j v hv
   rw [List.getElem?_append_left (List.getElem?_eq_some_iff.1 this).1]; exact this
  ·rw [List.getElem?_append_left (List.getElem?_eq_some_iff.1 h3).1]; exact h3
 ·obtain rfl : i = xs.length := by simp at hi; omega
  rw [List.getElem_append_right (Nat.le_refl _)]
  simp only [Nat.sub_self, List.getElem_cons_zero]
  refine ⟨[u0, u1, u2], hx, fun j v hv => ?_, ?_⟩
  ·rw [List.getElem?_append_right (by rw [h.1]; omega), h.1, show xs.length * 4 + j - xs.length * 4 = j by omega]
   match j, hv with
   | 0, hv => exact hv
   | 1, hv => exact hv
   | 2, hv => exact hv
   | j + 3, hv => simp at hv
  ·rw [List.getElem?_append_right (by rw [h.1]; omega), h.1, show xs.length * 4 + 3 - xs.length * 4 = 3 by omega]
   rfl
theorem own_cellsN {w : World} {B : Nat} {e : TypeId} {s n : Nat} {a : Option Addr} {cap : Nat} {vs : List Value} (h : w.ownsRow B e s (.slice a n cap) n vs) (hn : 0 < n) : ∃ g, a = some ⟨g, 0, none⟩ ∧ ∀ i, i < n * s → w.cell? ⟨g, i, none⟩ = vs[i]? := by
 rcases h.2 with ⟨hv, h0⟩ | ⟨g, cap', cur, hv, hb, hg, hnc, hm, hs, ht⟩
 ·omega
 ·cases hv
  refine ⟨g, rfl, fun i hi => ?_⟩
  rw [cell_of_row w g i _ _ _ hg, ← ht, List.getElem?_take, if_pos (by omega)]
  simp
theorem FlX.row {B B0 : Nat} {w : World} {D : Nat} {xs : List (Nd × Bool)} {fl : List Value} {e : TypeId} {a : Option Addr} {cap : Nat} (h : FlX B w D xs fl) (ho : w.ownsRow B0 e 4 (.slice a xs.length cap) xs.length fl) : XRow B w D a xs := by
 intro hp
 obtain ⟨g, rfl, hc⟩ := own_cellsN ho hp
 refine ⟨g, 0, rfl, fun i hi => ?_⟩
 obtain ⟨us, h1, h2, h3⟩ := h.2 i hi
 refine ⟨us, h1, fun j v hv => ?_, ?_⟩
 ·have := h2 j v hv
  have hlt := (List.getElem?_eq_some_iff.1 this).1
  rw [h.1] at hlt
  rw [Nat.zero_add, hc _ hlt]; exact this
 ·have hlt := (List.getElem?_eq_some_iff.1 h3).1
  rw [h.1] at hlt
  rw [Nat.zero_add, hc _ hlt]; exact h3
end Go.Proofs.YtclogekfdmikpaaDoor

/- What few keeps is a row of rules. -/
namespace Go.Proofs.YtclogekfdmikpaaDoor
open Go.RowKit Go.Shelf Go.Maps
set_option linter.unusedVariables false
set_option linter.unusedSimpArgs false

theorem flR_get : (ps : List (Rl × RlP)) → (i : Nat) → (hi : i < ps.length) → (j : Nat) → j < 8 → (flR ps)[i * 8 + j]? = (ps[i].1.vals ps[i].2)[j]?
 | x :: r, 0, hi, j, hj => by
   show ((x.1.vals x.2).toList ++ flR r)[0 * 8 + j]? = _
   rw [List.getElem?_append_left (by simp; omega)]
   simp
 | x :: r, i + 1, hi, j, hj => by
   show ((x.1.vals x.2).toList ++ flR r)[(i + 1) * 8 + j]? = _
   rw [List.getElem?_append_right (by simp; omega)]
   have h := flR_get r i (by simpa using hi) j hj
   rw [show (i + 1) * 8 + j - (x.1.vals x.2).toList.length = i * 8 + j by simp; omega]
   exact h
theorem kept_row {w w' : World} {D B : Nat} {l : List Rl} {ps : List (Rl × RlP)} {a : Option Addr} {c : Nat} (hk : KeptR w D l ps) (hb : Below w.heap.size w w') (ho : w'.ownsRow B 58 8 (.slice a ps.length c) ps.length (flR ps)) : RowR w' D a (ps.map fun x => x.1).length (ps.map fun x => x.1) := by
 refine ⟨rfl, fun i hi => ?_⟩
 have hi' : i < ps.length := by simpa using hi
 obtain ⟨g, rfl, hc⟩ := own_cellsN ho (by omega)
 have e : (ps.map fun x => x.1)[i] = ps[i].1 := by simp
 refine ⟨g, 0, ps[i].2, rfl, by rw [e]; exact ((hk ps[i] (List.getElem_mem hi')).1).later hb, fun j v hv => ?_⟩
 rw [e] at hv
 have hj : j < 8 := by
  rcases Nat.lt_or_ge j 8 with h | h
  ·exact h
  ·rw [Array.getElem?_eq_none (by simpa using h)] at hv; cases hv
 rw [Nat.zero_add, hc _ (by omega), flR_get ps i hi' j hj]
 exact hv
end Go.Proofs.YtclogekfdmikpaaDoor
