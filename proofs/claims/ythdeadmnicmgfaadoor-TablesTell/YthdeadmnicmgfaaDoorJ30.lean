/- In one text: TabJ, DfaRj, TabL, TablesDecideW. -/
import Derived.Test.YthdeadmnicmgfaaDoorJ29
import Derived.BigQuiet
/- The walk of few. -/
namespace Go.Proofs.YthdeadmnicmgfaaDoor
open Go.RowKit Go.Shelf Go.Maps
set_option linter.unusedVariables false
set_option linter.unusedSimpArgs false

set_option maxRecDepth 100000 in
set_option maxHeartbeats 8000000 in
theorem few9_any (D K m : Nat) (l : List Rl) (ca ra : Option Addr) (cc rc : Nat) (w0 w : World) (hb0 : Below w0.heap.size w0 w) (hr : RowR w0 D ra l.length l) (hl : l.length ≤ 140737488355328) (hK : K ≤ cc) (hK2 : K ≤ 140737488355328) (hm : m = min K 30) :
    Calls Tryd.prog 17 #[.agg #[.slice ca K cc, .slice ra l.length rc]] w (Few9 D l ca m cc w0 w) := by
  obtain ⟨RN, hRN⟩ : ∃ RN, RN = l.length := ⟨_, rfl⟩
  have HRN : Hid (RN = l.length) := hRN
  have HR : Hid (RowR w0 D ra l.length l) := hr
  have HB0 : Hid (Below w0.heap.size w0 w) := hb0
  have hRi : (RN : Int) ≤ 140737488355328 := by omega
  have hKi : (K : Int) ≤ 140737488355328 := by omega
  have hmin := min_run K m 30 (by omega)
  have hcut := cutS ca K cc m (by omega)
  obtain ⟨j0, ji, jz0, jz1, jz2⟩ := info_parts info_Rl
  have HJ : Hid (Tryd.prog.info? 64 = some j0 ∧ j0.zero = some (.agg #[.int .i64 0, .slice none 0 0, .slice none 0 0, .int .i64 0, .slice none 0 0, .slice none 0 0, .bool false, .bool false]) ∧ j0.size = 8 ∧ j0.bytes = 120) := ⟨ji, jz0, jz1, jz2⟩
  obtain ⟨H, hH⟩ : ∃ H, H = w.heap.size := ⟨_, rfl⟩
  have HH : Hid (H = w.heap.size) := hH
  rw [← hRN]
  obtain ⟨W0, hW0⟩ : ∃ W0, W0 = ((w.alloc (.cells #[.slice ca K cc, .slice ra RN rc] 47)).alloc (.cells #[.slice none 0 0, .slice none 0 0] 47)).alloc (.cells #[.slice ca m cc, .slice none 0 0] 47) := ⟨_, rfl⟩
  have HF0 : Hid (FwS w0 w D l (.slice ca K cc) (.slice ra RN rc) (.slice ca m cc) (.slice none 0 0) [] W0) := by
    obtain ⟨b1, b2, b3⟩ := new_at3 w (.cells #[.slice ca K cc, .slice ra RN rc] 47) (.cells #[.slice none 0 0, .slice none 0 0] 47) (.cells #[.slice ca m cc, .slice none 0 0] 47)
    rw [← hW0] at b1 b2 b3
    refine ⟨?_, b1, b2, b3, ⟨rfl, .inl ⟨rfl, rfl⟩⟩, fun x hx => by simp at hx⟩
    rw [hW0]; exact (((Below.refl _ w).alloc (Nat.le_refl _) _).alloc (by simp) _).alloc (by simp; omega) _
  clear hr hb0 hl hRN hK hK2 hm ji jz0 jz1 jz2
  go_enter Tryd.func17, Tryd.ntmps17
  go_upto_region 2 with fail
  simp only [World.size_alloc, ← hH, show H + 1 + 1 = H + 2 from rfl]
  rw [← hW0]
  clear hH hW0 hmin hcut
  go_wp2_with fail
  go_loopw [4] (fun x4 wr => ∃ (k N cv : Nat) (av : Option Addr) (ps : List (Rl × RlP)), k ≤ RN ∧ N = ps.length ∧ N ≤ 8 ∧ x4 = .int .i64 (k : Int) ∧ FwS w0 w D l (.slice ca K cc) (.slice ra RN rc) (.slice ca m cc) (.slice av N cv) ps wr) (fun x4 _ => RN - (intOf x4).toNat)
  case atStart => exact ⟨0, 0, 0, none, [], by omega, rfl, by omega, rfl, HF0.out⟩
  case round =>
    obtain ⟨k, N, cv, av, ps, hk, hN, hN8, hx4, hfs⟩ := hrel
    subst hx4
    have HFS : Hid (FwS w0 w D l (.slice ca K cc) (.slice ra RN rc) (.slice ca m cc) (.slice av N cv) ps wr) := hfs
    have HN : Hid (N = ps.length) := hN
    clear hfs hN
    have d1 : wr.cell? ⟨H, 1, none⟩ = some (.slice ra RN rc) := by rw [HH.out]; exact cell_of_row _ _ 1 _ _ _ HFS.out.2.1
    have o0 : wr.cell? ⟨H + 2, 0, none⟩ = some (.slice ca m cc) := by rw [HH.out]; exact cell_of_row _ _ 0 _ _ _ HFS.out.2.2.2.1
    have o1 : wr.cell? ⟨H + 2, 1, none⟩ = some (.slice av N cv) := by rw [HH.out]; exact cell_of_row _ _ 1 _ _ _ HFS.out.2.2.2.1
    have hNi : (N : Int) ≤ 8 := by omega
    by_cases hlt : k < RN ∧ N < 8
    · have hk1 : (k : Int) < (RN : Int) := by omega
      have hk2 : (N : Int) < 8 := by omega
      have hkl : k < l.length := by rw [← HRN.out]; exact hlt.1
      obtain ⟨b, off, q, rfl, hr0, t0, t1, t2, t3, t4, t5, t6, t7⟩ := HR.out.cells k hkl
      replace t0 := upC (HB0.out.trans (HFS.out.1.mono HB0.out.size)) t0
      replace t1 := upC (HB0.out.trans (HFS.out.1.mono HB0.out.size)) t1
      replace t2 := upC (HB0.out.trans (HFS.out.1.mono HB0.out.size)) t2
      replace t3 := upC (HB0.out.trans (HFS.out.1.mono HB0.out.size)) t3
      replace t4 := upC (HB0.out.trans (HFS.out.1.mono HB0.out.size)) t4
      replace t5 := upC (HB0.out.trans (HFS.out.1.mono HB0.out.size)) t5
      replace t6 := upC (HB0.out.trans (HFS.out.1.mono HB0.out.size)) t6
      replace t7 := upC (HB0.out.trans (HFS.out.1.mono HB0.out.size)) t7
      obtain ⟨r, hrr⟩ : ∃ r, r = l[k] := ⟨_, rfl⟩
      have HRR : Hid (r ∈ l) := by rw [hrr]; exact List.getElem_mem hkl
      have HRA : Hid (RlAt w0 D r q) := by rw [hrr]; exact hr0
      rw [← hrr] at t0 t1 t2 t3 t4 t5 t6 t7
      have HMO : Hid (∀ (W w1 : World) (g cp : Nat), Below wr.heap.size wr W → w1.ownsRow w.heap.size 64 8 (.slice (some ⟨g, 0, none⟩) (N + 1) cp) (N + 1) (flR ps ++ (r.vals q).toList) → W.grownBy w1 (Value.slice av N cv).ownBlock → (r.left.cnt ≤ 400 → r.left.cnt ≤ 30) → (r.right.cnt ≤ 400 → r.right.cnt ≤ 30) →
          (w1.cell? ⟨H + 2, 1, none⟩ = some (.slice av N cv) ∧ w1.frozen? ⟨H + 2, 1, none⟩ = false) ∧ FwS w0 w D l (.slice ca K cc) (.slice (some ⟨b, off, none⟩) RN rc) (.slice ca m cc) (.slice (some ⟨g, 0, none⟩) (N + 1) cp) (ps ++ [(r, q)]) (w1.setCell ⟨H + 2, 1, none⟩ (.slice (some ⟨g, 0, none⟩) (N + 1) cp))) := fun W w1 g cp hW h1 h2 h3 h4 => by
        rw [HH.out]; exact HFS.out.more HN.out hW h1 h2 ⟨HRA.out, HRR.out, h3, h4⟩
      clear hrr hr0
      obtain ⟨la, lc, lp, lpc, ra, rcc, rp, rpc⟩ := q
      have HSL : Hid (∀ V : World, Below wr.heap.size wr V → Calls Tryd.prog 42 #[.agg #[.int .i64 r.left.op, .slice la r.left.cl.length lc, .slice lp (toL r.left.kids).length lpc]] V (SmP r.left V)) := fun V hV => by
        have hB1 := HFS.out.1.trans (hV.mono HFS.out.1.size)
        have hB := HB0.out.trans (hB1.mono HB0.out.size)
        exact small9_any D r.left la lp lc lpc _ V (HRA.out.1.later hB D) hB.size
      have HSR : Hid (∀ V : World, Below wr.heap.size wr V → Calls Tryd.prog 42 #[.agg #[.int .i64 r.right.op, .slice ra r.right.cl.length rcc, .slice rp (toL r.right.kids).length rpc]] V (SmP r.right V)) := fun V hV => by
        have hB1 := HFS.out.1.trans (hV.mono HFS.out.1.size)
        have hB := HB0.out.trans (hB1.mono HB0.out.size)
        exact small9_any D r.right ra rp rcc rpc _ V (HRA.out.2.later hB D) hB.size
      obtain ⟨lo, hlo⟩ : ∃ lo, lo = r.left.op := ⟨_, rfl⟩
      obtain ⟨ln, hln⟩ : ∃ ln, ln = r.left.cl.length := ⟨_, rfl⟩
      obtain ⟨lk, hlk⟩ : ∃ lk, lk = (toL r.left.kids).length := ⟨_, rfl⟩
      obtain ⟨ro, hro⟩ : ∃ ro, ro = r.right.op := ⟨_, rfl⟩
      obtain ⟨rn, hrn⟩ : ∃ rn, rn = r.right.cl.length := ⟨_, rfl⟩
      obtain ⟨rk, hrk⟩ : ∃ rk, rk = (toL r.right.kids).length := ⟨_, rfl⟩
      obtain ⟨st, hst⟩ : ∃ st, st = r.start := ⟨_, rfl⟩
      obtain ⟨br, hbr⟩ : ∃ br, br = r.brk := ⟨_, rfl⟩
      simp only [Rl.vals, ← hlo, ← hln, ← hlk, ← hro, ← hrn, ← hrk, ← hst, ← hbr] at HMO HSL HSR t0 t1 t2 t3 t4 t5 t6 t7
      clear hlo hln hlk hro hrn hrk hst hbr
      obtain ⟨S, hS⟩ : ∃ S, S = wr.heap.size := ⟨_, rfl⟩
      obtain ⟨W1, hW1⟩ : ∃ W1, W1 = wr.alloc (.cells #[.int .i64 lo, .slice la ln lc, .slice lp lk lpc, .int .i64 ro, .slice ra rn rcc, .slice rp rk rpc, .bool br, .bool st] 64) := ⟨_, rfl⟩
      have HB1 : Hid (Below wr.heap.size wr W1) := by rw [hW1]; exact (Below.refl _ wr).alloc (Nat.le_refl _) _
      have HX1 : Hid (W1.heap[S]? = some (.cells #[.int .i64 lo, .slice la ln lc, .slice lp lk lpc, .int .i64 ro, .slice ra rn rcc, .slice rp rk rpc, .bool br, .bool st] 64)) := by show _ = _; rw [hS, hW1]; exact heap_alloc_new wr _
      go_upto_region 6 with fail
      rw [← hS, ← hW1]
      clear hS hW1 t0 t1 t2 t3 t4 t5 t6 t7 d1 o0 o1
      obtain ⟨t0, t1, t2, t3, t4, t5, t6, t7⟩ := box8 HX1.out
      go_wp2_with fail
      refine (HSL.out W1 HB1.out).mono ?_
      rintro e W2 ⟨bL, rfl, hbL, hb2⟩
      have HB2 : Hid (Below wr.heap.size wr W2) := HB1.out.trans (hb2.mono HB1.out.size)
      have HX2 : Hid (W2.heap[S]? = some (.cells #[.int .i64 lo, .slice la ln lc, .slice lp lk lpc, .int .i64 ro, .slice ra rn rcc, .slice rp rk rpc, .bool br, .bool st] 64)) := (hb2.block S (Array.getElem?_eq_some_iff.1 HX1.out).1).trans HX1.out
      clear hb2 t0 t1 t2 t3 t4 t5 t6 t7 HX1 HB1
      cases bL with
      | false =>
        clear hbL
        go_wp2_with fail
        go_roundw
        case rel => exact ⟨k + 1, N, cv, av, ps, by omega, HN.out, by omega, by go_num, HFS.out.later HB2.out⟩
        case measure => simp [intOf]; omega
      | true =>
        have HL1 : Hid (r.left.cnt ≤ 400 → r.left.cnt ≤ 30) := hbL rfl
        clear hbL
        obtain ⟨t0, t1, t2, t3, t4, t5, t6, t7⟩ := box8 HX2.out
        go_wp2_with fail
        refine (HSR.out W2 HB2.out).mono ?_
        rintro e W3 ⟨bR, rfl, hbR, hb3⟩
        have HB3 : Hid (Below wr.heap.size wr W3) := HB2.out.trans (hb3.mono HB2.out.size)
        have HX3 : Hid (W3.heap[S]? = some (.cells #[.int .i64 lo, .slice la ln lc, .slice lp lk lpc, .int .i64 ro, .slice ra rn rcc, .slice rp rk rpc, .bool br, .bool st] 64)) := (hb3.block S (Array.getElem?_eq_some_iff.1 HX2.out).1).trans HX2.out
        clear hb3 t0 t1 t2 t3 t4 t5 t6 t7 HX2 HB2
        cases bR with
        | false =>
          clear hbR
          go_wp2_with fail
          go_roundw
          case rel => exact ⟨k + 1, N, cv, av, ps, by omega, HN.out, by omega, by go_num, HFS.out.later HB3.out⟩
          case measure => simp [intOf]; omega
        | true =>
          have HR1 : Hid (r.right.cnt ≤ 400 → r.right.cnt ≤ 30) := hbR rfl
          clear hbR
          obtain ⟨t0, t1, t2, t3, t4, t5, t6, t7⟩ := box8 HX3.out
          have HF3 : Hid (FwS w0 w D l (.slice ca K cc) (.slice (some ⟨b, off, none⟩) RN rc) (.slice ca m cc) (.slice av N cv) ps W3) := HFS.out.later HB3.out
          have o1 : W3.cell? ⟨H + 2, 1, none⟩ = some (.slice av N cv) := by rw [HH.out]; exact cell_of_row _ _ 1 _ _ _ HF3.out.2.2.2.1
          have HBA : Hid (Below W3.heap.size W3 (W3.alloc (.cells #[.int .i64 lo, .slice la ln lc, .slice lp lk lpc, .int .i64 ro, .slice ra rn rcc, .slice rp rk rpc, .bool br, .bool st] 64))) := (Below.refl _ W3).alloc (Nat.le_refl _) _
          have HOW : Hid ((W3.alloc (.cells #[.int .i64 lo, .slice la ln lc, .slice lp lk lpc, .int .i64 ro, .slice ra rn rcc, .slice rp rk rpc, .bool br, .bool st] 64)).ownsRow w.heap.size 64 8 (.slice av N cv) N (flR ps)) := by
            have := own_later5 HF3.out.2.2.2.2.1 HBA.out
            rw [← HN.out] at this
            exact this
          have HFL : Hid ((flR ps).length = N * 8) := by show _ = _; rw [flR_len, HN.out]
          go_wp2_with (at_builtin; refine wpList_append_lies _ rfl _ _ 45 rfl w.heap.size 64 j0 _ 8 120 Tryd.underlying45 HJ.out.1 HJ.out.2.1 HJ.out.2.2.1 HJ.out.2.2.2 rfl (by decide) (.slice av N cv) N (flR ps) rfl HOW.out ⟨W3.heap.size, 0, none⟩ 1 1 [.int .i64 lo, .slice la ln lc, .slice lp lk lpc, .int .i64 ro, .slice ra rn rcc, .slice rp rk rpc, .bool br, .bool st] rfl rfl (World.news_of_block (cs := #[.int .i64 lo, .slice la ln lc, .slice lp lk lpc, .int .i64 ro, .slice ra rn rcc, .slice rp rk rpc, .bool br, .bool st]) (t := 64) (fr := (0, 0)) (heap_alloc_new W3 _)) (by simp [Value.oneCell']) (by omega) (by unfold maxLen; omega) (by omega) (by have := HF3.out.1.size; simp; omega) _ rfl (fun g4 cap4 w4 q1 q2 q3 q4 => ?_); obtain ⟨⟨x1, x2⟩, hf4⟩ := HMO.out _ w4 g4 cap4 (HB3.out.trans (HBA.out.mono HB3.out.size)) q1 q2 HL1.out HR1.out; have HF4 : Hid (FwS w0 w D l (.slice ca K cc) (.slice (some ⟨b, off, none⟩) RN rc) (.slice ca m cc) (.slice (some ⟨g4, 0, none⟩) (N + 1) cap4) (ps ++ [(r, ⟨la, lc, lp, lpc, ra, rcc, rp, rpc⟩)]) (w4.setCell ⟨H + 2, 1, none⟩ (.slice (some ⟨g4, 0, none⟩) (N + 1) cap4))) := hf4; clear q1 q2 q3 q4 hf4 o1 t0 t1 t2 t3 t4 t5 t6 t7)
          go_roundw
          case rel => exact ⟨k + 1, N + 1, cap4, some ⟨g4, 0, none⟩, ps ++ [(r, ⟨la, lc, lp, lpc, ra, rcc, rp, rpc⟩)], by omega, by simp [HN.out], by omega, by go_num, HF4.out⟩
          case measure => simp [intOf]; omega
    · have z0 : wr.cell? ⟨H + 1, 0, none⟩ = some (.slice none 0 0) := by rw [HH.out]; exact cell_of_row _ _ 0 _ _ _ HFS.out.2.2.1
      have z1 : wr.cell? ⟨H + 1, 1, none⟩ = some (.slice none 0 0) := by rw [HH.out]; exact cell_of_row _ _ 1 _ _ _ HFS.out.2.2.1
      have y0 : wr.frozen? ⟨H + 1, 0, none⟩ = false := by rw [HH.out]; exact Lib.frozen_of_heap HFS.out.2.2.1 0
      have y1 : wr.frozen? ⟨H + 1, 1, none⟩ = false := by rw [HH.out]; exact Lib.frozen_of_heap HFS.out.2.2.1 1
      have HFIN : Hid (Few9 D l ca m cc w0 w (.returned (.agg #[.slice ca m cc, .slice av N cv])) ((wr.setCell ⟨H + 1, 0, none⟩ (.slice ca m cc)).setCell ⟨H + 1, 1, none⟩ (.slice av N cv))) := by
        obtain ⟨h1, h2, h3, h4, h5, h6⟩ := HFS.out
        have hg := grown_all (grown_cell wr (H + 1) 0 (Value.slice ca m cc)) (grown_cell _ (H + 1) 1 (Value.slice av N cv))
        refine ⟨h1.grown hg h1.size (fun y hy => by cases hy; have := HH.out; omega), ps, av, cv, by rw [← HN.out], by rw [← HN.out]; exact hN8, h6, ?_⟩
        rw [← HN.out] at h5 ⊢
        refine h5.kept hg ?_
        cases hx : (Value.slice av N cv).ownBlock with
        | none => exact .inl rfl
        | some g =>
          refine .inr fun e => ?_
          obtain ⟨_, _, cur, hc⟩ := own_lt h5 hx
          cases e
          rw [HH.out] at hc
          exact ne_ty hc h3 (by decide) rfl
      by_cases hkR : k < RN
      · have hk1 : (k : Int) < (RN : Int) := by omega
        have hk2 : ¬ (N : Int) < 8 := by omega
        go_wp2
        refine bodyPost_ret (v := .agg #[.slice ca m cc, .slice av N cv]) ?_ rfl HFIN.out
        rw [results_cell_one rfl]
        go_simp
      · have hk1 : ¬ (k : Int) < (RN : Int) := by omega
        go_wp2
        refine bodyPost_ret (v := .agg #[.slice ca m cc, .slice av N cv]) ?_ rfl HFIN.out
        rw [results_cell_one rfl]
        go_simp
end Go.Proofs.YthdeadmnicmgfaaDoor

/- Expressions kept in rows; the walk of few. -/
namespace Go.Proofs.YthdeadmnicmgfaaDoor
open Go.RowKit Go.Shelf Go.Maps
set_option linter.unusedVariables false
set_option linter.unusedSimpArgs false

/-- Expressions as cells. -/
def FlX (B : Nat) (w : World) (D : Nat) (xs : List (Nd × Bool)) (fl : List Value) : Prop :=
  fl.length = xs.length * 4 ∧ ∀ i (hi : i < xs.length), ∃ us, InV B w D xs[i].1 us ∧ (∀ j v, us[j]? = some v → fl[i * 4 + j]? = some v) ∧ fl[i * 4 + 3]? = some (.bool xs[i].2)
theorem FlX.nil (B : Nat) (w : World) (D : Nat) : FlX B w D [] [] := ⟨rfl, fun i hi => by simp at hi⟩
theorem FlX.later {B : Nat} {w w' : World} {D : Nat} {xs : List (Nd × Bool)} {fl : List Value} (h : FlX B w D xs fl) (hb : ∀ n us, InV B w D n us → InV B w' D n us) : FlX B w' D xs fl :=
  ⟨h.1, fun i hi => by obtain ⟨us, h1, h2, h3⟩ := h.2 i hi; exact ⟨us, hb _ _ h1, h2, h3⟩⟩
theorem FlX.snoc {B : Nat} {w : World} {D : Nat} {xs : List (Nd × Bool)} {fl : List Value} (h : FlX B w D xs fl) {x : Nd × Bool} {u0 u1 u2 : Value} (hx : InV B w D x.1 [u0, u1, u2]) : FlX B w D (xs ++ [x]) (fl ++ [u0, u1, u2, .bool x.2]) := by
  refine ⟨by simp [h.1]; omega, fun i hi => ?_⟩
  rcases Nat.lt_or_ge i xs.length with hl | hl
  · obtain ⟨us, h1, h2, h3⟩ := h.2 i hl
    rw [List.getElem_append_left hl]
    refine ⟨us, h1, fun j v hv => ?_, ?_⟩
    · have := h2 j v hv
      rw [List.getElem?_append_left (List.getElem?_eq_some_iff.1 this).1]; exact this
    · rw [List.getElem?_append_left (List.getElem?_eq_some_iff.1 h3).1]; exact h3
  · obtain rfl : i = xs.length := by simp at hi; omega
    rw [List.getElem_append_right (Nat.le_refl _)]
    simp only [Nat.sub_self, List.getElem_cons_zero]
    refine ⟨[u0, u1, u2], hx, fun j v hv => ?_, ?_⟩
    · rw [List.getElem?_append_right (by rw [h.1]; omega), h.1, show xs.length * 4 + j - xs.length * 4 = j by omega]
      match j, hv with
      | 0, hv => exact hv
      | 1, hv => exact hv
      | 2, hv => exact hv
      | j + 3, hv => simp at hv
    · rw [List.getElem?_append_right (by rw [h.1]; omega), h.1, show xs.length * 4 + 3 - xs.length * 4 = 3 by omega]
      rfl
theorem own_cellsN {w : World} {B : Nat} {e : TypeId} {s n : Nat} {a : Option Addr} {cap : Nat} {vs : List Value} (h : w.ownsRow B e s (.slice a n cap) n vs) (hn : 0 < n) : ∃ g, a = some ⟨g, 0, none⟩ ∧ ∀ i, i < n * s → w.cell? ⟨g, i, none⟩ = vs[i]? := by
  rcases h.2 with ⟨hv, h0⟩ | ⟨g, cap', cur, hv, hb, hg, hnc, hm, hs, ht⟩
  · omega
  · cases hv
    refine ⟨g, rfl, fun i hi => ?_⟩
    rw [cell_of_row w g i _ _ _ hg, ← ht, List.getElem?_take, if_pos (by omega)]
    simp
/-- Such a row reads as expressions. -/
theorem FlX.row {B B0 : Nat} {w : World} {D : Nat} {xs : List (Nd × Bool)} {fl : List Value} {e : TypeId} {a : Option Addr} {cap : Nat} (h : FlX B w D xs fl) (ho : w.ownsRow B0 e 4 (.slice a xs.length cap) xs.length fl) : XRow B w D a xs := by
  intro hp
  obtain ⟨g, rfl, hc⟩ := own_cellsN ho hp
  refine ⟨g, 0, rfl, fun i hi => ?_⟩
  obtain ⟨us, h1, h2, h3⟩ := h.2 i hi
  refine ⟨us, h1, fun j v hv => ?_, ?_⟩
  · have := h2 j v hv
    have hlt := (List.getElem?_eq_some_iff.1 this).1
    rw [h.1] at hlt
    rw [Nat.zero_add, hc _ hlt]; exact this
  · have hlt := (List.getElem?_eq_some_iff.1 h3).1
    rw [h.1] at hlt
    rw [Nat.zero_add, hc _ hlt]; exact h3
end Go.Proofs.YthdeadmnicmgfaaDoor

/- What few keeps is a row of rules. -/
namespace Go.Proofs.YthdeadmnicmgfaaDoor
open Go.RowKit Go.Shelf Go.Maps
set_option linter.unusedVariables false
set_option linter.unusedSimpArgs false

theorem flR_get : (ps : List (Rl × RlP)) → (i : Nat) → (hi : i < ps.length) → (j : Nat) → j < 8 → (flR ps)[i * 8 + j]? = (ps[i].1.vals ps[i].2)[j]?
  | x :: r, 0, hi, j, hj => by
    show ((x.1.vals x.2).toList ++ flR r)[0 * 8 + j]? = _
    rw [List.getElem?_append_left (by simp; omega)]
    simp
  | x :: r, i + 1, hi, j, hj => by
    show ((x.1.vals x.2).toList ++ flR r)[(i + 1) * 8 + j]? = _
    rw [List.getElem?_append_right (by simp; omega)]
    have h := flR_get r i (by simpa using hi) j hj
    rw [show (i + 1) * 8 + j - (x.1.vals x.2).toList.length = i * 8 + j by simp; omega]
    exact h
theorem kept_row {w w' : World} {D B : Nat} {l : List Rl} {ps : List (Rl × RlP)} {a : Option Addr} {c : Nat} (hk : KeptR w D l ps) (hb : Below w.heap.size w w') (ho : w'.ownsRow B 64 8 (.slice a ps.length c) ps.length (flR ps)) : RowR w' D a (ps.map fun x => x.1).length (ps.map fun x => x.1) := by
  refine ⟨rfl, fun i hi => ?_⟩
  have hi' : i < ps.length := by simpa using hi
  obtain ⟨g, rfl, hc⟩ := own_cellsN ho (by omega)
  have e : (ps.map fun x => x.1)[i] = ps[i].1 := by simp
  refine ⟨g, 0, ps[i].2, rfl, by rw [e]; exact ((hk ps[i] (List.getElem_mem hi')).1).later hb, fun j v hv => ?_⟩
  rw [e] at hv
  have hj : j < 8 := by
    rcases Nat.lt_or_ge j 8 with h | h
    · exact h
    · rw [Array.getElem?_eq_none (by simpa using h)] at hv; cases hv
  rw [Nat.zero_add, hc _ (by omega), flR_get ps i hi' j hj]
  exact hv
end Go.Proofs.YthdeadmnicmgfaaDoor

/- The walk of TablesDecide. -/
namespace Go.Proofs.YthdeadmnicmgfaaDoor
open Go.RowKit Go.Shelf Go.Maps
set_option linter.unusedVariables false
set_option linter.unusedSimpArgs false

theorem box2 {w : World} {B : Nat} {a b : Value} {t : TypeId} (hh : w.heap[B]? = some (.cells #[a, b] t)) : (w.cell? ⟨B, 0, none⟩ = some a ∧ w.cell? ⟨B, 1, none⟩ = some b) ∧ w.frozen? ⟨B, 0, none⟩ = false ∧ w.frozen? ⟨B, 1, none⟩ = false :=
  ⟨⟨cell_of_row w B 0 _ _ _ hh, cell_of_row w B 1 _ _ _ hh⟩, Lib.frozen_of_heap hh 0, Lib.frozen_of_heap hh 1⟩
theorem box4 {w : World} {B : Nat} {a b c d : Value} {t : TypeId} (hh : w.heap[B]? = some (.cells #[a, b, c, d] t)) : w.cell? ⟨B, 0, none⟩ = some a ∧ w.cell? ⟨B, 1, none⟩ = some b ∧ w.cell? ⟨B, 2, none⟩ = some c ∧ w.cell? ⟨B, 3, none⟩ = some d :=
  ⟨cell_of_row w B 0 _ _ _ hh, cell_of_row w B 1 _ _ _ hh, cell_of_row w B 2 _ _ _ hh, cell_of_row w B 3 _ _ _ hh⟩
theorem dc_zero (br : Nat) : (n i : Nat) → dcB br 0 n i = true
  | 0, _ => rfl
  | n + 1, i => by rw [dcB, if_neg (by simp), dc_zero br n (i + 1)]
set_option maxRecDepth 100000 in
set_option maxHeartbeats 8000000 in
theorem tablesDecide_walk (D K : Nat) (l : List Rl) (ca ra : Option Addr) (cc rc a b : Nat) (w : World) (hT : TabD w) (hr : RowR w D ra l.length l) (hl : l.length ≤ 140737488355328) (hK : K ≤ cc) (hK2 : K ≤ 140737488355328) (ha : a < 2 ^ 64) (hb : b < 2 ^ 64) :
    Calls Tryd.prog 5 #[.agg #[.slice ca K cc, .slice ra l.length rc], .int .u64 (a : Int), .int .u64 (b : Int)] w fun e w' => e = .returned (.bool true) ∧ Below w.heap.size w w' := by
  obtain ⟨m, hm⟩ : ∃ m, m = min K 30 := ⟨_, rfl⟩
  obtain ⟨RN, hRN⟩ : ∃ RN, RN = l.length := ⟨_, rfl⟩
  have HTD : Hid (TabD w) := hT
  have HAB : Hid (a < 2 ^ 64 ∧ b < 2 ^ 64) := ⟨ha, hb⟩
  have HSH : Hid (∀ V : World, Below w.heap.size w V → Calls Tryd.prog 16 #[] V fun e w' => e = .returned (.bool true) ∧ Below V.heap.size V w') := fun V hV => shown9_any V (hT.later hV)
  have HFE : Hid (∀ V : World, Below w.heap.size w V → Calls Tryd.prog 17 #[.agg #[.slice ca K cc, .slice ra RN rc]] V (Few9 D l ca m cc w V)) := fun V hV => by
    rw [hRN]; exact few9_any D K m l ca ra cc rc w V hV hr hl hK hK2 hm
  obtain ⟨H, hH⟩ : ∃ H, H = w.heap.size := ⟨_, rfl⟩
  have HH : Hid (H = w.heap.size) := hH
  obtain ⟨W0, hW0⟩ : ∃ W0, W0 = w.alloc (.cells #[.slice ca K cc, .slice ra RN rc] 47) := ⟨_, rfl⟩
  have HB0 : Hid (Below w.heap.size w W0) := by rw [hW0]; exact (Below.refl _ w).alloc (Nat.le_refl _) _
  have HX0 : Hid (W0.heap[H]? = some (.cells #[.slice ca K cc, .slice ra RN rc] 47)) := by show _ = _; rw [hW0, hH]; exact heap_alloc_new w _
  have HM : Hid (m ≤ 30) := by show _ ≤ _; omega
  rw [← hRN]
  clear hT hr hl hK hK2 ha hb hm hRN
  go_enter Tryd.func5, Tryd.ntmps5
  go_upto_region 1 with fail
  rw [← hH, ← hW0]
  clear hH hW0
  go_wp2_with fail
  refine (HSH.out W0 HB0.out).mono ?_
  rintro e w1 ⟨rfl, hb1⟩
  have HB1 : Hid (Below w.heap.size w w1) := HB0.out.trans (hb1.mono HB0.out.size)
  have HX1 : Hid (w1.heap[H]? = some (.cells #[.slice ca K cc, .slice ra RN rc] 47)) := (hb1.block H (Array.getElem?_eq_some_iff.1 HX0.out).1).trans HX0.out
  clear hb1 HX0 HB0
  obtain ⟨⟨e0, e1⟩, _⟩ := box2 HX1.out
  go_wp2_with fail
  refine (HFE.out w1 HB1.out).mono ?_
  rintro e w2 ⟨hb2, ps, a', c', rfl, h8, hkr, hown⟩
  have HB2 : Hid (Below w.heap.size w w2) := HB1.out.trans (hb2.mono HB1.out.size)
  have hx2 : w2.heap[H]? = some (.cells #[.slice ca K cc, .slice ra RN rc] 47) := (hb2.block H (Array.getElem?_eq_some_iff.1 HX1.out).1).trans HX1.out
  obtain ⟨rl, hrl⟩ : ∃ rl, rl = ps.map fun x => x.1 := ⟨_, rfl⟩
  obtain ⟨N, hN⟩ : ∃ N, N = ps.length := ⟨_, rfl⟩
  have hNr : N = rl.length := by rw [hN, hrl]; simp
  rw [← hN] at h8 ⊢
  obtain ⟨W3, hW3⟩ : ∃ W3, W3 = (w2.setCell ⟨H, 0, none⟩ (.slice ca m cc)).setCell ⟨H, 1, none⟩ (.slice a' N c') := ⟨_, rfl⟩
  have hg3 : w2.grownBy W3 (some H) := by rw [hW3]; exact grown_all (grown_cell w2 H 0 _) (grown_cell _ H 1 _)
  have HB3 : Hid (Below w.heap.size w W3) := HB2.out.grown hg3 HB2.out.size (fun k hk => by cases hk; exact Nat.le_of_eq HH.out.symm)
  have HX3 : Hid (W3.heap[H]? = some (.cells #[.slice ca m cc, .slice a' N c'] 47)) := by
    show _ = _
    rw [hW3]
    exact heap_setCell_same _ H 1 _ _ _ (heap_setCell_same _ H 0 _ _ _ hx2)
  have hro : RowR W3 D a' rl.length rl := by
    rw [hrl]
    exact kept_row hkr HB3.out (hown.kept hg3 (.inr (own_ne hown hx2 (by decide))))
  have HRO : Hid (RowR W3 D a' rl.length rl ∧ N = rl.length) := ⟨hro, hNr⟩
  have HCP : Hid (Calls Tryd.prog 18 #[.agg #[.slice ca m cc, .slice a' N c']] W3 (CmpP m rl W3)) := by
    rw [hNr]; exact compile_any D m rl ca a' cc c' W3 (HTD.out.later HB3.out) hro (by omega)
  obtain ⟨⟨y0, y1⟩, y2, y3⟩ := box2 hx2
  have hN8 : (N : Int) ≤ 8 := by omega
  clear hb2 hkr hown hrl hg3 hro hNr hx2 e0 e1 hN
  go_upto_region 3 with fail
  rw [← hW3]
  clear hW3 y0 y1 y2 y3
  obtain ⟨⟨e0, e1⟩, _⟩ := box2 HX3.out
  go_wp2_with fail
  refine HCP.out.mono ?_
  rintro e w4 ⟨hb4, hor⟩
  have HB4 : Hid (Below w.heap.size w w4) := HB3.out.trans (hb4.mono HB3.out.size)
  rcases hor with ⟨_, rfl⟩ | ⟨_, ⟨rfl, _⟩ | ⟨tb, rfl, htw, hta, _⟩⟩
  · clear hb4 e0 e1
    go_wp2_with fail
    go_ret
    exact ⟨rfl, HB4.out⟩
  · clear hb4 e0 e1
    go_wp2_with fail
    go_ret
    exact ⟨rfl, HB4.out⟩
  obtain ⟨la, lb, _, _, _, _, htb, _⟩ := hta
  have HX4 : Hid (w4.heap[H]? = some (.cells #[.slice ca m cc, .slice a' N c'] 47)) := (hb4.block H (Array.getElem?_eq_some_iff.1 HX3.out).1).trans HX3.out
  have HR4 : Hid (RowR w4 D a' rl.length rl ∧ N = rl.length) := ⟨HRO.out.1.later hb4, HRO.out.2⟩
  obtain ⟨br, hbr⟩ : ∃ br, br = brkN rl := ⟨_, rfl⟩
  have HBR : Hid (br = brkN rl ∧ br < 2 ^ 64) := ⟨hbr, by rw [hbr]; exact Nat.lt_of_lt_of_le (brkN_lt rl (by have := HRO.out.2; omega)) (by decide)⟩
  rw [← hbr, ← HRO.out.2] at htb
  have HT4 : Hid (w4.heap[tb]? = some (.cells #[.pointer (some ⟨la, 0, none⟩), .pointer (some ⟨lb, 0, none⟩), .int .u64 (br : Int), .int .i64 (N : Int)] 58)) := htb
  clear hb4 htb hbr htw e0 e1 HCP HRO HX3 HB3 HX1 HB1 HB2
  obtain ⟨c0, c1, c2, c3⟩ := box4 HT4.out
  obtain ⟨G, hG⟩ : ∃ G, G = w4.heap.size := ⟨_, rfl⟩
  obtain ⟨W5, hW5⟩ : ∃ W5, W5 = (w4.alloc (.cells #[.pointer none, .pointer none, .int .u64 (br : Int), .int .i64 (N : Int)] 60)).drew := ⟨_, rfl⟩
  have hb5 : Below w4.heap.size w4 W5 := by rw [hW5]; exact ((Below.refl _ w4).alloc (Nat.le_refl _) _).drew
  have HB5 : Hid (Below w.heap.size w W5) := HB4.out.trans (hb5.mono HB4.out.size)
  have HX5 : Hid (W5.heap[H]? = some (.cells #[.slice ca m cc, .slice a' N c'] 47)) := (hb5.block H (Array.getElem?_eq_some_iff.1 HX4.out).1).trans HX4.out
  have HT5 : Hid (W5.heap[tb]? = some (.cells #[.pointer (some ⟨la, 0, none⟩), .pointer (some ⟨lb, 0, none⟩), .int .u64 (br : Int), .int .i64 (N : Int)] 58)) := (hb5.block tb (Array.getElem?_eq_some_iff.1 HT4.out).1).trans HT4.out
  have HR5 : Hid (RowR W5 D a' rl.length rl ∧ N = rl.length) := ⟨HR4.out.1.later hb5, HR4.out.2⟩
  have HG5 : Hid (W5.heap[G]? = some (.cells #[.pointer none, .pointer none, .int .u64 (br : Int), .int .i64 (N : Int)] 60)) := by show _ = _; rw [hW5, hG]; exact heap_alloc_new w4 _
  go_upto_region 6 with fail
  go_region
  rw [← hG, ← hW5]
  clear hG hW5 c0 c1 c2 c3 hb5 HX4 HT4 HR4
  have HUP : Hid (∀ V : World, Below W5.heap.size W5 V → (V.cell? ⟨H, 1, none⟩ = some (.slice a' N c')) ∧ V.cell? ⟨tb, 2, none⟩ = some (.int .u64 (br : Int)) ∧ V.cell? ⟨tb, 3, none⟩ = some (.int .i64 (N : Int))) := fun V hV => by
    obtain ⟨_, _, q2, q3⟩ := box4 HT5.out
    exact ⟨upC hV (box2 HX5.out).1.2, upC hV q2, upC hV q3⟩
  go_wp2_with fail
  go_loopw [6, 11] (fun x6 x11 wr => ∃ i : Nat, i ≤ N ∧ x11 = .int .i64 (i : Int) ∧ Below W5.heap.size W5 wr) (fun _ x11 _ => N - (intOf x11).toNat)
  case atStart => exact ⟨0, by omega, rfl, Below.refl _ _⟩
  case round =>
    obtain ⟨i, hi, hx11, hwr⟩ := hrel
    subst hx11
    have HBW : Hid (Below W5.heap.size W5 wr) := hwr
    clear hwr
    obtain ⟨c1, c2, c3⟩ := HUP.out wr HBW.out
    by_cases hlt : i < N
    · have hil : i < rl.length := by rw [← HR5.out.2]; exact hlt
      obtain ⟨b', off, q, rfl, _, _, _, _, _, _, _, t6, _⟩ := HR5.out.1.cells i hil
      replace t6 := upC HBW.out t6
      obtain ⟨bk, hbk⟩ : ∃ bk, bk = rl[i].brk := ⟨_, rfl⟩
      rw [← hbk] at t6
      have hq : (bits .and .u64 ((br : Int) / 2 ^ i) 1 == 1) = bk := by
        rw [bit9_eq br i HBR.out.2, HBR.out.1, brkN_bit, List.getElem?_eq_getElem hil, hbk]; rfl
      clear hbk
      have hii : (i : Int) < (N : Int) := by omega
      have hi0 : (0 : Int) ≤ (i : Int) := by omega
      have hi64 : (i : Int) < 64 := by omega
      cases bk
      all_goals
        go_wp2_with fail
        go_quiet (fail)
        clear c1 c2 c3 t6
        go_wp2_with fail
        go_roundw
        case rel => exact ⟨i + 1, by omega, by go_num, bdN HBW.out _⟩
        case measure => simp [intOf]; omega
    · have hii : ¬ (i : Int) < (N : Int) := by omega
      have HD1 : Hid (∀ n : Nat, Calls Tryd.prog 22 #[.pointer (some ⟨tb, 0, none⟩), .int .u64 (a : Int), .int .u64 (b : Int)] (wr.drewN n) fun e w' => e = .returned (.bool (dcB br (a &&& b) N 0)) ∧ w' = wr.drewN n) := fun n => by
        have hV := bdN HBW.out n
        exact decide_any _ tb N br a b _ _ ((hV.block tb (Array.getElem?_eq_some_iff.1 HT5.out).1).trans HT5.out) (by omega) HBR.out.2 HAB.out.1 HAB.out.2
      have HD2 : Hid (∀ n : Nat, Calls Tryd.prog 23 #[.pointer (some ⟨G, 0, none⟩), .int .u64 (a : Int), .int .u64 (b : Int)] (wr.drewN n) fun e w' => e = .returned (.bool (dcB br (a &&& b) N 0)) ∧ w' = wr.drewN n) := fun n => by
        have hV := bdN HBW.out n
        exact rdec_any _ G N br a b _ _ ((hV.block G (Array.getElem?_eq_some_iff.1 HG5.out).1).trans HG5.out) (by omega) HBR.out.2 HAB.out.1 HAB.out.2
      have HD3 : Hid (∀ n : Nat, Calls Tryd.prog 22 #[.pointer (some ⟨tb, 0, none⟩), .int .u64 0, .int .u64 (b : Int)] (wr.drewN n) fun e w' => e = .returned (.bool true) ∧ w' = wr.drewN n) := fun n => by
        have hV := bdN HBW.out n
        have h := decide_any _ tb N br 0 b _ _ ((hV.block tb (Array.getElem?_eq_some_iff.1 HT5.out).1).trans HT5.out) (by omega) HBR.out.2 (by decide) HAB.out.2
        rw [Nat.zero_and, dc_zero] at h
        exact h
      have HD4 : Hid (∀ n : Nat, Calls Tryd.prog 22 #[.pointer (some ⟨tb, 0, none⟩), .int .u64 (a : Int), .int .u64 0] (wr.drewN n) fun e w' => e = .returned (.bool true) ∧ w' = wr.drewN n) := fun n => by
        have hV := bdN HBW.out n
        have h := decide_any _ tb N br a 0 _ _ ((hV.block tb (Array.getElem?_eq_some_iff.1 HT5.out).1).trans HT5.out) (by omega) HBR.out.2 HAB.out.1 (by decide)
        rw [Nat.and_zero, dc_zero] at h
        exact h
      obtain ⟨dv, hdv⟩ : ∃ dv, dv = dcB br (a &&& b) N 0 := ⟨_, rfl⟩
      rw [← hdv] at HD1 HD2
      clear hdv
      cases dv
      all_goals
        go_wp2_with fail
        go_quiet (first | (go_at_call 22; first | with_reducible exact Calls.quiet_of_same (HD1.out _) | with_reducible exact Calls.quiet_of_same (HD3.out _) | with_reducible exact Calls.quiet_of_same (HD4.out _)) | (go_at_call 23; with_reducible exact Calls.quiet_of_same (HD2.out _)))
        go_wp2_with fail
        go_ret
        exact ⟨rfl, HB5.out.trans ((bdN HBW.out _).mono HB5.out.size)⟩
end Go.Proofs.YthdeadmnicmgfaaDoor
