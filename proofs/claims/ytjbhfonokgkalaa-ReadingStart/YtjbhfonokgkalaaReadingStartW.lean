/- The walk of ReadingStart. -/
import Derived.Test.YtjbhfonokgkalaaReaEn
import Derived.Test.YtjbhfonokgkalaaReaH
import Derived.Test.YtjbhfonokgkalaaReadingLeftW
namespace Go.Proofs.Ytjbhfonokgkalaa
open Go.RowKit
set_option linter.unusedVariables false
set_option linter.unusedSimpArgs false

theorem fewR_one (r : Rl) : (fewR [r]).length = 0 ∨ (fewR [r] = [r] ∧ keepR r = true) := by
  unfold fewR
  simp only [List.take, List.filter_cons, List.filter_nil]
  cases keepR r <;> simp
theorem one_row {w : World} {D : Nat} {r : Rl} {q : RlP} (h : RlAt w D r q) : RowR (w.alloc (.cells (r.vals q) 35)) D (some ⟨w.heap.size, 0, none⟩) 1 [r] := by
  have hb : ∀ o : Obj, Below w.heap.size w (w.alloc o) := fun o => (Below.refl _ w).alloc (Nat.le_refl _) _
  refine ⟨rfl, fun i hi => ?_⟩
  match i, hi with
  | 0, _ =>
    refine ⟨w.heap.size, 0, q, rfl, RlAt.later h (hb _), fun j v hv => ?_⟩
    rw [Nat.zero_mul, Nat.zero_add, cell_of_row _ _ _ _ _ _ (heap_alloc_new w _)]
    exact hv
/-- What few keeps of one rule lies where that lies. -/
theorem few_same {w : World} {r : Rl} {q : RlP} {x : Rl × RlP} (hx : x.1 = r) (h : InRow (w.alloc (.cells (r.vals q) 35)) (some ⟨w.heap.size, 0, none⟩) x) : x.2 = q := by
  obtain ⟨b, off, i, h1, h2⟩ := h
  cases h1
  obtain ⟨x1, ⟨a1, a2, a3, a4, a5, a6, a7, a8⟩⟩ := x
  obtain ⟨b1, b2, b3, b4, b5, b6, b7, b8⟩ := q
  simp only at hx
  subst hx
  have hc : ∀ j v, (x1.vals ⟨a1, a2, a3, a4, a5, a6, a7, a8⟩)[j]? = some v → (x1.vals ⟨b1, b2, b3, b4, b5, b6, b7, b8⟩)[0 + i * 8 + j]? = some v := by
    intro j v hv
    have := h2 j v hv
    rw [cell_of_row _ _ _ _ _ _ (heap_alloc_new w _)] at this
    exact this
  have hi : i = 0 := by
    have := hc 0 _ rfl
    have h3 := (Array.getElem?_eq_some_iff.1 this).1
    simp at h3
    omega
  subst hi
  have c1 := hc 1 _ rfl
  have c2 := hc 2 _ rfl
  have c4 := hc 4 _ rfl
  have c5 := hc 5 _ rfl
  simp at c1 c2 c4 c5
  simp [c1, c2, c4, c5]
/-- Eight cells set. -/
def F8 (W : World) (b : Nat) (v0 v1 v2 v3 v4 v5 v6 v7 : Value) : World := (((((((W.setCell ⟨b, 0, none⟩ v0).setCell ⟨b, 1, none⟩ v1).setCell ⟨b, 2, none⟩ v2).setCell ⟨b, 3, none⟩ v3).setCell ⟨b, 4, none⟩ v4).setCell ⟨b, 5, none⟩ v5).setCell ⟨b, 6, none⟩ v6).setCell ⟨b, 7, none⟩ v7
theorem f8_heap {W : World} {b : Nat} {u0 u1 u2 u3 u4 u5 u6 u7 : Value} (v0 v1 v2 v3 v4 v5 v6 v7 : Value) {t : TypeId} (h : W.heap[b]? = some (.cells #[u0, u1, u2, u3, u4, u5, u6, u7] t)) : (F8 W b v0 v1 v2 v3 v4 v5 v6 v7).heap[b]? = some (.cells #[v0, v1, v2, v3, v4, v5, v6, v7] t) := by
  have h0 : (W.setCell ⟨b, 0, none⟩ v0).heap[b]? = some (.cells #[v0, u1, u2, u3, u4, u5, u6, u7] t) := heap_setCell_same _ b 0 _ _ v0 h
  have h1 : ((W.setCell ⟨b, 0, none⟩ v0).setCell ⟨b, 1, none⟩ v1).heap[b]? = some (.cells #[v0, v1, u2, u3, u4, u5, u6, u7] t) := heap_setCell_same _ b 1 _ _ v1 h0
  have h2 : (((W.setCell ⟨b, 0, none⟩ v0).setCell ⟨b, 1, none⟩ v1).setCell ⟨b, 2, none⟩ v2).heap[b]? = some (.cells #[v0, v1, v2, u3, u4, u5, u6, u7] t) := heap_setCell_same _ b 2 _ _ v2 h1
  have h3 : ((((W.setCell ⟨b, 0, none⟩ v0).setCell ⟨b, 1, none⟩ v1).setCell ⟨b, 2, none⟩ v2).setCell ⟨b, 3, none⟩ v3).heap[b]? = some (.cells #[v0, v1, v2, v3, u4, u5, u6, u7] t) := heap_setCell_same _ b 3 _ _ v3 h2
  have h4 : (((((W.setCell ⟨b, 0, none⟩ v0).setCell ⟨b, 1, none⟩ v1).setCell ⟨b, 2, none⟩ v2).setCell ⟨b, 3, none⟩ v3).setCell ⟨b, 4, none⟩ v4).heap[b]? = some (.cells #[v0, v1, v2, v3, v4, u5, u6, u7] t) := heap_setCell_same _ b 4 _ _ v4 h3
  have h5 : ((((((W.setCell ⟨b, 0, none⟩ v0).setCell ⟨b, 1, none⟩ v1).setCell ⟨b, 2, none⟩ v2).setCell ⟨b, 3, none⟩ v3).setCell ⟨b, 4, none⟩ v4).setCell ⟨b, 5, none⟩ v5).heap[b]? = some (.cells #[v0, v1, v2, v3, v4, v5, u6, u7] t) := heap_setCell_same _ b 5 _ _ v5 h4
  have h6 : (((((((W.setCell ⟨b, 0, none⟩ v0).setCell ⟨b, 1, none⟩ v1).setCell ⟨b, 2, none⟩ v2).setCell ⟨b, 3, none⟩ v3).setCell ⟨b, 4, none⟩ v4).setCell ⟨b, 5, none⟩ v5).setCell ⟨b, 6, none⟩ v6).heap[b]? = some (.cells #[v0, v1, v2, v3, v4, v5, v6, u7] t) := heap_setCell_same _ b 6 _ _ v6 h5
  have h7 : ((((((((W.setCell ⟨b, 0, none⟩ v0).setCell ⟨b, 1, none⟩ v1).setCell ⟨b, 2, none⟩ v2).setCell ⟨b, 3, none⟩ v3).setCell ⟨b, 4, none⟩ v4).setCell ⟨b, 5, none⟩ v5).setCell ⟨b, 6, none⟩ v6).setCell ⟨b, 7, none⟩ v7).heap[b]? = some (.cells #[v0, v1, v2, v3, v4, v5, v6, v7] t) := heap_setCell_same _ b 7 _ _ v7 h6
  exact h7
theorem grownC (w : World) (g i : Nat) (v : Value) : w.grownBy (w.setCell ⟨g, i, none⟩ v) (some g) :=
  ⟨rfl, rfl, rfl, by simp [World.setCell], fun k _ hk => Below.heap_setCell _ _ _ k (fun e => hk (by rw [e]))⟩
theorem grownT {w w1 w2 : World} {row : Option Nat} (h : w.grownBy w1 row) (h2 : w1.grownBy w2 row) : w.grownBy w2 row :=
  ⟨h2.os.trans h.os, h2.tape.trans h.tape, h2.output.trans h.output, Nat.le_trans h.size h2.size, fun k hk hne => (h2.block k (Nat.lt_of_lt_of_le hk h.size) hne).trans (h.block k hk hne)⟩
theorem f8_grown (W : World) (b : Nat) (v0 v1 v2 v3 v4 v5 v6 v7 : Value) : W.grownBy (F8 W b v0 v1 v2 v3 v4 v5 v6 v7) (some b) :=
  grownT (grownT (grownT (grownT (grownT (grownT (grownT (grownC W b 0 v0) (grownC _ b 1 v1)) (grownC _ b 2 v2)) (grownC _ b 3 v3)) (grownC _ b 4 v4)) (grownC _ b 5 v5)) (grownC _ b 6 v6)) (grownC _ b 7 v7)
theorem grownA (w : World) (o : Obj) (row : Option Nat) : w.grownBy (w.alloc o) row := ⟨rfl, rfl, rfl, by simp, fun k hk _ => Below.heap_alloc _ _ _ hk⟩
/-- Changes in a new block are none to what was. -/
theorem grownN {w w1 w2 : World} {b : Nat} {row : Option Nat} (h : w.grownBy w1 row) (h2 : w1.grownBy w2 (some b)) (hb : w.heap.size ≤ b) : w.grownBy w2 row :=
  ⟨h2.os.trans h.os, h2.tape.trans h.tape, h2.output.trans h.output, Nat.le_trans h.size h2.size, fun k hk hne => (h2.block k (Nat.lt_of_lt_of_le hk h.size) (fun e => by injection e with e; omega)).trans (h.block k hk hne)⟩
set_option maxRecDepth 100000 in
set_option maxHeartbeats 16000000 in
theorem readingStart_walk (D : Nat) (r : Rl) (q : RlP) (xs : List Int) (a : Option Addr) (len cap : Nat) (w : World) (hr : RlAt w D r q) (hrd : Rd .i64 w a len xs) (hcap : len ≤ cap) (hcm : cap ≤ 9223372036854775807) (hnone : a = none → cap = 0) :
    Calls Try.prog 4 #[.agg (r.vals q), .slice a len cap] w fun e w' => e = .returned (.bool true) ∧ Below w.heap.size w w' := by
  obtain ⟨i0, ji, jz0, jz1, jz2⟩ := info_parts info_i
  have HJ : Hid (Try.prog.info? 3 = some i0 ∧ i0.zero = some (.int .i64 0) ∧ i0.size = 1 ∧ i0.bytes = 8) := ⟨ji, jz0, jz1, jz2⟩
  have HF1 : Hid (∀ W : World, Below w.heap.size w W → Calls Try.prog 10 #[.slice (some ⟨W.heap.size, 0, none⟩) 1 1, .slice a len cap] (W.alloc (.cells (r.vals q) 35)) (FewPost2 (some ⟨W.heap.size, 0, none⟩) [r] xs (W.alloc (.cells (r.vals q) 35)))) := fun W hW =>
    few_any2 D [r] xs _ a 1 1 len cap _ (one_row (hr.later hW)) (by omega) ((hrd.later hW).later ((Below.refl _ W).alloc (Nat.le_refl _) _)) hcap hcm hnone
  have HQ : Hid (∀ V : World, Below w.heap.size w V → keepR r = true → RlAt V 12 r q) := fun V hV hk => (hr.later hV).cut hk
  have HFS : Hid (∀ (W : World) (x : Rl × RlP), x.1 = r → InRow (W.alloc (.cells (r.vals q) 35)) (some ⟨W.heap.size, 0, none⟩) x → x.2 = q) := fun W x h1 h2 => few_same h1 h2
  obtain ⟨Q, hQ⟩ : ∃ Q, Q = r.vals q := ⟨_, rfl⟩
  have HV : Hid (Q = r.vals q) := hQ
  rw [← hQ] at HF1 HFS ⊢
  obtain ⟨la, lc, lp, lpc, ra, rc, rp, rpc⟩ := q
  obtain ⟨lo, hlo⟩ : ∃ lo, lo = r.left.op := ⟨_, rfl⟩
  obtain ⟨ln, hln⟩ : ∃ ln, ln = r.left.cl.length := ⟨_, rfl⟩
  obtain ⟨lk, hlk⟩ : ∃ lk, lk = (toL r.left.kids).length := ⟨_, rfl⟩
  obtain ⟨ro, hro⟩ : ∃ ro, ro = r.right.op := ⟨_, rfl⟩
  obtain ⟨rn, hrn⟩ : ∃ rn, rn = r.right.cl.length := ⟨_, rfl⟩
  obtain ⟨rk, hrk⟩ : ∃ rk, rk = (toL r.right.kids).length := ⟨_, rfl⟩
  obtain ⟨st, hst⟩ : ∃ st, st = r.start := ⟨_, rfl⟩
  obtain ⟨br, hbr⟩ : ∃ br, br = r.brk := ⟨_, rfl⟩
  have HVA : Hid (∀ s : Bool, (⟨r.left, r.right, r.brk, s⟩ : Rl).vals ⟨la, lc, lp, lpc, ra, rc, rp, rpc⟩ = #[.int .i64 lo, .slice la ln lc, .slice lp lk lpc, .int .i64 ro, .slice ra rn rc, .slice rp rk rpc, .bool br, .bool s]) := fun s => by simp only [Rl.vals, ← hlo, ← hln, ← hlk, ← hro, ← hrn, ← hrk, ← hbr]
  have HHAS : Hid (∀ V : World, Below w.heap.size w V → Calls Try.prog 18 #[.agg #[.int .i64 lo, .slice la ln lc, .slice lp lk lpc], .int .i64 1000] V fun e w' => e = .returned (.bool (r.left.has 1000)) ∧ Below V.heap.size V w') := by
    intro V hV
    rw [hlo, hln, hlk]
    exact has_any D r.left 1000 la lp lc lpc _ V (hr.later hV).1
  simp only [Rl.vals, ← hlo, ← hln, ← hlk, ← hro, ← hrn, ← hrk, ← hst, ← hbr] at hQ
  subst hQ
  obtain ⟨wA, hwA⟩ : ∃ wA, wA = w.alloc (.cells #[.int .i64 lo, .slice la ln lc, .slice lp lk lpc, .int .i64 ro, .slice ra rn rc, .slice rp rk rpc, .bool br, .bool st] 35) := ⟨_, rfl⟩
  obtain ⟨bx, hbx⟩ : ∃ bx, bx = w.heap.size := ⟨_, rfl⟩
  have BA : Hid (Below w.heap.size w wA) := by rw [hwA]; exact (Below.refl _ w).alloc (Nat.le_refl _) _
  have hpx : wA.heap[bx]? = some (.cells #[.int .i64 lo, .slice la ln lc, .slice lp lk lpc, .int .i64 ro, .slice ra rn rc, .slice rp rk rpc, .bool br, .bool st] 35) := by rw [hwA, hbx]; exact heap_alloc_new w _
  have HPX : Hid (∀ V : World, Below wA.heap.size wA V → V.heap[bx]? = some (.cells #[.int .i64 lo, .slice la ln lc, .slice lp lk lpc, .int .i64 ro, .slice ra rn rc, .slice rp rk rpc, .bool br, .bool st] 35)) := fun V hV => (hV.block bx (Array.getElem?_eq_some_iff.1 hpx).1).trans hpx
  have HBX : Hid (bx = w.heap.size) := hbx
  have HBA : Hid (wA.heap.size = bx + 1) := by rw [hwA, hbx]; show _ = _; simp
  clear ji jz0 jz1 jz2 hrd hcap hcm hnone hr hlo hln hlk hro hrn hrk hst hbr hpx
  go_enter Try.func4, Try.ntmps4
  go_wp2_with fail
  rw [← hwA, ← hbx]
  refine (shown_any wA).mono ?_
  rintro e w1 ⟨rfl, hb1⟩
  have A1 : Hid (Below wA.heap.size wA w1) := hb1
  have B1 : Hid (Below w.heap.size w w1) := BA.out.trans (hb1.mono BA.out.size)
  clear hb1 hwA hbx
  obtain ⟨s0, s1, s2, s3, s4, s5, s6, s7⟩ := box8 (HPX.out w1 A1.out)
  go_wp2_with fail
  refine (HF1.out w1 B1.out).mono ?_
  rintro e w2 ⟨v1, a2, c2, ps, rfl, hps, hou, hrl, hox, hb2⟩
  have A2 : Hid (Below wA.heap.size wA w2) := A1.out.trans ((((Below.refl _ w1).alloc (Nat.le_refl _) _).trans (hb2.mono (by simp))).mono A1.out.size)
  have B2 : Hid (Below w.heap.size w w2) := BA.out.trans (A2.out.mono BA.out.size)
  obtain ⟨X, hX⟩ : ∃ X, X = xs.take 16 := ⟨_, rfl⟩
  obtain ⟨m, hm⟩ : ∃ m, m = X.length := ⟨_, rfl⟩
  have hm16 : m ≤ 16 := by rw [hm, hX]; simp; omega
  rw [← hX, ← hm] at hox ⊢
  obtain ⟨a2', c2', he, hc2, hc2m, hrdx, hn2⟩ := rd_own2 hox
  cases he
  have hw1s : (w1.alloc (.cells #[.int .i64 lo, .slice la ln lc, .slice lp lk lpc, .int .i64 ro, .slice ra rn rc, .slice rp rk rpc, .bool br, .bool st] 35)).heap.size = w1.heap.size + 1 := by simp
  have hmi : (m : Int) ≤ 16 := by omega
  clear s0 s1 s2 s3 s4 s5 s6 s7
  rcases fewR_one r with h10 | ⟨h1e, hkeep⟩
  · have hp0 : ps.length = 0 := by rw [← h10, ← hps]; simp
    rw [hp0] at hou
    obtain ⟨av, cv, rfl⟩ := own_sl1 hou
    clear hou hrl hox hb2 hps hX hm hrdx hn2 HF1 HFS
    go_wp2
    go_ret
    exact ⟨rfl, B2.out⟩
  obtain ⟨x, hpx1⟩ : ∃ x, ps = [x] := by
    rw [h1e] at hps
    match ps, hps with
    | [x], _ => exact ⟨x, rfl⟩
  have hx1 : x.1 = r := by rw [h1e, hpx1] at hps; simpa using hps
  have hxq := HFS.out w1 x hx1 (hrl x (by rw [hpx1]; simp)).2
  have hfl : flatU ps = [.int .i64 lo, .slice la ln lc, .slice lp lk lpc, .int .i64 ro, .slice ra rn rc, .slice rp rk rpc, .bool br, .bool st] := by
    rw [hpx1]
    show (x.1.vals x.2).toList ++ [] = _
    rw [hx1, hxq, ← HV.out]
    rfl
  rw [hpx1] at hou
  rw [hpx1] at hfl
  rw [hfl] at hou
  obtain ⟨av, cv, rfl⟩ := own_sl1 hou
  obtain ⟨g, hga, hgb, hfz, hcell⟩ := own_cells8 hou (by simp)
  subst hga
  have hgx : g ≠ bx := by
    have h1 := A1.out.size
    have h2 := HBA.out
    simp at hgb
    omega
  have t0 := hcell 0 (by simp)
  have t1 := hcell 1 (by simp)
  have t2 := hcell 2 (by simp)
  have t3 := hcell 3 (by simp)
  have t4 := hcell 4 (by simp)
  have t5 := hcell 5 (by simp)
  have t6 := hcell 6 (by simp)
  have t7 := hcell 7 (by simp)
  simp at t0 t1 t2 t3 t4 t5 t6 t7
  obtain ⟨s0, s1, s2, s3, s4, s5, s6, s7⟩ := box8 (HPX.out w2 A2.out)
  have hfx := Lib.frozen_of_heap (HPX.out w2 A2.out)
  have HRX : Hid (Rd .i64 w2 a2 m X ∧ m ≤ c2 ∧ (a2 = none → c2 = 0) ∧ m = X.length) := ⟨hrdx, hc2, hn2, hm⟩
  have HOX : Hid (w2.ownsRow (w1.heap.size + 1) 3 1 (.slice a2 m c2) m (X.map (Value.int .i64))) := by rw [← hw1s]; exact hox
  have hps1 : ps.length = 1 := by rw [hpx1]; rfl
  clear hou hrl hox hb2 hps hX hm hrdx hn2 hc2 hc2m HF1 HFS hcell hxq hx1 hfl hpx1 h1e
  obtain ⟨w3, hw3⟩ : ∃ w3, w3 = F8 w2 bx (.int .i64 lo) (.slice la ln lc) (.slice lp lk lpc) (.int .i64 ro) (.slice ra rn rc) (.slice rp rk rpc) (.bool br) (.bool st) := ⟨_, rfl⟩
  have h3x : w3.heap[bx]? = some (.cells #[.int .i64 lo, .slice la ln lc, .slice lp lk lpc, .int .i64 ro, .slice ra rn rc, .slice rp rk rpc, .bool br, .bool st] 35) := by rw [hw3]; exact f8_heap _ _ _ _ _ _ _ _ (HPX.out w2 A2.out)
  have g3 : w2.grownBy w3 (some bx) := by rw [hw3]; exact f8_grown _ _ _ _ _ _ _ _ _ _
  obtain ⟨w4, hw4⟩ : ∃ w4, w4 = w3.setCell ⟨bx, 7, none⟩ (.bool true) := ⟨_, rfl⟩
  have h4x : w4.heap[bx]? = some (.cells #[.int .i64 lo, .slice la ln lc, .slice lp lk lpc, .int .i64 ro, .slice ra rn rc, .slice rp rk rpc, .bool br, .bool true] 35) := by rw [hw4]; exact heap_setCell_same w3 bx 7 _ _ _ h3x
  have g4 : w2.grownBy w4 (some bx) := by rw [hw4]; exact grownT g3 (grownC _ _ _ _)
  obtain ⟨yb, hyb⟩ : ∃ yb, yb = w4.heap.size := ⟨_, rfl⟩
  obtain ⟨w6, hw6⟩ : ∃ w6, w6 = w4.alloc (.cells #[.int .i64 lo, .slice la ln lc, .slice lp lk lpc, .int .i64 ro, .slice ra rn rc, .slice rp rk rpc, .bool br, .bool true] 35) := ⟨_, rfl⟩
  have h6x : w6.heap[bx]? = some (.cells #[.int .i64 lo, .slice la ln lc, .slice lp lk lpc, .int .i64 ro, .slice ra rn rc, .slice rp rk rpc, .bool br, .bool true] 35) := by rw [hw6]; exact (Below.heap_alloc _ _ _ (Array.getElem?_eq_some_iff.1 h4x).1).trans h4x
  have h6y : w6.heap[yb]? = some (.cells #[.int .i64 lo, .slice la ln lc, .slice lp lk lpc, .int .i64 ro, .slice ra rn rc, .slice rp rk rpc, .bool br, .bool true] 35) := by rw [hw6, hyb]; exact heap_alloc_new w4 _
  have g6 : w2.grownBy w6 (some bx) := by rw [hw6]; exact grownT g4 (grownA _ _ _)
  have hyx : yb ≠ bx := by have := (Array.getElem?_eq_some_iff.1 h4x).1; omega
  have hy2 : w2.heap.size ≤ yb := by rw [hyb]; exact g4.size
  obtain ⟨w7, hw7⟩ : ∃ w7, w7 = w6.setCell ⟨yb, 7, none⟩ (.bool false) := ⟨_, rfl⟩
  have h7y : w7.heap[yb]? = some (.cells #[.int .i64 lo, .slice la ln lc, .slice lp lk lpc, .int .i64 ro, .slice ra rn rc, .slice rp rk rpc, .bool br, .bool false] 35) := by rw [hw7]; exact heap_setCell_same w6 yb 7 _ _ _ h6y
  have h7x : w7.heap[bx]? = some (.cells #[.int .i64 lo, .slice la ln lc, .slice lp lk lpc, .int .i64 ro, .slice ra rn rc, .slice rp rk rpc, .bool br, .bool true] 35) := by rw [hw7]; exact (Below.heap_setCell _ _ _ bx (fun e => hyx e.symm)).trans h6x
  have g7 : w2.grownBy w7 (some bx) := by rw [hw7]; exact grownN g6 (grownC _ _ _ _) hy2
  have B7 : Hid (Below w.heap.size w w7) := B2.out.grown g7 B2.out.size (fun k hk => by injection hk with hk; rw [← hk, HBX.out]; exact Nat.le_refl _)
  have HRX7 : Hid (Rd .i64 w7 a2 m X) := by
    have h1 : w7.ownsRow (w1.heap.size + 1) 3 1 (.slice a2 m c2) m (X.map (Value.int .i64)) := own_same HOX.out (fun y hy => by
      have h2 := HOX.out.lt y hy
      refine g7.block y h2.2 (fun e => ?_)
      have h3 := A1.out.size
      have h4 := HBA.out
      injection e with e
      omega)
    obtain ⟨a', c', he, _, _, h⟩ := rd_own h1
    cases he
    exact h
  have f3 := Lib.frozen_of_heap h3x
  have f6 := Lib.frozen_of_heap h6y
  obtain ⟨k0, k1, k2, k3, k4, k5, k6, k7⟩ := box8 h3x
  obtain ⟨m0, m1, m2, m3, m4, m5, m6, m7⟩ := box8 h4x
  obtain ⟨p0, p1, p2, p3, p4, p5, p6, p7⟩ := box8 h6y
  have H7 : Hid (w7.heap[bx]? = some (.cells #[.int .i64 lo, .slice la ln lc, .slice lp lk lpc, .int .i64 ro, .slice ra rn rc, .slice rp rk rpc, .bool br, .bool true] 35) ∧ w7.heap[yb]? = some (.cells #[.int .i64 lo, .slice la ln lc, .slice lp lk lpc, .int .i64 ro, .slice ra rn rc, .slice rp rk rpc, .bool br, .bool false] 35)) := ⟨h7x, h7y⟩
  unfold F8 at hw3
  clear g3 g4 g6 g7 h3x h4x h6x h6y h7x h7y hy2
  go_upto_region 6 with fail
  rw [← hw3]
  clear hw3 t0 t1 t2 t3 t4 t5 t6 t7 s0 s1 s2 s3 s4 s5 s6 s7
  go_upto_region 7 with fail
  rw [← hw4]
  clear hw4 k0 k1 k2 k3 k4 k5 k6 k7
  go_upto_region 8 with fail
  rw [← hw6, ← hyb]
  clear hyb hw6 m0 m1 m2 m3 m4 m5 m6 m7
  go_upto_region 9 with fail
  rw [← hw7]
  clear hw7 p0 p1 p2 p3 p4 p5 p6 p7 f3 f6 hfx hfz
  have HFT : Hid (∀ (V : World) (s : Bool) (Z : List Int) (az : Option Addr) (zl cz p : Nat), Below w.heap.size w V → Rd .i64 V az zl Z → zl ≤ cz → (az = none → cz = 0) → zl ≤ 1000 → p ≤ zl → Calls Try.prog 14 #[.agg #[.int .i64 lo, .slice la ln lc, .slice lp lk lpc, .int .i64 ro, .slice ra rn rc, .slice rp rk rpc, .bool br, .bool s], .slice az zl cz, .int .i64 (p : Int)] V fun e w' => e = .returned (.bool ((⟨r.left, r.right, r.brk, s⟩ : Rl).fit Z p)) ∧ Below V.heap.size V w') := by
    intro V s Z az zl cz p hV hR hc hn hz hp
    have h0 := HQ.out V hV hkeep
    have h1 := fits_any 12 ⟨r.left, r.right, r.brk, s⟩ ⟨la, lc, lp, lpc, ra, rc, rp, rpc⟩ Z az zl cz (p : Int) V ⟨h0.1, h0.2⟩ (by omega) hR hc hn (by omega)
    rw [fit_fitI _ Z p (by rw [hR.1]; exact hp), HVA.out] at h1
    exact h1
  have HO1 : Hid ((w7.alloc (.cells #[.int .i64 1000] 3)).ownsRow w7.heap.size 3 1 (.slice (some ⟨w7.heap.size, 0, none⟩) 1 1) 1 ([1000].map (Value.int .i64))) :=
    ⟨rfl, .inr ⟨w7.heap.size, 1, #[.int .i64 1000], rfl, Nat.le_refl _, heap_alloc_new w7 _, Nat.le_refl _, by simp [maxLen], by simp, by simp⟩⟩
  have HRA : Hid (Rd .i64 (w7.alloc (.cells #[.int .i64 1000] 3)) a2 m X) := HRX7.out.later ((Below.refl _ w7).alloc (Nat.le_refl _) _)
  have HNE : Hid (a2 = none → c2 = 0) := HRX.out.2.2.1
  go_wp2_with (at_builtin; refine wpList_append_rd rfl _ _ 23 rfl w7.heap.size 3 i0 _ 8 Try.underlying23 HJ.out.1 HJ.out.2.1 HJ.out.2.2.1 HJ.out.2.2.2 rfl (.slice (some ⟨w7.heap.size, 0, none⟩) 1 1) 1 ([1000].map (Value.int .i64)) rfl HO1.out a2 m c2 .i64 X rfl HRA.out HNE.out (by unfold maxLen; omega) (by omega) (by simp) (fun v' w8 q1 q2 => ?_); rw [← List.map_append] at q1; obtain ⟨a8, c8, rfl, hc8, _, hr8, hn8⟩ := rd_own2 q1; have HR8 : Hid (Rd .i64 w8 a8 (1 + m) ([1000] ++ X) ∧ 1 + m ≤ c8 ∧ (a8 = none → c8 = 0)) := ⟨hr8, hc8, hn8⟩; have B78 : Hid (Below w7.heap.size w7 w8) := ((Below.refl _ w7).alloc (Nat.le_refl _) _).grown q2 (by simp) (fun k hk => by cases hk; exact Nat.le_refl _); clear q1 q2 hc8 hr8 hn8)
  have B8 : Hid (Below w.heap.size w w8) := B7.out.trans (B78.out.mono B7.out.size)
  have HX8 : Hid (∀ V : World, Below w8.heap.size w8 V → V.heap[bx]? = some (.cells #[.int .i64 lo, .slice la ln lc, .slice lp lk lpc, .int .i64 ro, .slice ra rn rc, .slice rp rk rpc, .bool br, .bool true] 35) ∧ V.heap[yb]? = some (.cells #[.int .i64 lo, .slice la ln lc, .slice lp lk lpc, .int .i64 ro, .slice ra rn rc, .slice rp rk rpc, .bool br, .bool false] 35)) := by
    intro V hV
    have h1 := B78.out.trans (hV.mono B78.out.size)
    exact ⟨(h1.block bx (Array.getElem?_eq_some_iff.1 H7.out.1).1).trans H7.out.1, (h1.block yb (Array.getElem?_eq_some_iff.1 H7.out.2).1).trans H7.out.2⟩
  have HR7 : Hid (∀ V : World, Below w8.heap.size w8 V → Rd .i64 V a2 m X) := fun V hV => (HRX7.out.later B78.out).later hV
  go_loopw [11] (fun x11 wr => ∃ k : Nat, k ≤ m + 1 ∧ x11 = .int .i64 k ∧ Below w8.heap.size w8 wr) (fun x11 _ => m + 1 - (intOf x11).toNat)
  case atStart => exact ⟨0, by omega, rfl, Below.refl _ _⟩
  case round =>
    obtain ⟨k, hk, hx11, hbl⟩ := hrel
    subst hx11
    have HBL : Hid (Below w8.heap.size w8 wr) := hbl
    have HBW : Hid (Below w.heap.size w wr) := B8.out.trans (hbl.mono B8.out.size)
    clear hbl
    by_cases hlt : k ≤ m
    · have hki : (k : Int) ≤ (m : Int) := by omega
      obtain ⟨s0, s1, s2, s3, s4, s5, s6, s7⟩ := box8 (HX8.out wr HBL.out).1
      obtain ⟨F1, hF1⟩ : ∃ F, F = (⟨r.left, r.right, r.brk, true⟩ : Rl).fit X k := ⟨_, rfl⟩
      obtain ⟨F2, hF2⟩ : ∃ F, F = (⟨r.left, r.right, r.brk, false⟩ : Rl).fit X k := ⟨_, rfl⟩
      have HC1 : Hid (Calls Try.prog 14 #[.agg #[.int .i64 lo, .slice la ln lc, .slice lp lk lpc, .int .i64 ro, .slice ra rn rc, .slice rp rk rpc, .bool br, .bool true], .slice a2 m c2, .int .i64 (k : Int)] wr fun e w' => e = .returned (.bool F1) ∧ Below wr.heap.size wr w') := by
        rw [hF1]; exact HFT.out wr true X a2 m c2 k HBW.out (HR7.out wr HBL.out) HRX.out.2.1 HNE.out (by omega) hlt
      have HC2 : Hid (∀ V : World, Below wr.heap.size wr V → Calls Try.prog 14 #[.agg #[.int .i64 lo, .slice la ln lc, .slice lp lk lpc, .int .i64 ro, .slice ra rn rc, .slice rp rk rpc, .bool br, .bool false], .slice a2 m c2, .int .i64 (k : Int)] V fun e w' => e = .returned (.bool F2) ∧ Below V.heap.size V w') := by
        intro V hV
        rw [hF2]; exact HFT.out V false X a2 m c2 k (HBW.out.trans (hV.mono HBW.out.size)) (HR7.out V (HBL.out.trans (hV.mono HBL.out.size))) HRX.out.2.1 HNE.out (by omega) hlt
      have hF12 : F1 = true → F2 = true := fun h => by rw [hF2]; exact fit_start _ _ _ _ _ (by rw [← hF1]; exact h)
      clear hF1 hF2
      go_wp2_with fail
      refine HC1.out.mono ?_
      rintro e w9 ⟨rfl, hb9⟩
      have B9 : Hid (Below wr.heap.size wr w9) := hb9
      clear hb9 HC1 s0 s1 s2 s3 s4 s5 s6 s7
      cases F1 with
      | false =>
        go_upto_region 16 with fail
        obtain ⟨s0, s1, s2, s3, s4, s5, s6, s7⟩ := box8 (HX8.out w9 (HBL.out.trans (B9.out.mono HBL.out.size))).1
        obtain ⟨hs, hhs⟩ : ∃ hs, hs = r.left.has 1000 := ⟨_, rfl⟩
        have HHC : Hid (Calls Try.prog 18 #[.agg #[.int .i64 lo, .slice la ln lc, .slice lp lk lpc], .int .i64 1000] w9 fun e w' => e = .returned (.bool hs) ∧ Below w9.heap.size w9 w') := by rw [hhs]; exact HHAS.out w9 (HBW.out.trans (B9.out.mono HBW.out.size))
        have HHS : Hid (hs = r.left.has 1000) := hhs
        clear hhs
        go_wp2_with fail
        refine HHC.out.mono ?_
        rintro e w11 ⟨rfl, hb11⟩
        have B11 : Hid (Below wr.heap.size wr w11) := B9.out.trans (hb11.mono B9.out.size)
        clear hb11 HHC s0 s1 s2 s3 s4 s5 s6 s7
        cases hs with
        | true =>
          go_wp2
          go_roundw
          case rel => exact ⟨k + 1, by omega, by go_num, HBL.out.trans (B11.out.mono HBL.out.size)⟩
          case measure => simp [intOf]; omega
        | false =>
          by_cases hk0 : k = 0
          · subst hk0
            go_wp2
            go_roundw
            case rel => exact ⟨0 + 1, by omega, by go_num, HBL.out.trans (B11.out.mono HBL.out.size)⟩
            case measure => first | (simp [intOf]; done) | (simp [intOf]; omega)
          · have hkp : (0 : Int) < (k : Int) := by omega
            obtain ⟨s0, s1, s2, s3, s4, s5, s6, s7⟩ := box8 (HX8.out w11 (HBL.out.trans (B11.out.mono HBL.out.size))).1
            have HC3 : Hid (Calls Try.prog 14 #[.agg #[.int .i64 lo, .slice la ln lc, .slice lp lk lpc, .int .i64 ro, .slice ra rn rc, .slice rp rk rpc, .bool br, .bool true], .slice a8 (1 + m) c8, .int .i64 (k : Int)] w11 fun e w' => e = .returned (.bool false) ∧ Below w11.heap.size w11 w') := by
              have h1 := HFT.out w11 true ([1000] ++ X) a8 (1 + m) c8 k (HBW.out.trans (B11.out.mono HBW.out.size)) (HR8.out.1.later (HBL.out.trans (B11.out.mono HBL.out.size))) HR8.out.2.1 HR8.out.2.2 (by omega) (by omega)
              obtain ⟨k', rfl⟩ : ∃ k', k = k' + 1 := ⟨k - 1, by omega⟩
              have h2 := fit_strange 1000 r.left r.right r.brk HHS.out.symm X k'
              rw [show ([1000] ++ X : List Int) = 1000 :: X from rfl, h2] at h1
              exact h1
            go_wp2_with fail
            refine HC3.out.mono ?_
            rintro e w12 ⟨rfl, hb12⟩
            have B12 : Hid (Below wr.heap.size wr w12) := B11.out.trans (hb12.mono B11.out.size)
            clear hb12 HC3 s0 s1 s2 s3 s4 s5 s6 s7
            go_wp2
            go_roundw
            case rel => exact ⟨k + 1, by omega, by go_num, HBL.out.trans (B12.out.mono HBL.out.size)⟩
            case measure => simp [intOf]; omega
      | true =>
        have hF2t : F2 = true := hF12 rfl
        subst hF2t
        obtain ⟨y0, y1, y2, y3, y4, y5, y6, y7⟩ := box8 (HX8.out w9 (HBL.out.trans (B9.out.mono HBL.out.size))).2
        clear hF12
        go_wp2_with fail
        refine (HC2.out w9 B9.out).mono ?_
        rintro e w10 ⟨rfl, hb10⟩
        have B10 : Hid (Below wr.heap.size wr w10) := B9.out.trans (hb10.mono B9.out.size)
        clear hb10 HC2 y0 y1 y2 y3 y4 y5 y6 y7
        go_upto_region 16 with fail
        obtain ⟨s0, s1, s2, s3, s4, s5, s6, s7⟩ := box8 (HX8.out w10 (HBL.out.trans (B10.out.mono HBL.out.size))).1
        obtain ⟨hs, hhs⟩ : ∃ hs, hs = r.left.has 1000 := ⟨_, rfl⟩
        have HHC : Hid (Calls Try.prog 18 #[.agg #[.int .i64 lo, .slice la ln lc, .slice lp lk lpc], .int .i64 1000] w10 fun e w' => e = .returned (.bool hs) ∧ Below w10.heap.size w10 w') := by rw [hhs]; exact HHAS.out w10 (HBW.out.trans (B10.out.mono HBW.out.size))
        have HHS : Hid (hs = r.left.has 1000) := hhs
        clear hhs
        go_wp2_with fail
        refine HHC.out.mono ?_
        rintro e w11 ⟨rfl, hb11⟩
        have B11 : Hid (Below wr.heap.size wr w11) := B10.out.trans (hb11.mono B10.out.size)
        clear hb11 HHC s0 s1 s2 s3 s4 s5 s6 s7
        cases hs with
        | true =>
          go_wp2
          go_roundw
          case rel => exact ⟨k + 1, by omega, by go_num, HBL.out.trans (B11.out.mono HBL.out.size)⟩
          case measure => simp [intOf]; omega
        | false =>
          by_cases hk0 : k = 0
          · subst hk0
            go_wp2
            go_roundw
            case rel => exact ⟨0 + 1, by omega, by go_num, HBL.out.trans (B11.out.mono HBL.out.size)⟩
            case measure => first | (simp [intOf]; done) | (simp [intOf]; omega)
          · have hkp : (0 : Int) < (k : Int) := by omega
            obtain ⟨s0, s1, s2, s3, s4, s5, s6, s7⟩ := box8 (HX8.out w11 (HBL.out.trans (B11.out.mono HBL.out.size))).1
            have HC3 : Hid (Calls Try.prog 14 #[.agg #[.int .i64 lo, .slice la ln lc, .slice lp lk lpc, .int .i64 ro, .slice ra rn rc, .slice rp rk rpc, .bool br, .bool true], .slice a8 (1 + m) c8, .int .i64 (k : Int)] w11 fun e w' => e = .returned (.bool false) ∧ Below w11.heap.size w11 w') := by
              have h1 := HFT.out w11 true ([1000] ++ X) a8 (1 + m) c8 k (HBW.out.trans (B11.out.mono HBW.out.size)) (HR8.out.1.later (HBL.out.trans (B11.out.mono HBL.out.size))) HR8.out.2.1 HR8.out.2.2 (by omega) (by omega)
              obtain ⟨k', rfl⟩ : ∃ k', k = k' + 1 := ⟨k - 1, by omega⟩
              have h2 := fit_strange 1000 r.left r.right r.brk HHS.out.symm X k'
              rw [show ([1000] ++ X : List Int) = 1000 :: X from rfl, h2] at h1
              exact h1
            go_wp2_with fail
            refine HC3.out.mono ?_
            rintro e w12 ⟨rfl, hb12⟩
            have B12 : Hid (Below wr.heap.size wr w12) := B11.out.trans (hb12.mono B11.out.size)
            clear hb12 HC3 s0 s1 s2 s3 s4 s5 s6 s7
            go_wp2
            go_roundw
            case rel => exact ⟨k + 1, by omega, by go_num, HBL.out.trans (B12.out.mono HBL.out.size)⟩
            case measure => simp [intOf]; omega
    · have hki : ¬ (k : Int) ≤ (m : Int) := by omega
      go_wp2
      go_ret
      exact ⟨rfl, HBW.out⟩
end Go.Proofs.Ytjbhfonokgkalaa
