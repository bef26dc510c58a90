/- The walk of ReadingParts. -/
import Derived.Test.YtghndpmengmeeaaReaZ
namespace Go.Proofs.Ytghndpmengmeeaa
open Go.RowKit
set_option linter.unusedVariables false
set_option linter.unusedSimpArgs false

/-- A rule of a Left alone. -/
def lone (x : Nd) (s : Bool) : Rl := ⟨x, nilNd, false, s⟩
theorem lone_fit (x : Nd) (s : Bool) (xs : List Int) (p : Nat) : (lone x s).fit xs p = endsAt (x.nrm false) (!s) (xs.take p).reverse := by
  have h2 : (nilNd.nrm true).emp = true := rfl
  have h : (lone x s).fitR xs p = true := by
    show endsAt (nilNd.nrm true) true _ = true
    unfold endsAt
    rw [h2]
    simp
  unfold Rl.fit
  rw [h, Bool.and_true]
  rfl
def altN (x y : Nd) : Nd := ⟨3, [], ofL [x, y]⟩
def optN (x : Nd) : Nd := ⟨5, [], ofL [x]⟩
theorem alt_emp (x y : Nd) : ((altN x y).nrm false).emp = ((x.nrm false).emp || (y.nrm false).emp) := by
  show nodeM 3 (den (ofL [x.nrm false, y.nrm false])) = _
  rw [den_map, toL_ofL]
  simp [nodeM]
theorem alt_end (x y : Nd) (h : Hist) : ((altN x y).nrm false).end h = ((x.nrm false).end h || (y.nrm false).end h) := by
  show nodeE 3 [] (den (ofL [x.nrm false, y.nrm false])) h = _
  rw [den_map, toL_ofL]
  simp [nodeE, anyE]
theorem opt_emp (x : Nd) : ((optN x).nrm false).emp = true := by
  show nodeM 5 (den (ofL [x.nrm false])) = _
  rw [den_map, toL_ofL]
  simp [nodeM]
theorem opt_end (x : Nd) (h : Hist) : ((optN x).nrm false).end h = (x.nrm false).end h := by
  show nodeE 5 [] (den (ofL [x.nrm false])) h = _
  rw [den_map, toL_ofL]
  simp [nodeE, anyE]
theorem fit_alt (x y : Nd) (xs : List Int) (p : Nat) : (lone (altN x y) false).fit xs p = ((lone x false).fit xs p || (lone y false).fit xs p) := by
  rw [lone_fit, lone_fit, lone_fit]
  unfold endsAt
  rw [alt_emp, alt_end]
  split
  · rfl
  · cases (x.nrm false).emp <;> cases (y.nrm false).emp <;> simp
theorem fit_opt (x : Nd) (xs : List Int) (p : Nat) (hp : p ≤ xs.length) : (lone (optN x) true).fit xs p = ((lone x true).fit xs p || decide (p = 0)) := by
  rw [lone_fit, lone_fit]
  unfold endsAt
  rw [opt_emp, opt_end]
  cases p with
  | zero => simp
  | succ p =>
    have h : ((xs.take (p + 1)).reverse).isEmpty = false := by
      rw [List.isEmpty_eq_false_iff]
      intro h
      have := congrArg List.length h
      rw [List.length_reverse, List.length_take, List.length_nil] at this
      omega
    rw [h]
    simp
/-- The two kept, or fewer. -/
theorem fewR_two (r s : Rl) : (fewR [r, s]).length < 2 ∨ (fewR [r, s] = [r, s] ∧ keepR r = true ∧ keepR s = true) := by
  unfold fewR
  simp only [List.take, List.filter_cons, List.filter_nil]
  cases keepR r <;> cases keepR s <;> simp
theorem keep_left {r : Rl} (h : keepR r = true) : dpF 12 r.left < 99 := by
  unfold keepR at h
  simp only [Bool.and_eq_true, decide_eq_true_eq] at h
  omega
abbrev ndV (x : Nd) (a : Option Addr) (c : Nat) (k : Option Addr) (kc : Nat) : List Value := [.int .i64 x.op, .slice a x.cl.length c, .slice k (toL x.kids).length kc]
theorem nil_in (w : World) (d : Nat) : InV w.heap.size w (d + 1) nilNd [.int .i64 0, .slice none 0 0, .slice none 0 0] := InV.leaf w d 0 [] none 0 (rd_nil _ _) (by simp)
theorem two_row {w : World} {D : Nat} {x y : Nd} {xa xk ya yk : Option Addr} {xc xkc yc ykc : Nat} (hx : InV w.heap.size w D x (ndV x xa xc xk xkc)) (hy : InV w.heap.size w D y (ndV y ya yc yk ykc)) :
    RowR (w.alloc (.cells #[.int .i64 x.op, .slice xa x.cl.length xc, .slice xk (toL x.kids).length xkc, .int .i64 0, .slice none 0 0, .slice none 0 0, .bool false, .bool false, .int .i64 y.op, .slice ya y.cl.length yc, .slice yk (toL y.kids).length ykc, .int .i64 0, .slice none 0 0, .slice none 0 0, .bool false, .bool false] 35)) (D + 1) (some ⟨w.heap.size, 0, none⟩) 2 [lone x false, lone y false] := by
  have hb : ∀ o : Obj, Below w.heap.size w (w.alloc o) := fun o => (Below.refl _ w).alloc (Nat.le_refl _) _
  refine ⟨rfl, fun i hi => ?_⟩
  match i, hi with
  | 0, _ =>
    refine ⟨w.heap.size, 0, ⟨xa, xc, xk, xkc, none, 0, none, 0⟩, rfl, RlAt.later ⟨hx.deep D, nil_in w D⟩ (hb _), fun j v hv => ?_⟩
    have hj : j < 8 := by
      rcases Nat.lt_or_ge j 8 with h | h
      · exact h
      · rw [Array.getElem?_eq_none (by simpa using h)] at hv; cases hv
    rw [cell_of_row _ _ _ _ _ _ (heap_alloc_new w _)]
    match j, hj with
    | 0, _ | 1, _ | 2, _ | 3, _ | 4, _ | 5, _ | 6, _ | 7, _ => exact hv
  | 1, _ =>
    refine ⟨w.heap.size, 0, ⟨ya, yc, yk, ykc, none, 0, none, 0⟩, rfl, RlAt.later ⟨hy.deep D, nil_in w D⟩ (hb _), fun j v hv => ?_⟩
    have hj : j < 8 := by
      rcases Nat.lt_or_ge j 8 with h | h
      · exact h
      · rw [Array.getElem?_eq_none (by simpa using h)] at hv; cases hv
    rw [cell_of_row _ _ _ _ _ _ (heap_alloc_new w _)]
    match j, hj with
    | 0, _ | 1, _ | 2, _ | 3, _ | 4, _ | 5, _ | 6, _ | 7, _ => exact hv
theorem alt_at {w : World} {x y : Nd} {xa xk ya yk : Option Addr} {xc xkc yc ykc : Nat} (hx : InV w.heap.size w 12 x (ndV x xa xc xk xkc)) (hy : InV w.heap.size w 12 y (ndV y ya yc yk ykc)) :
    RlAt (w.alloc (.cells #[.int .i64 x.op, .slice xa x.cl.length xc, .slice xk (toL x.kids).length xkc, .int .i64 y.op, .slice ya y.cl.length yc, .slice yk (toL y.kids).length ykc] 33)) 13 (lone (altN x y) false) ⟨none, 0, some ⟨w.heap.size, 0, none⟩, 2, none, 0, none, 0⟩ := by
  have hb : ∀ o : Obj, Below w.heap.size w (w.alloc o) := fun o => (Below.refl _ w).alloc (Nat.le_refl _) _
  refine ⟨⟨none, 0, some ⟨w.heap.size, 0, none⟩, 2, rfl, rd_nil _ _, fun h => by simp [lone, altN] at h, by simp [lone, altN], by show (toL (ofL [x, y])).length ≤ _; rw [toL_ofL]; simp, fun _ => ⟨_, _, rfl, fun i hi => ?_⟩⟩, nil_in _ 12⟩
  have hi2 : i < 2 := by
    have h2 : i < (toL (ofL [x, y])).length := hi
    rw [toL_ofL] at h2
    simpa using h2
  match i, hi2 with
  | 0, _ =>
    refine ⟨_, ((hx.later (hb _) 12).base (hb _).size 12), fun j v hv => ?_⟩
    have hj : j < 3 := by
      rcases Nat.lt_or_ge j 3 with h | h
      · exact h
      · rw [List.getElem?_eq_none (by simpa using h)] at hv; cases hv
    rw [cell_of_row _ _ _ _ _ _ (heap_alloc_new w _)]
    match j, hj with
    | 0, _ | 1, _ | 2, _ => exact hv
  | 1, _ =>
    refine ⟨_, ((hy.later (hb _) 12).base (hb _).size 12), fun j v hv => ?_⟩
    have hj : j < 3 := by
      rcases Nat.lt_or_ge j 3 with h | h
      · exact h
      · rw [List.getElem?_eq_none (by simpa using h)] at hv; cases hv
    rw [cell_of_row _ _ _ _ _ _ (heap_alloc_new w _)]
    match j, hj with
    | 0, _ | 1, _ | 2, _ => exact hv
theorem opt_at {w : World} {x : Nd} {xa xk : Option Addr} {xc xkc : Nat} (hx : InV w.heap.size w 12 x (ndV x xa xc xk xkc)) :
    RlAt (w.alloc (.cells #[.int .i64 x.op, .slice xa x.cl.length xc, .slice xk (toL x.kids).length xkc] 33)) 13 (lone (optN x) true) ⟨none, 0, some ⟨w.heap.size, 0, none⟩, 1, none, 0, none, 0⟩ := by
  have hb : ∀ o : Obj, Below w.heap.size w (w.alloc o) := fun o => (Below.refl _ w).alloc (Nat.le_refl _) _
  refine ⟨⟨none, 0, some ⟨w.heap.size, 0, none⟩, 1, rfl, rd_nil _ _, fun h => by simp [lone, optN] at h, by simp [lone, optN], by show (toL (ofL [x])).length ≤ _; rw [toL_ofL]; simp, fun _ => ⟨_, _, rfl, fun i hi => ?_⟩⟩, nil_in _ 12⟩
  have hi2 : i < 1 := by
    have h2 : i < (toL (ofL [x])).length := hi
    rw [toL_ofL] at h2
    simpa using h2
  match i, hi2 with
  | 0, _ =>
    refine ⟨_, ((hx.later (hb _) 12).base (hb _).size 12), fun j v hv => ?_⟩
    have hj : j < 3 := by
      rcases Nat.lt_or_ge j 3 with h | h
      · exact h
      · rw [List.getElem?_eq_none (by simpa using h)] at hv; cases hv
    rw [cell_of_row _ _ _ _ _ _ (heap_alloc_new w _)]
    match j, hj with
    | 0, _ | 1, _ | 2, _ => exact hv
theorem fit_fitI2 (r : Rl) (xs : List Int) (p : Nat) (hp : p ≤ xs.length) : fitI r xs (p : Int) = r.fit xs p := by
  unfold fitI
  rw [if_pos (by omega)]
  rfl
theorem two_cells {w : World} {al : Option Addr} {x y : Nd} (h : RowR w 12 al 2 [lone x false, lone y false]) {xo yo : Int} {xn xl yn yl : Nat} (ho : xo = x.op ∧ xn = x.cl.length ∧ xl = (toL x.kids).length ∧ yo = y.op ∧ yn = y.cl.length ∧ yl = (toL y.kids).length) : ∃ b off la lc lp lpc ra rc rp rpc la' lc' lp' lpc' ra' rc' rp' rpc', al = some ⟨b, off, none⟩ ∧ RlAt w 12 (lone x false) ⟨la, lc, lp, lpc, ra, rc, rp, rpc⟩ ∧ RlAt w 12 (lone y false) ⟨la', lc', lp', lpc', ra', rc', rp', rpc'⟩ ∧
    (w.cell? ⟨b, off, none⟩ = some (.int .i64 xo) ∧ w.cell? ⟨b, off + 1, none⟩ = some (.slice la xn lc) ∧ w.cell? ⟨b, off + 2, none⟩ = some (.slice lp xl lpc) ∧ w.cell? ⟨b, off + 3, none⟩ = some (.int .i64 0) ∧ w.cell? ⟨b, off + 4, none⟩ = some (.slice ra 0 rc) ∧ w.cell? ⟨b, off + 5, none⟩ = some (.slice rp 0 rpc) ∧ w.cell? ⟨b, off + 6, none⟩ = some (.bool false) ∧ w.cell? ⟨b, off + 7, none⟩ = some (.bool false)) ∧
    (w.cell? ⟨b, off + 8, none⟩ = some (.int .i64 yo) ∧ w.cell? ⟨b, off + 8 + 1, none⟩ = some (.slice la' yn lc') ∧ w.cell? ⟨b, off + 8 + 2, none⟩ = some (.slice lp' yl lpc') ∧ w.cell? ⟨b, off + 8 + 3, none⟩ = some (.int .i64 0) ∧ w.cell? ⟨b, off + 8 + 4, none⟩ = some (.slice ra' 0 rc') ∧ w.cell? ⟨b, off + 8 + 5, none⟩ = some (.slice rp' 0 rpc') ∧ w.cell? ⟨b, off + 8 + 6, none⟩ = some (.bool false) ∧ w.cell? ⟨b, off + 8 + 7, none⟩ = some (.bool false)) := by
  obtain ⟨rfl, rfl, rfl, rfl, rfl, rfl⟩ := ho
  obtain ⟨b, off, q, rfl, hr1, t0, t1, t2, t3, t4, t5, t6, t7⟩ := h.cells 0 (by simp)
  obtain ⟨b', off', q', he', hr2, s0, s1, s2, s3, s4, s5, s6, s7⟩ := h.cells 1 (by simp)
  cases he'
  obtain ⟨la, lc, lp, lpc, ra, rc, rp, rpc⟩ := q
  obtain ⟨la', lc', lp', lpc', ra', rc', rp', rpc'⟩ := q'
  rw [Nat.zero_mul, Nat.add_zero] at t0 t1 t2 t3 t4 t5 t6 t7
  rw [Nat.one_mul] at s0 s1 s2 s3 s4 s5 s6 s7
  exact ⟨b, off, la, lc, lp, lpc, ra, rc, rp, rpc, la', lc', lp', lpc', ra', rc', rp', rpc', rfl, hr1, hr2, ⟨t0, t1, t2, t3, t4, t5, t6, t7⟩, s0, s1, s2, s3, s4, s5, s6, s7⟩

set_option maxHeartbeats 16000000 in
theorem readingParts_walk (D : Nat) (x y : Nd) (xa xk ya yk : Option Addr) (xc xkc yc ykc : Nat) (xs : List Int) (a : Option Addr) (len cap : Nat) (pp : Int) (w : World) (hx : InV w.heap.size w D x (ndV x xa xc xk xkc)) (hy : InV w.heap.size w D y (ndV y ya yc yk ykc)) (hrd : Rd .i64 w a len xs) (hcap : len ≤ cap) (hcm : cap ≤ 9223372036854775807) (hnone : a = none → cap = 0) :
    Calls Try.prog 9 #[.agg #[.int .i64 x.op, .slice xa x.cl.length xc, .slice xk (toL x.kids).length xkc], .agg #[.int .i64 y.op, .slice ya y.cl.length yc, .slice yk (toL y.kids).length ykc], .slice a len cap, .int .i64 pp] w fun e w' => e = .returned (.bool true) ∧ Below w.heap.size w w' := by
  obtain ⟨xo, hxo⟩ : ∃ xo, xo = x.op := ⟨_, rfl⟩
  obtain ⟨xn, hxn⟩ : ∃ xn, xn = x.cl.length := ⟨_, rfl⟩
  obtain ⟨xl, hxl⟩ : ∃ xl, xl = (toL x.kids).length := ⟨_, rfl⟩
  obtain ⟨yo, hyo⟩ : ∃ yo, yo = y.op := ⟨_, rfl⟩
  obtain ⟨yn, hyn⟩ : ∃ yn, yn = y.cl.length := ⟨_, rfl⟩
  obtain ⟨yl, hyl⟩ : ∃ yl, yl = (toL y.kids).length := ⟨_, rfl⟩
  obtain ⟨wA, hwA⟩ : ∃ wA, wA = (w.alloc (.cells #[.int .i64 xo, .slice xa xn xc, .slice xk xl xkc] 33)).alloc (.cells #[.int .i64 yo, .slice ya yn yc, .slice yk yl ykc] 33) := ⟨_, rfl⟩
  obtain ⟨bx, hbx⟩ : ∃ bx, bx = w.heap.size := ⟨_, rfl⟩
  obtain ⟨by', hby⟩ : ∃ by', by' = w.heap.size + 1 := ⟨_, rfl⟩
  have BA : Hid (Below w.heap.size w wA) := by rw [hwA]; exact ((Below.refl _ w).alloc (Nat.le_refl _) _).alloc (by simp) _
  have HC : Hid (∀ V : World, Below wA.heap.size wA V → V.cell? ⟨bx, 0, none⟩ = some (.int .i64 xo) ∧ V.cell? ⟨bx, 1, none⟩ = some (.slice xa xn xc) ∧ V.cell? ⟨bx, 2, none⟩ = some (.slice xk xl xkc) ∧ V.cell? ⟨by', 0, none⟩ = some (.int .i64 yo) ∧ V.cell? ⟨by', 1, none⟩ = some (.slice ya yn yc) ∧ V.cell? ⟨by', 2, none⟩ = some (.slice yk yl ykc)) := by
    intro V hV
    have hb1 : Below (w.alloc (.cells #[.int .i64 xo, .slice xa xn xc, .slice xk xl xkc] 33)).heap.size (w.alloc (.cells #[.int .i64 xo, .slice xa xn xc, .slice xk xl xkc] 33)) wA := by rw [hwA]; exact (Below.refl _ _).alloc (Nat.le_refl _) _
    have h1 : ∀ i, i < 3 → (w.alloc (.cells #[.int .i64 xo, .slice xa xn xc, .slice xk xl xkc] 33)).cell? ⟨bx, i, none⟩ = (#[.int .i64 xo, .slice xa xn xc, .slice xk xl xkc] : Array Value)[i]? := fun i hi => by rw [hbx]; exact cell_of_row _ _ i _ _ _ (heap_alloc_new w _)
    have h2 : ∀ i, i < 3 → wA.cell? ⟨by', i, none⟩ = (#[.int .i64 yo, .slice ya yn yc, .slice yk yl ykc] : Array Value)[i]? := fun i hi => by rw [hby, hwA]; have h3 := heap_alloc_new (w.alloc (.cells #[.int .i64 xo, .slice xa xn xc, .slice xk xl xkc] 33)) (.cells #[.int .i64 yo, .slice ya yn yc, .slice yk yl ykc] 33); exact cell_of_row _ _ i _ _ _ (by simpa using h3)
    exact ⟨upC hV (upC hb1 (h1 0 (by omega))), upC hV (upC hb1 (h1 1 (by omega))), upC hV (upC hb1 (h1 2 (by omega))), upC hV (h2 0 (by omega)), upC hV (h2 1 (by omega)), upC hV (h2 2 (by omega))⟩
  have HX : Hid (∀ V : World, Below w.heap.size w V → InV V.heap.size V D x (ndV x xa xc xk xkc)) := fun V hV => (hx.later hV D).base hV.size D
  have HY : Hid (∀ V : World, Below w.heap.size w V → InV V.heap.size V D y (ndV y ya yc yk ykc)) := fun V hV => (hy.later hV D).base hV.size D
  have HF : Hid (∀ W : World, Below w.heap.size w W → Calls Try.prog 12 #[.slice (some ⟨W.heap.size, 0, none⟩) 2 2, .slice a len cap] (W.alloc (.cells #[.int .i64 xo, .slice xa xn xc, .slice xk xl xkc, .int .i64 0, .slice none 0 0, .slice none 0 0, .bool false, .bool false, .int .i64 yo, .slice ya yn yc, .slice yk yl ykc, .int .i64 0, .slice none 0 0, .slice none 0 0, .bool false, .bool false] 35)) (FewPost [lone x false, lone y false] xs (W.alloc (.cells #[.int .i64 xo, .slice xa xn xc, .slice xk xl xkc, .int .i64 0, .slice none 0 0, .slice none 0 0, .bool false, .bool false, .int .i64 yo, .slice ya yn yc, .slice yk yl ykc, .int .i64 0, .slice none 0 0, .slice none 0 0, .bool false, .bool false] 35)))) := by
    intro W hW
    have h1 := two_row (HX.out W hW) (HY.out W hW)
    rw [← hxo, ← hxn, ← hxl, ← hyo, ← hyn, ← hyl] at h1
    exact few_any (D + 1) [lone x false, lone y false] xs _ a 2 2 len cap _ h1 (by omega) ((hrd.later hW).later ((Below.refl _ W).alloc (Nat.le_refl _) _)) hcap hcm hnone
  have HO : Hid (xo = x.op ∧ xn = x.cl.length ∧ xl = (toL x.kids).length ∧ yo = y.op ∧ yn = y.cl.length ∧ yl = (toL y.kids).length) := ⟨hxo, hxn, hxl, hyo, hyn, hyl⟩
  rw [← hxo, ← hxn, ← hxl, ← hyo, ← hyn, ← hyl]
  clear hx hy hrd hcap hcm hnone hxo hxn hxl hyo hyn hyl
  go_enter Try.func9, Try.ntmps9
  go_wp2_with fail
  rw [← hwA, ← hby, ← hbx]
  refine (shown_any wA).mono ?_
  rintro e w1 ⟨rfl, hb1⟩
  have B1 : Hid (Below w.heap.size w w1) := BA.out.trans (hb1.mono BA.out.size)
  obtain ⟨e0, e1, e2, e3, e4, e5⟩ := HC.out w1 hb1
  have A1 : Hid (Below wA.heap.size wA w1) := hb1
  clear hb1 hbx hby hwA
  go_wp2_with fail
  refine (HF.out w1 B1.out).mono ?_
  rintro e w2 ⟨v1, a2, c2, rfl, hou, hox, hb2⟩
  have A2 : Hid (Below wA.heap.size wA w2) := A1.out.trans ((((Below.refl _ w1).alloc (Nat.le_refl _) _).trans (hb2.mono (by simp))).mono A1.out.size)
  have B2 : Hid (Below w.heap.size w w2) := BA.out.trans (A2.out.mono BA.out.size)
  obtain ⟨X, hX⟩ : ∃ X, X = xs.take 16 := ⟨_, rfl⟩
  obtain ⟨m, hm⟩ : ∃ m, m = X.length := ⟨_, rfl⟩
  have hm16 : m ≤ 16 := by rw [hm, hX]; simp; omega
  rw [← hX, ← hm] at hox ⊢
  obtain ⟨a2', c2', he, hc2, hc2m, hrdx, hn2⟩ := rd_own2 hox
  cases he
  have HRX : Hid (Rd .i64 w2 a2 m X ∧ m ≤ c2 ∧ (a2 = none → c2 = 0) ∧ m = X.length) := ⟨hrdx, hc2, hn2, hm⟩
  obtain ⟨al2, cl2, rfl, hrowl⟩ := hou.row
  clear HF e0 e1 e2 e3 e4 e5 hou hox hb2 hX hm hc2 hc2m hrdx hn2
  rcases fewR_two (lone x false) (lone y false) with hlt | ⟨heq, kx, ky⟩
  · obtain ⟨N, hN⟩ : ∃ N, N = (fewR [lone x false, lone y false]).length := ⟨_, rfl⟩
    rw [← hN] at hlt ⊢
    have hNi : (N : Int) < 2 := by omega
    clear hN hrowl
    go_wp2
    go_ret
    exact ⟨rfl, B2.out⟩
  · rw [heq] at hrowl ⊢
    have HRW : Hid (RowR w2 12 al2 2 [lone x false, lone y false]) := hrowl
    clear hrowl heq
    have HX2 : Hid (∀ V : World, Below w.heap.size w V → InV V.heap.size V 12 x (ndV x xa xc xk xkc)) := fun V hV => InV.cut 12 (HX.out V hV) (keep_left kx)
    have HY2 : Hid (∀ V : World, Below w.heap.size w V → InV V.heap.size V 12 y (ndV y ya yc yk ykc)) := fun V hV => InV.cut 12 (HY.out V hV) (keep_left ky)
    clear HX HY kx ky
    obtain ⟨P1, hP1⟩ : ∃ P1, P1 = pp % 256 := ⟨_, rfl⟩
    have hand : bits .and .i64 pp 255 = P1 := by rw [and_low pp 255 8 (by omega) (by decide)]; exact hP1.symm
    have hP10 : 0 ≤ P1 := by omega
    have hP11 : P1 < 256 := by omega
    obtain ⟨p, hp⟩ : ∃ p : Nat, (p : Int) = P1 % ((m : Int) + 1) := ⟨(P1 % ((m : Int) + 1)).toNat, by have := Int.emod_nonneg P1 (show (m : Int) + 1 ≠ 0 by omega); omega⟩
    have hpm : p ≤ m := by have := Int.emod_lt_of_pos P1 (show 0 < (m : Int) + 1 by omega); omega
    have hrem : P1.tmod ((m : Int) + 1) = (p : Int) := by rw [Int.tmod_eq_emod_of_nonneg (by omega)]; exact hp.symm
    have hmw : IntKind.i64.wrap ((m : Int) + 1) = (m : Int) + 1 := by rw [IntKind.wrap_i64]; omega
    have hpw : IntKind.i64.wrap (p : Int) = (p : Int) := by rw [IntKind.wrap_i64]; omega
    have hm0 : ¬ (m : Int) + 1 = 0 := by omega
    clear hp hP1
    have hmi : (m : Int) ≤ 16 := by omega
    have HFT : Hid (∀ (d : Nat) (r : Rl) (q : RlP) (V : World), d ≤ 13 → RlAt V d r q → Below w2.heap.size w2 V → Calls Try.prog 16 #[.agg (r.vals q), .slice a2 m c2, .int .i64 (p : Int)] V fun e w' => e = .returned (.bool (r.fit X p)) ∧ Below V.heap.size V w') := by
      intro d r q V hd hr hV
      have := fits_any d r q X a2 m c2 (p : Int) V hr (by omega) (HRX.out.1.later hV) HRX.out.2.1 HRX.out.2.2.1 (by omega)
      rw [fit_fitI2 r X p (by rw [← HRX.out.2.2.2]; exact hpm)] at this
      exact this
    obtain ⟨b, off, la, lc, lp, lpc, ra, rc, rp, rpc, la', lc', lp', lpc', ra', rc', rp', rpc', rfl, hr1, hr2, ⟨t0, t1, t2, t3, t4, t5, t6, t7⟩, s0, s1, s2, s3, s4, s5, s6, s7⟩ := two_cells HRW.out HO.out
    obtain ⟨F1, hF1⟩ : ∃ F, F = (lone x false).fit X p := ⟨_, rfl⟩
    obtain ⟨F2, hF2⟩ : ∃ F, F = (lone y false).fit X p := ⟨_, rfl⟩
    obtain ⟨F4, hF4⟩ : ∃ F, F = (lone x true).fit X p := ⟨_, rfl⟩
    obtain ⟨z, hz⟩ : ∃ z, z = decide (p = 0) := ⟨_, rfl⟩
    have hAl : ∀ (V : World) (o : Obj), Below V.heap.size V (V.alloc o) := fun V o => (Below.refl _ V).alloc (Nat.le_refl _) _
    have HC1 : Hid (Calls Try.prog 16 #[.agg #[.int .i64 xo, .slice la xn lc, .slice lp xl lpc, .int .i64 0, .slice ra 0 rc, .slice rp 0 rpc, .bool false, .bool false], .slice a2 m c2, .int .i64 (p : Int)] w2 fun e w' => e = .returned (.bool F1) ∧ Below w2.heap.size w2 w') := by
      have := HFT.out 12 _ _ w2 (by omega) hr1 (Below.refl _ _)
      rw [hF1, HO.out.1, HO.out.2.1, HO.out.2.2.1]
      exact this
    have HC2 : Hid (∀ V : World, Below w2.heap.size w2 V → Calls Try.prog 16 #[.agg #[.int .i64 yo, .slice la' yn lc', .slice lp' yl lpc', .int .i64 0, .slice ra' 0 rc', .slice rp' 0 rpc', .bool false, .bool false], .slice a2 m c2, .int .i64 (p : Int)] V fun e w' => e = .returned (.bool F2) ∧ Below V.heap.size V w') := by
      intro V hV
      have := HFT.out 12 _ _ V (by omega) (hr2.later hV) hV
      rw [hF2, HO.out.2.2.2.1, HO.out.2.2.2.2.1, HO.out.2.2.2.2.2]
      exact this
    have HC3 : Hid (∀ V : World, Below w2.heap.size w2 V → Calls Try.prog 16 #[.agg #[.int .i64 3, .slice none 0 0, .slice (some ⟨V.heap.size, 0, none⟩) 2 2, .int .i64 0, .slice none 0 0, .slice none 0 0, .bool false, .bool false], .slice a2 m c2, .int .i64 (p : Int)] (V.alloc (.cells #[.int .i64 xo, .slice xa xn xc, .slice xk xl xkc, .int .i64 yo, .slice ya yn yc, .slice yk yl ykc] 33)) fun e w' => e = .returned (.bool (F1 || F2)) ∧ Below V.heap.size V w') := by
      intro V hV
      have hwV : Below w.heap.size w V := B2.out.trans (hV.mono B2.out.size)
      have h1 := HFT.out 13 _ _ _ (by omega) (alt_at (HX2.out V hwV) (HY2.out V hwV)) (hV.trans ((hAl V _).mono hV.size))
      rw [fit_alt, ← hF1, ← hF2] at h1
      rw [HO.out.1, HO.out.2.1, HO.out.2.2.1, HO.out.2.2.2.1, HO.out.2.2.2.2.1, HO.out.2.2.2.2.2]
      refine h1.mono ?_
      rintro e w' ⟨he, hb⟩
      exact ⟨he, (hAl V _).trans (hb.mono (hAl V _).size)⟩
    have HC4 : Hid (∀ V : World, Below w2.heap.size w2 V → Calls Try.prog 16 #[.agg #[.int .i64 5, .slice none 0 0, .slice (some ⟨V.heap.size, 0, none⟩) 1 1, .int .i64 0, .slice none 0 0, .slice none 0 0, .bool false, .bool true], .slice a2 m c2, .int .i64 (p : Int)] (V.alloc (.cells #[.int .i64 xo, .slice xa xn xc, .slice xk xl xkc] 33)) fun e w' => e = .returned (.bool (F4 || z)) ∧ Below V.heap.size V w') := by
      intro V hV
      have hwV : Below w.heap.size w V := B2.out.trans (hV.mono B2.out.size)
      have h1 := HFT.out 13 _ _ _ (by omega) (opt_at (HX2.out V hwV)) (hV.trans ((hAl V _).mono hV.size))
      rw [fit_opt x X p (by rw [← HRX.out.2.2.2]; exact hpm), ← hF4, ← hz] at h1
      rw [HO.out.1, HO.out.2.1, HO.out.2.2.1]
      refine h1.mono ?_
      rintro e w' ⟨he, hb⟩
      exact ⟨he, (hAl V _).trans (hb.mono (hAl V _).size)⟩
    have HC5 : Hid (∀ V : World, Below w2.heap.size w2 V → Calls Try.prog 16 #[.agg #[.int .i64 xo, .slice xa xn xc, .slice xk xl xkc, .int .i64 0, .slice none 0 0, .slice none 0 0, .bool false, .bool true], .slice a2 m c2, .int .i64 (p : Int)] V fun e w' => e = .returned (.bool F4) ∧ Below V.heap.size V w') := by
      intro V hV
      have hwV : Below w.heap.size w V := B2.out.trans (hV.mono B2.out.size)
      have h1 := HFT.out 12 (lone x true) ⟨xa, xc, xk, xkc, none, 0, none, 0⟩ V (by omega) ⟨HX2.out V hwV, nil_in V 11⟩ hV
      rw [← hF4] at h1
      rw [HO.out.1, HO.out.2.1, HO.out.2.2.1]
      exact h1
    have HS : Hid (∀ V : World, Below w2.heap.size w2 V → V.cell? ⟨b, off + 8, none⟩ = some (.int .i64 yo) ∧ V.cell? ⟨b, off + 8 + 1, none⟩ = some (.slice la' yn lc') ∧ V.cell? ⟨b, off + 8 + 2, none⟩ = some (.slice lp' yl lpc') ∧ V.cell? ⟨b, off + 8 + 3, none⟩ = some (.int .i64 0) ∧ V.cell? ⟨b, off + 8 + 4, none⟩ = some (.slice ra' 0 rc') ∧ V.cell? ⟨b, off + 8 + 5, none⟩ = some (.slice rp' 0 rpc') ∧ V.cell? ⟨b, off + 8 + 6, none⟩ = some (.bool false) ∧ V.cell? ⟨b, off + 8 + 7, none⟩ = some (.bool false)) := fun V hV => ⟨upC hV s0, upC hV s1, upC hV s2, upC hV s3, upC hV s4, upC hV s5, upC hV s6, upC hV s7⟩
    have hzp : ((p : Int) == 0) = z := by rw [hz, Bool.eq_iff_iff]; simp
    clear hr1 hr2 s0 s1 s2 s3 s4 s5 s6 s7 hF1 hF2 hF4 hz hAl HFT HX2 HY2 HRW HRX
    go_wp2_with fail
    refine HC1.out.mono ?_
    rintro e w3 ⟨rfl, hb3⟩
    have D3 : Hid (Below w2.heap.size w2 w3) := hb3
    clear hb3 HC1 t0 t1 t2 t3 t4 t5 t6 t7
    obtain ⟨s0, s1, s2, s3, s4, s5, s6, s7⟩ := HS.out w3 D3.out
    go_wp2_with fail
    refine (HC2.out w3 D3.out).mono ?_
    rintro e w4 ⟨rfl, hb4⟩
    have D4 : Hid (Below w2.heap.size w2 w4) := D3.out.trans (hb4.mono D3.out.size)
    clear hb4 HC2 HS s0 s1 s2 s3 s4 s5 s6 s7
    obtain ⟨e0, e1, e2, e3, e4, e5⟩ := HC.out w4 (A2.out.trans (D4.out.mono A2.out.size))
    go_wp2_with fail
    refine (HC3.out w4 D4.out).mono ?_
    rintro e w5 ⟨rfl, hb5⟩
    have D5 : Hid (Below w2.heap.size w2 w5) := D4.out.trans (hb5.mono D4.out.size)
    clear hb5 HC3 e0 e1 e2 e3 e4 e5
    obtain ⟨e0, e1, e2, _, _, _⟩ := HC.out w5 (A2.out.trans (D5.out.mono A2.out.size))
    go_wp2_with fail
    refine (HC4.out w5 D5.out).mono ?_
    rintro e w6 ⟨rfl, hb6⟩
    have D6 : Hid (Below w2.heap.size w2 w6) := D5.out.trans (hb6.mono D5.out.size)
    clear hb6 HC4 e0 e1 e2
    obtain ⟨e0, e1, e2, _, _, _⟩ := HC.out w6 (A2.out.trans (D6.out.mono A2.out.size))
    go_wp2_with fail
    refine (HC5.out w6 D6.out).mono ?_
    rintro e w7 ⟨rfl, hb7⟩
    have D7 : Hid (Below w.heap.size w w7) := B2.out.trans ((D6.out.trans (hb7.mono D6.out.size)).mono B2.out.size)
    clear hb7 HC5 e0 e1 e2
    cases F1 <;> cases F2 <;> cases F4 <;> cases z <;> (go_wp2; go_ret; exact ⟨rfl, D7.out⟩)
end Go.Proofs.Ytghndpmengmeeaa
