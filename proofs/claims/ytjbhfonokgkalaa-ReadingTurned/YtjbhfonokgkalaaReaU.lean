/- The walks of what the statements look at first: how deep an expression is, how many nodes it has. -/
import Derived.Test.YtjbhfonokgkalaaReaT
namespace Go.Proofs.Ytjbhfonokgkalaa
open Go.RowKit
set_option linter.unusedVariables false
set_option linter.unusedSimpArgs false

/-- How deep an expression is, as it is asked with that much left. -/
def dpF : Nat → Nd → Int
  | 0, _ => 99
  | t + 1, n => min 99 ((toL n.kids).foldl (fun m x => max m (dpF t x)) 0 + 1)
theorem dpF_le : (t : Nat) → (n : Nd) → dpF t n ≤ 99
  | 0, _ => by simp [dpF]
  | t + 1, n => by simp only [dpF]; omega
theorem fold_ge (f : Nd → Int) : (l : List Nd) → (m : Int) → m ≤ l.foldl (fun m x => max m (f x)) m ∧ ∀ x ∈ l, f x ≤ l.foldl (fun m x => max m (f x)) m
  | [], m => ⟨Int.le_refl _, fun x hx => by simp at hx⟩
  | y :: r, m => by
    obtain ⟨h1, h2⟩ := fold_ge f r (max m (f y))
    simp only [List.foldl_cons]
    refine ⟨by omega, fun x hx => ?_⟩
    rcases List.mem_cons.1 hx with rfl | hx
    · omega
    · exact h2 x hx
theorem fold_le (f : Nd → Int) (b : Int) : (l : List Nd) → (m : Int) → m ≤ b → (∀ x ∈ l, f x ≤ b) → l.foldl (fun m x => max m (f x)) m ≤ b
  | [], m, h, _ => h
  | y :: r, m, h, hf => by
    simp only [List.foldl_cons]
    refine fold_le f b r _ ?_ (fun x hx => hf x (by simp [hx]))
    have := hf y (by simp)
    omega
/-- What is not too deep is no deeper than what was left. -/
theorem InV.cut {B : Nat} {w : World} : (t : Nat) → {d : Nat} → {n : Nd} → {vs : List Value} → InV B w d n vs → dpF t n < 99 → InV B w t n vs
  | 0, _, _, _, _, h => by simp [dpF] at h
  | t + 1, 0, _, _, hi, _ => hi.elim
  | t + 1, d + 1, n, vs, hi, h => by
    obtain ⟨ca, cc, pa, pc, h1, h2, h3, h4, h5, h6⟩ := hi
    refine ⟨ca, cc, pa, pc, h1, h2, h3, h4, h5, fun hp => ?_⟩
    obtain ⟨b, off, e, hk⟩ := h6 hp
    refine ⟨b, off, e, fun i hi => ?_⟩
    obtain ⟨us, k1, k2⟩ := hk i hi
    refine ⟨us, k1.cut t ?_, k2⟩
    have := (fold_ge (dpF t) (toL n.kids) 0).2 (toL n.kids)[i] (List.getElem_mem hi)
    simp only [dpF] at h
    omega
/-- How many nodes there are. -/
def szF : Fo → Int
  | .nil => 0
  | .node _ _ _ k r => 1 + szF k + szF r
def Nd.sz (n : Nd) : Int := 1 + szF n.kids
theorem szF_sum : (f : Fo) → szF f = (toL f).foldl (fun s x => s + x.sz) 0
  | .nil => rfl
  | .node _ _ a k r => by
    have key : ∀ (l : List Nd) (s : Int), l.foldl (fun s x => s + x.sz) s = s + l.foldl (fun s x => s + x.sz) 0 := by
      intro l
      induction l with
      | nil => intro s; simp
      | cons x r ih => intro s; simp only [List.foldl_cons]; rw [ih, ih (0 + x.sz)]; omega
    simp only [szF, toL, List.foldl_cons]
    rw [key, szF_sum r]
    simp only [Nd.sz]
    omega
theorem wrap_add2 (a b : Int) : IntKind.i64.wrap (IntKind.i64.wrap a + IntKind.i64.wrap b) = IntKind.i64.wrap (a + b) := by
  simp only [IntKind.wrap_i64]
  omega
theorem maxR (a b : Int) (W : World) : (Builtin.max_ #[3, 3] 3 #[.int .i64 a, .int .i64 b]).run Try.prog W = .ok (.int .i64 (max a b)) W := by
  rw [run_max_int2]
  congr 2
  split <;> omega
theorem minR (a b : Int) (W : World) : (Builtin.min_ #[3, 3] 3 #[.int .i64 a, .int .i64 b]).run Try.prog W = .ok (.int .i64 (min a b)) W := by
  rw [run_min_int2]
  congr 2
  split <;> omega

set_option maxHeartbeats 2000000 in
theorem deep_zero (op : Int) (ca pa : Option Addr) (n cc pn pc : Nat) (w : World) :
    Calls Try.prog 35 #[.agg #[.int .i64 op, .slice ca n cc, .slice pa pn pc], .int .i64 0] w fun e w' => e = .returned (.int .i64 99) ∧ Below w.heap.size w w' := by
  have HB : Hid (Below w.heap.size w (w.alloc (.cells #[.int .i64 op, .slice ca n cc, .slice pa pn pc] 33))) := (Below.refl _ w).alloc (Nat.le_refl _) _
  go_enter Try.func35, Try.ntmps35
  go_wp2
  go_ret
  exact ⟨rfl, HB.out⟩
/-- What Deep tells, with that much left. -/
def DpC (t : Nat) : Prop := ∀ (d : Nat) (n : Nd) (ca pa : Option Addr) (cc pc : Nat) (B : Nat) (w : World), InV B w d n [.int .i64 n.op, .slice ca n.cl.length cc, .slice pa (toL n.kids).length pc] →
  Calls Try.prog 35 #[.agg #[.int .i64 n.op, .slice ca n.cl.length cc, .slice pa (toL n.kids).length pc], .int .i64 (t : Int)] w fun e w' => e = .returned (.int .i64 (dpF t n)) ∧ Below w.heap.size w w'
theorem InV.kid {B : Nat} {w : World} {d : Nat} {n : Nd} {ca pa : Option Addr} {cn cc kn pc : Nat} {op : Int} (h : InV B w d n [.int .i64 op, .slice ca cn cc, .slice pa kn pc]) (i : Nat) (hi : i < (toL n.kids).length) : ∃ b off x c y e d', pa = some ⟨b, off, none⟩ ∧ InV B w d' (toL n.kids)[i] [.int .i64 (toL n.kids)[i].op, .slice x (toL n.kids)[i].cl.length c, .slice y (toL (toL n.kids)[i].kids).length e] ∧ d' + 1 = d ∧
    w.cell? ⟨b, off + i * 3, none⟩ = some (.int .i64 (toL n.kids)[i].op) ∧ w.cell? ⟨b, off + i * 3 + 1, none⟩ = some (.slice x (toL n.kids)[i].cl.length c) ∧ w.cell? ⟨b, off + i * 3 + 2, none⟩ = some (.slice y (toL (toL n.kids)[i].kids).length e) := by
  cases d with
  | zero => exact h.elim
  | succ d =>
    obtain ⟨ca', cc', pa', pc', hv, _, _, _, _, h6⟩ := h
    simp only [List.cons.injEq, Value.slice.injEq] at hv
    obtain ⟨b, off, e, hk⟩ := h6 (by omega)
    obtain ⟨us, k1, k2⟩ := hk i hi
    obtain ⟨x, c, y, f, rfl⟩ := k1.three
    exact ⟨b, off, x, c, y, f, d, by rw [hv.2.2.1.1]; exact e, k1, rfl, k2 0 _ rfl, k2 1 _ rfl, k2 2 _ rfl⟩
theorem InV.bounds {B : Nat} {w : World} {d : Nat} {n : Nd} {vs : List Value} (h : InV B w d n vs) : (toL n.kids).length ≤ 2600000000000 := by
  cases d with
  | zero => exact h.elim
  | succ d => obtain ⟨_, _, _, _, _, _, _, _, h5, _⟩ := h; exact h5

set_option maxHeartbeats 8000000 in
theorem deep_up (t : Nat) (ht : t ≤ 1000) (HP : DpC t) : DpC (t + 1) := by
  intro d n ca pa cc pc B w hin
  have HPC : Hid (DpC t) := HP
  have HIN : Hid (InV B w d n [.int .i64 n.op, .slice ca n.cl.length cc, .slice pa (toL n.kids).length pc]) := hin
  have hb := hin.bounds
  obtain ⟨op, hop⟩ : ∃ op, op = n.op := ⟨_, rfl⟩
  obtain ⟨cn, hcn⟩ : ∃ cn, cn = n.cl.length := ⟨_, rfl⟩
  obtain ⟨K, hK⟩ : ∃ K, K = (toL n.kids).length := ⟨_, rfl⟩
  obtain ⟨res, hres⟩ : ∃ res, res = dpF (t + 1) n := ⟨_, rfl⟩
  have HRES : Hid (res = min 99 ((toL n.kids).foldl (fun m x => max m (dpF t x)) 0 + 1)) := by show res = _; rw [hres]; rfl
  rw [← hop, ← hcn, ← hK, ← hres]
  have HK : Hid (K = (toL n.kids).length) := hK
  have hKi : (K : Int) ≤ 2600000000000 := by omega
  obtain ⟨T, hT⟩ : ∃ T : Int, T = ((t + 1 : Nat) : Int) := ⟨_, rfl⟩
  rw [← hT]
  have hT0 : ¬ T = 0 := by omega
  have hTb : (T == 0) = false := by rw [beq_eq_false_iff_ne]; exact hT0
  have hTw : IntKind.i64.wrap (T - 1) = T - 1 := by rw [IntKind.wrap_i64]; omega
  have HT : Hid (T - 1 = (t : Int)) := by show _ = _; omega
  obtain ⟨wA, hwA⟩ : ∃ wA, wA = w.alloc (.cells #[.int .i64 op, .slice ca cn cc, .slice pa K pc] 33) := ⟨_, rfl⟩
  obtain ⟨H, hH⟩ : ∃ H, H = w.heap.size := ⟨_, rfl⟩
  have HB : Hid (Below w.heap.size w wA) := by rw [hwA]; exact (Below.refl _ w).alloc (Nat.le_refl _) _
  have hbx : wA.heap[H]? = some (.cells #[.int .i64 op, .slice ca cn cc, .slice pa K pc] 33) := by rw [hwA, hH]; exact heap_alloc_new w _
  have HS : Hid (wA.heap.size = H + 1 ∧ H = w.heap.size) := ⟨by rw [hwA, hH]; simp, hH⟩
  have HBX : Hid (wA.heap[H]? = some (.cells #[.int .i64 op, .slice ca cn cc, .slice pa K pc] 33)) := hbx
  have HFB : Hid (∀ k, (0 : Int) ≤ ((toL n.kids).take k).foldl (fun m x => max m (dpF t x)) 0 ∧ ((toL n.kids).take k).foldl (fun m x => max m (dpF t x)) 0 ≤ 99) := fun k => ⟨(fold_ge _ _ _).1, fold_le _ 99 _ _ (by omega) (fun x _ => dpF_le t x)⟩
  clear HP hin hb hop hcn hK hres hT hbx
  go_enter Try.func35, Try.ntmps35
  go_upto_region 1 with fail
  rw [← hH, ← hwA]
  clear hH hwA
  go_wp2
  go_loopw [5, 6] (fun x5 x6 wr => ∃ k : Nat, k ≤ K ∧ x6 = .int .i64 k ∧ x5 = .int .i64 (((toL n.kids).take k).foldl (fun m x => max m (dpF t x)) 0) ∧ Below wA.heap.size wA wr) (fun _ x6 _ => K - (intOf x6).toNat)
  case atStart => exact ⟨0, by omega, rfl, rfl, Below.refl _ _⟩
  case round =>
    obtain ⟨k, hk, hx6, hx5, hbl⟩ := hrel
    obtain ⟨m, hm⟩ : ∃ m, m = ((toL n.kids).take k).foldl (fun m x => max m (dpF t x)) 0 := ⟨_, rfl⟩
    rw [← hm] at hx5
    subst hx6
    subst hx5
    have hm0 : 0 ≤ m := by rw [hm]; exact (HFB.out k).1
    have hm1 : m ≤ 99 := by rw [hm]; exact (HFB.out k).2
    have HBL : Hid (Below wA.heap.size wA wr) := hbl
    have hs0 := HS.out
    have d2 : wr.cell? ⟨H, 2, none⟩ = some (.slice pa K pc) := (cell_of_row wr H 2 _ _ _ ((hbl.block H (by omega)).trans HBX.out)).trans (by simp)
    have HBW : Hid (Below w.heap.size w wr) := HB.out.trans (hbl.mono HB.out.size)
    clear hbl hs0
    by_cases hlt : k < K
    · have hkn : k < (toL n.kids).length := by rw [← HK.out]; exact hlt
      obtain ⟨b, off, xa, xc, ya, yc, d', rfl, hkid, _, c0, c1, c2⟩ := (HIN.out.later HBW.out d).kid k hkn
      obtain ⟨v, hv⟩ : ∃ v, v = dpF t (toL n.kids)[k] := ⟨_, rfl⟩
      have HC : Hid (Calls Try.prog 35 #[.agg #[.int .i64 (toL n.kids)[k].op, .slice xa (toL n.kids)[k].cl.length xc, .slice ya (toL (toL n.kids)[k].kids).length yc], .int .i64 (T - 1)] wr fun e w' => e = .returned (.int .i64 v) ∧ Below wr.heap.size wr w') := by
        rw [HT.out, hv]
        exact HPC.out d' (toL n.kids)[k] xa ya xc yc B wr hkid
      have HV : Hid (v = dpF t (toL n.kids)[k]) := hv
      obtain ⟨xo, hxo⟩ : ∃ xo, xo = (toL n.kids)[k].op := ⟨_, rfl⟩
      obtain ⟨xn, hxn⟩ : ∃ xn, xn = (toL n.kids)[k].cl.length := ⟨_, rfl⟩
      obtain ⟨xk, hxk⟩ : ∃ xk, xk = (toL (toL n.kids)[k].kids).length := ⟨_, rfl⟩
      rw [← hxo] at c0 HC
      rw [← hxn] at c1 HC
      rw [← hxk] at c2 HC
      have hmax : ∀ W : World, (Builtin.max_ #[3, 3] 3 #[.int .i64 m, .int .i64 v]).run Try.prog W = .ok (.int .i64 (max m v)) W := maxR m v
      have HNX : Hid (max m v = ((toL n.kids).take (k + 1)).foldl (fun m x => max m (dpF t x)) 0) := by
        show _ = _
        rw [List.take_add_one, List.getElem?_eq_getElem hkn, List.foldl_append, ← hm, hv]
        rfl
      clear hkid hv hxo hxn hxk hm
      go_wp2_with fail
      refine HC.out.mono ?_
      rintro e w2 ⟨rfl, hb2⟩
      have HB2 : Hid (Below wA.heap.size wA w2) := HBL.out.trans (hb2.mono HBL.out.size)
      clear hb2 c0 c1 c2 d2 HC
      go_wp2
      go_roundw
      case rel => exact ⟨k + 1, by omega, by go_num, by rw [HNX.out], HB2.out⟩
      case measure => simp [intOf]; omega
    · obtain rfl : k = K := by omega
      have hr2 : res = min 99 (m + 1) := by rw [HRES.out, hm, List.take_of_length_le (by rw [← HK.out]; exact Nat.le_refl _)]
      have hmin : ∀ W : World, (Builtin.min_ #[3, 3] 3 #[.int .i64 99, .int .i64 (m + 1)]).run Try.prog W = .ok (.int .i64 res) W := by rw [hr2]; exact minR 99 (m + 1)
      have hmw : IntKind.i64.wrap (m + 1) = m + 1 := by rw [IntKind.wrap_i64]; omega
      clear hm hr2
      go_wp2
      go_ret
      exact ⟨rfl, HBW.out⟩
theorem deep_any : (t : Nat) → t ≤ 1000 → DpC t
  | 0, _ => fun d n ca pa cc pc B w _ => deep_zero _ _ _ _ _ _ _ w
  | t + 1, ht => deep_up t (by omega) (deep_any t (by omega))

/-- What count tells, of what is no deeper than that. -/
def CtC (d : Nat) : Prop := ∀ (n : Nd) (ca pa : Option Addr) (cc pc : Nat) (B : Nat) (w : World), InV B w d n [.int .i64 n.op, .slice ca n.cl.length cc, .slice pa (toL n.kids).length pc] →
  Calls Try.prog 36 #[.agg #[.int .i64 n.op, .slice ca n.cl.length cc, .slice pa (toL n.kids).length pc]] w fun e w' => e = .returned (.int .i64 (IntKind.i64.wrap n.sz)) ∧ Below w.heap.size w w'
set_option maxHeartbeats 8000000 in
theorem count_up (d : Nat) (HP : CtC d) : CtC (d + 1) := by
  intro n ca pa cc pc B w hin
  have HPC : Hid (CtC d) := HP
  have HIN : Hid (InV B w (d + 1) n [.int .i64 n.op, .slice ca n.cl.length cc, .slice pa (toL n.kids).length pc]) := hin
  have hb := hin.bounds
  obtain ⟨op, hop⟩ : ∃ op, op = n.op := ⟨_, rfl⟩
  obtain ⟨cn, hcn⟩ : ∃ cn, cn = n.cl.length := ⟨_, rfl⟩
  obtain ⟨K, hK⟩ : ∃ K, K = (toL n.kids).length := ⟨_, rfl⟩
  obtain ⟨res, hres⟩ : ∃ res, res = IntKind.i64.wrap n.sz := ⟨_, rfl⟩
  have HRES : Hid (res = IntKind.i64.wrap (1 + (toL n.kids).foldl (fun s x => s + x.sz) 0)) := by show res = _; rw [hres, ← szF_sum]; rfl
  rw [← hop, ← hcn, ← hK, ← hres]
  have HK : Hid (K = (toL n.kids).length) := hK
  have hKi : (K : Int) ≤ 2600000000000 := by omega
  obtain ⟨wA, hwA⟩ : ∃ wA, wA = w.alloc (.cells #[.int .i64 op, .slice ca cn cc, .slice pa K pc] 33) := ⟨_, rfl⟩
  obtain ⟨H, hH⟩ : ∃ H, H = w.heap.size := ⟨_, rfl⟩
  have HB : Hid (Below w.heap.size w wA) := by rw [hwA]; exact (Below.refl _ w).alloc (Nat.le_refl _) _
  have hbx : wA.heap[H]? = some (.cells #[.int .i64 op, .slice ca cn cc, .slice pa K pc] 33) := by rw [hwA, hH]; exact heap_alloc_new w _
  have HS : Hid (wA.heap.size = H + 1 ∧ H = w.heap.size) := ⟨by rw [hwA, hH]; simp, hH⟩
  have HBX : Hid (wA.heap[H]? = some (.cells #[.int .i64 op, .slice ca cn cc, .slice pa K pc] 33)) := hbx
  clear HP hin hb hop hcn hK hres hbx
  go_enter Try.func36, Try.ntmps36
  go_upto_region 1 with fail
  rw [← hH, ← hwA]
  clear hH hwA
  go_wp2
  go_loopw [3, 4] (fun x3 x4 wr => ∃ k : Nat, k ≤ K ∧ x4 = .int .i64 k ∧ x3 = .int .i64 (IntKind.i64.wrap (1 + ((toL n.kids).take k).foldl (fun s x => s + x.sz) 0)) ∧ Below wA.heap.size wA wr) (fun _ x4 _ => K - (intOf x4).toNat)
  case atStart => exact ⟨0, by omega, rfl, by simp [IntKind.wrap_i64], Below.refl _ _⟩
  case round =>
    obtain ⟨k, hk, hx4, hx3, hbl⟩ := hrel
    obtain ⟨m, hm⟩ : ∃ m, m = IntKind.i64.wrap (1 + ((toL n.kids).take k).foldl (fun s x => s + x.sz) 0) := ⟨_, rfl⟩
    rw [← hm] at hx3
    subst hx4
    subst hx3
    have HBL : Hid (Below wA.heap.size wA wr) := hbl
    have hs0 := HS.out
    have d2 : wr.cell? ⟨H, 2, none⟩ = some (.slice pa K pc) := (cell_of_row wr H 2 _ _ _ ((hbl.block H (by omega)).trans HBX.out)).trans (by simp)
    have HBW : Hid (Below w.heap.size w wr) := HB.out.trans (hbl.mono HB.out.size)
    clear hbl hs0
    by_cases hlt : k < K
    · have hkn : k < (toL n.kids).length := by rw [← HK.out]; exact hlt
      obtain ⟨b, off, xa, xc, ya, yc, d', rfl, hkid, hd', c0, c1, c2⟩ := (HIN.out.later HBW.out (d + 1)).kid k hkn
      obtain rfl : d' = d := by omega
      obtain ⟨v, hv⟩ : ∃ v, v = IntKind.i64.wrap (toL n.kids)[k].sz := ⟨_, rfl⟩
      have HC : Hid (Calls Try.prog 36 #[.agg #[.int .i64 (toL n.kids)[k].op, .slice xa (toL n.kids)[k].cl.length xc, .slice ya (toL (toL n.kids)[k].kids).length yc]] wr fun e w' => e = .returned (.int .i64 v) ∧ Below wr.heap.size wr w') := by
        rw [hv]
        exact HPC.out (toL n.kids)[k] xa ya xc yc B wr hkid
      obtain ⟨xo, hxo⟩ : ∃ xo, xo = (toL n.kids)[k].op := ⟨_, rfl⟩
      obtain ⟨xn, hxn⟩ : ∃ xn, xn = (toL n.kids)[k].cl.length := ⟨_, rfl⟩
      obtain ⟨xk, hxk⟩ : ∃ xk, xk = (toL (toL n.kids)[k].kids).length := ⟨_, rfl⟩
      rw [← hxo] at c0 HC
      rw [← hxn] at c1 HC
      rw [← hxk] at c2 HC
      have HNX : Hid (IntKind.i64.wrap (m + v) = IntKind.i64.wrap (1 + ((toL n.kids).take (k + 1)).foldl (fun s x => s + x.sz) 0)) := by
        show _ = _
        rw [List.take_add_one, List.getElem?_eq_getElem hkn, List.foldl_append, hm, hv, wrap_add2]
        congr 1
        simp only [Option.toList_some, List.foldl_cons, List.foldl_nil]
        omega
      clear hkid hv hxo hxn hxk hm
      go_wp2_with fail
      refine HC.out.mono ?_
      rintro e w2 ⟨rfl, hb2⟩
      have HB2 : Hid (Below wA.heap.size wA w2) := HBL.out.trans (hb2.mono HBL.out.size)
      clear hb2 c0 c1 c2 d2 HC
      go_wp2
      go_roundw
      case rel => exact ⟨k + 1, by omega, by go_num, by rw [← HNX.out]; first | rfl | simp [wrap64, IntKind.wrap_i64], HB2.out⟩
      case measure => simp [intOf]; omega
    · obtain rfl : k = K := by omega
      have hr2 : m = res := by rw [HRES.out, hm, List.take_of_length_le (by rw [← HK.out]; exact Nat.le_refl _)]
      subst hr2
      clear hm
      go_wp2
      go_ret
      exact ⟨rfl, HBW.out⟩
theorem count_any : (d : Nat) → CtC d
  | 0 => fun _ _ _ _ _ _ _ h => h.elim
  | d + 1 => count_up d (count_any d)
end Go.Proofs.Ytjbhfonokgkalaa
