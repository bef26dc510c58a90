/- The walk of Compile. -/
import Derived.Test.YtclogekfdmikpaaDoorJ27
namespace Go.Proofs.YtclogekfdmikpaaDoor
open Go.RowKit Go.Shelf
set_option linter.unusedVariables false
set_option linter.unusedSimpArgs false

def xsL (l : List Rl) : List (Nd × Bool) := l.map fun r => (r.left, r.start)
def xsR (l : List Rl) : List (Nd × Bool) := l.map fun r => (r.right.rev, false)
def brkN (l : List Rl) : Nat := bitsN 0 (l.map fun r => r.brk)
def cmB (K : Int) (l : List Rl) : Bool := decide (l.length ≤ 40) && l.all (fun r => r.left.ok && r.right.ok) && alwB K (xsL l) && alwB K (xsR l)
def TabAt (w : World) (K : Nat) (l : List Rl) (tb : Nat) : Prop := ∃ la lb nxA ouA nxB ouB, w.heap[tb]? = some (.cells #[.pointer (some ⟨la, 0, none⟩), .pointer (some ⟨lb, 0, none⟩), .int .u64 (brkN l : Int), .int .i64 (l.length : Int)] 66) ∧
 MchAt w la K nxA ouA ∧ LeastOf K (xsL l) nxA ouA ∧ nxA.length ≤ 400 ∧ MchAt w lb K nxB ouB ∧ LeastOf K (xsR l) nxB ouB ∧ nxB.length ≤ 400
def CmpP (K : Int) (l : List Rl) (w : World) (e : Ending) (w' : World) : Prop := Below w.heap.size w w' ∧
 ((cmB K l = false ∧ e = .returned (.tuple #[.pointer none, .int .i64 1])) ∨ (cmB K l = true ∧ ((e = .returned (.tuple #[.pointer none, .int .i64 7]) ∧ (BigC K.toNat (xsL l) ∨ BigC K.toNat (xsR l))) ∨
  ∃ tb, e = .returned (.tuple #[.pointer (some ⟨tb, 0, none⟩), .int .i64 0]) ∧ w.heap.size ≤ tb ∧ TabAt w' K.toNat l tb ∧ ¬ BigC K.toNat (xsL l) ∧ ¬ BigC K.toNat (xsR l))))
theorem cm_bad {K : Int} {l : List Rl} {k : Nat} (hk : k < l.length) (h : l[k].left.ok = false ∨ l[k].right.ok = false) : cmB K l = false := by
 have : l.all (fun r => r.left.ok && r.right.ok) = false := by
  rw [List.all_eq_false]
  exact ⟨l[k], List.getElem_mem hk, by rcases h with h | h <;> simp [h]⟩
 unfold cmB
 rw [this]
 simp
theorem cm_good {K : Int} {l : List Rl} (h40 : l.length ≤ 40) (h : ∀ i (hi : i < l.length), l[i].left.ok = true ∧ l[i].right.ok = true) (h1 : alwB K (xsL l) = true) (h2 : alwB K (xsR l) = true) : cmB K l = true := by
 have : l.all (fun r => r.left.ok && r.right.ok) = true := by
  rw [List.all_eq_true]
  intro r hr
  obtain ⟨i, hi, rfl⟩ := List.mem_iff_getElem.1 hr
  rw [(h i hi).1, (h i hi).2]; rfl
 unfold cmB
 rw [this, h1, h2, decide_eq_true h40]
 rfl
theorem new_at4 (w : World) (A B C E : Obj) : ((((w.alloc A).alloc B).alloc C).alloc E).heap[w.heap.size]? = some A ∧ ((((w.alloc A).alloc B).alloc C).alloc E).heap[w.heap.size + 1]? = some B ∧ ((((w.alloc A).alloc B).alloc C).alloc E).heap[w.heap.size + 2]? = some C ∧ ((((w.alloc A).alloc B).alloc C).alloc E).heap[w.heap.size + 3]? = some E := by
 obtain ⟨b1, b2, b3⟩ := new_at3 w A B C
 have hs : (((w.alloc A).alloc B).alloc C).heap.size = w.heap.size + 3 := by simp
 have hb : Below (w.heap.size + 3) (((w.alloc A).alloc B).alloc C) ((((w.alloc A).alloc B).alloc C).alloc E) := (Below.refl _ _).alloc (by omega) _
 refine ⟨(hb.block _ (by omega)).trans b1, (hb.block _ (by omega)).trans b2, (hb.block _ (by omega)).trans b3, ?_⟩
 rw [← hs]
 exact heap_alloc_new _ _
theorem ArX.zero {V : World} {B : Nat} (h : V.heap[B]? = some (.cells Tryd.zeroCells62 62)) : ArX V B [] :=
 ⟨_, h, zeros123, fun k us h => by simp at h, fun q hq => ⟨_, Array.getElem?_eq_getElem (by rw [zeros123]; exact hq)⟩⟩
theorem brkN_bit (l : List Rl) (p : Nat) : (brkN l).testBit p = ((l[p]?.map fun r => r.brk).getD false) := by
 have h := bitsN_bit (l.map fun r => r.brk) 0 p
 rw [Bool.eq_iff_iff]
 refine h.trans ?_
 simp only [Nat.zero_add, exists_eq_left', List.getElem?_map]
 cases l[p]? <;> simp
theorem brkN_snoc (l : List Rl) (k : Nat) (hk : k < l.length) : brkN (l.take (k + 1)) = brkN (l.take k) ||| (if l[k].brk = true then 2 ^ k else 0) := by
 refine Nat.eq_of_testBit_eq fun p => ?_
 rw [Nat.testBit_or, brkN_bit, brkN_bit]
 have h3 : (if l[k].brk = true then 2 ^ k else 0).testBit p = (l[k].brk && decide (k = p)) := by
  cases hb : l[k].brk <;> simp [Nat.testBit_two_pow]
 rw [h3]
 simp only [List.getElem?_take]
 rcases Nat.lt_trichotomy p k with h | h | h
 ·rw [if_pos (by omega), if_pos h, decide_eq_false (by omega)]; simp
 ·subst h
  rw [if_pos (by omega), if_neg (by omega), List.getElem?_eq_getElem hk]; simp
 ·rw [if_neg (by omega), if_neg (by omega), decide_eq_false (by omega)]; simp
theorem brkN_lt (l : List Rl) (h : l.length ≤ 40) : brkN l < 2 ^ 40 := by
 refine Nat.lt_pow_two_of_testBit _ fun p hp => ?_
 cases hb : (brkN l).testBit p with
 | false => rfl
 | true =>
   obtain ⟨j, rfl, hj⟩ := (bitsN_bit _ 0 p).1 hb
   have := (List.getElem?_eq_some_iff.1 hj).1
   simp at this
   omega
set_option maxRecDepth 100000 in
set_option maxHeartbeats 8000000 in
theorem compile_any (D K : Nat) (l : List Rl) (ca ra : Option Addr) (cc rc : Nat) (w : World) (hT : TabD w) (hr : RowR w D ra l.length l) (hl : l.length ≤ 140737488355328) :
 Calls Tryd.prog 11 #[.agg #[.slice ca K cc, .slice ra l.length rc]] w (CmpP K l w) := by
 obtain ⟨RN, hRN⟩ : ∃ RN, RN = l.length := ⟨_, rfl⟩
 have HRN : Hid (RN = l.length) := hRN
 have HR : Hid (RowR w D ra l.length l) := hr
 have HT : Hid (TabD w) := hT
 have hRi : (RN : Int) ≤ 140737488355328 := by omega
 rw [← hRN]
 obtain ⟨H, hH⟩ : ∃ H, H = w.heap.size := ⟨_, rfl⟩
 have HH : Hid (H = w.heap.size) := hH
 obtain ⟨W0, hW0⟩ : ∃ W0, W0 = (((w.alloc (.cells #[.slice ca K cc, .slice ra RN rc] 25)).alloc (.cells Tryd.zeroCells62 62)).alloc (.cells Tryd.zeroCells62 62)).alloc (.cells #[.pointer none, .pointer none, .int .u64 0, .int .i64 (RN : Int)] 66) := ⟨_, rfl⟩
 clear hr hT hl hRN
 go_enter Tryd.func11, Tryd.ntmps11
 go_wp2_with fail
 refine wp_scope_fwd (by rfl) (by rfl) fun R0 R1 HR0 HR1 => ?_
 go_upto_region 4 with fail
 simp only [World.size_alloc, ← hH, show H + 1 + 1 = H + 2 from rfl, show H + 2 + 1 = H + 3 from rfl]
 rw [← hW0]
 have HC0 : Hid (CmS w D l #[.slice ca K cc, .slice ra RN rc] 0 0 (brkN (l.take 0) : Int) W0) := by
  have b1 : Below w.heap.size w W0 := by rw [hW0]; exact ((((Below.refl _ w).alloc (Nat.le_refl _) _).alloc (by simp) _).alloc (by simp; omega) _).alloc (by simp; omega) _
  refine ⟨b1, by rw [hW0]; simp, ?_, ?_, ⟨[], rfl, ?_, fun i hi h => by omega⟩, [], rfl, ?_, fun i hi h => by omega⟩
  ·rw [hW0]; exact (new_at4 w _ _ _ _).1
  ·rw [← HRN.out, hW0]; exact (new_at4 w _ _ _ _).2.2.2
  ·exact ArX.zero (by rw [hW0]; exact (new_at4 w _ _ _ _).2.1)
  ·exact ArX.zero (by rw [hW0]; exact (new_at4 w _ _ _ _).2.2.1)
 have HTC : Hid (∀ V : World, Below w.heap.size w V → TabD V) := fun V hV => HT.out.later hV
 clear hH hW0
 obtain ⟨⟨c0, c1, c2, c3⟩, f0, f1, f2⟩ := HC0.out.tab
 rw [← HH.out] at c0 c1 c2 c3 f0 f1 f2
 rw [← HRN.out] at c3
 by_cases h40 : 40 < RN
 ·have h40i : (40 : Int) < (RN : Int) := by omega
  go_wp2_with fail
  go_step3
  go_simp
  refine HR0.out _ _ ?_
  go_wp2_with fail
  go_ret2
  exact ⟨HC0.out.1, .inl ⟨by unfold cmB; rw [decide_eq_false (by rw [← HRN.out]; omega)]; rfl, rfl⟩⟩
 have h40i : ¬ (40 : Int) < (RN : Int) := by omega
 go_wp2_with fail
 clear c0 c1 c2 c3 f0 f1 f2
 go_loopw [25] (fun x25 wr => ∃ k : Nat, k ≤ RN ∧ x25 = .int .i64 (k : Int) ∧ (∀ i (hi : i < l.length), i < k → l[i].left.ok = true ∧ l[i].right.ok = true) ∧ CmS w D l #[.slice ca K cc, .slice ra RN rc] k k (brkN (l.take k) : Int) wr) (fun x25 _ => RN - (intOf x25).toNat)
 case atStart => exact ⟨0, by omega, rfl, fun i hi h => by omega, HC0.out⟩
 case round =>
  obtain ⟨k, hk, hx25, hok, hcs⟩ := hrel
  subst hx25
  have HOK : Hid (∀ i (hi : i < l.length), i < k → l[i].left.ok = true ∧ l[i].right.ok = true) := hok
  have HCS : Hid (CmS w D l #[.slice ca K cc, .slice ra RN rc] k k (brkN (l.take k) : Int) wr) := hcs
  clear hok hcs
  by_cases hlt : k < RN
  ·have hkl : k < l.length := by rw [← HRN.out]; exact hlt
   have hki : (k : Int) < (RN : Int) := by omega
   obtain ⟨b, off, q, rfl, hr0, t0, t1, t2, t3, t4, t5, t6, t7⟩ := HR.out.cells k hkl
   replace t0 := upC HCS.out.1 t0
   replace t1 := upC HCS.out.1 t1
   replace t2 := upC HCS.out.1 t2
   replace t3 := upC HCS.out.1 t3
   replace t4 := upC HCS.out.1 t4
   replace t5 := upC HCS.out.1 t5
   replace t6 := upC HCS.out.1 t6
   replace t7 := upC HCS.out.1 t7
   have hr := hr0.later HCS.out.1
   have d0 : wr.cell? ⟨H, 1, none⟩ = some (.slice (some ⟨b, off, none⟩) RN rc) := by rw [HH.out]; exact cell_of_row _ _ 1 _ _ _ HCS.out.2.2.1
   obtain ⟨la, lc, lp, lpc, ra, rcc, rp, rpc⟩ := q
   obtain ⟨r, hrr⟩ : ∃ r, r = l[k] := ⟨_, rfl⟩
   have HRR : Hid (r = l[k]) := hrr
   rw [← hrr] at hr hr0 t0 t1 t2 t3 t4 t5 t6 t7
   clear hrr
   obtain ⟨lo, hlo⟩ : ∃ lo, lo = r.left.op := ⟨_, rfl⟩
   obtain ⟨ln, hln⟩ : ∃ ln, ln = r.left.cl.length := ⟨_, rfl⟩
   obtain ⟨lk, hlk⟩ : ∃ lk, lk = (toL r.left.kids).length := ⟨_, rfl⟩
   obtain ⟨ro, hro⟩ : ∃ ro, ro = r.right.op := ⟨_, rfl⟩
   obtain ⟨rn, hrn⟩ : ∃ rn, rn = r.right.cl.length := ⟨_, rfl⟩
   obtain ⟨rk, hrk⟩ : ∃ rk, rk = (toL r.right.kids).length := ⟨_, rfl⟩
   obtain ⟨st, hst⟩ : ∃ st, st = r.start := ⟨_, rfl⟩
   obtain ⟨br, hbr⟩ : ∃ br, br = r.brk := ⟨_, rfl⟩
   obtain ⟨okL, hokL⟩ : ∃ okL, okL = r.left.ok := ⟨_, rfl⟩
   obtain ⟨okR, hokR⟩ : ∃ okR, okR = r.right.ok := ⟨_, rfl⟩
   simp only [← hlo, ← hln, ← hlk, ← hro, ← hrn, ← hrk, ← hst, ← hbr] at t0 t1 t2 t3 t4 t5 t6 t7
   have HRA : Hid (RlAt wr D r ⟨la, lc, lp, lpc, ra, rcc, rp, rpc⟩) := hr
   have HIN : Hid (InV w.heap.size w D r.left [.int .i64 lo, .slice la ln lc, .slice lp lk lpc]) := by rw [hlo, hln, hlk]; exact hr0.1
   have HRV : Hid (r.right.ok = true → ∀ V : World, Below w.heap.size w V → Calls Tryd.prog 24 #[.agg #[.int .i64 ro, .slice ra rn rcc, .slice rp rk rpc]] V (TuPost 32 r.right V)) := fun ho V hV => by
    rw [hro, hrn, hrk]; exact rev_any D r.right ra rp rcc rpc V ((hr0.2.later hV D).base hV.size D) ho
   have HQ : Hid (okL = l[k].left.ok ∧ okR = l[k].right.ok ∧ st = l[k].start ∧ br = l[k].brk) := ⟨by rw [hokL, HRR.out], by rw [hokR, HRR.out], by rw [hst, HRR.out], by rw [hbr, HRR.out]⟩
   have HCL : Hid (∀ V : World, Below wr.heap.size wr V → Calls Tryd.prog 23 #[.agg #[.int .i64 lo, .slice la ln lc, .slice lp lk lpc]] V fun e w' => e = .returned (.bool okL) ∧ Below V.heap.size V w') := fun V hV => by
    rw [hlo, hln, hlk, hokL]; exact right_any D r.left la lp lc lpc V (HRA.out.later hV).1
   have HCR : Hid (∀ V : World, Below wr.heap.size wr V → Calls Tryd.prog 23 #[.agg #[.int .i64 ro, .slice ra rn rcc, .slice rp rk rpc]] V fun e w' => e = .returned (.bool okR) ∧ Below V.heap.size V w') := fun V hV => by
    rw [hro, hrn, hrk, hokR]; exact right_any D r.right ra rp rcc rpc V (HRA.out.later hV).2
   clear hr hr0 hlo hln hlk hro hrn hrk hst hbr hokL hokR
   obtain ⟨S, hS⟩ : ∃ S, S = wr.heap.size := ⟨_, rfl⟩
   obtain ⟨W1, hW1⟩ : ∃ W1, W1 = wr.alloc (.cells #[.int .i64 lo, .slice la ln lc, .slice lp lk lpc, .int .i64 ro, .slice ra rn rcc, .slice rp rk rpc, .bool br, .bool st] 58) := ⟨_, rfl⟩
   have HB1 : Hid (Below wr.heap.size wr W1) := by rw [hW1]; exact (Below.refl _ wr).alloc (Nat.le_refl _) _
   have HX1 : Hid (W1.heap[S]? = some (.cells #[.int .i64 lo, .slice la ln lc, .slice lp lk lpc, .int .i64 ro, .slice ra rn rcc, .slice rp rk rpc, .bool br, .bool st] 58)) := by show _ = _; rw [hS, hW1]; exact heap_alloc_new wr _
   have HS : Hid (S = wr.heap.size) := hS
   go_upto_region 9 with fail
   rw [← hS, ← hW1]
   clear hS hW1 t0 t1 t2 t3 t4 t5 t6 t7 d0
   obtain ⟨t0, t1, t2, t3, t4, t5, t6, t7⟩ := box8 HX1.out
   go_wp2_with fail
   refine (HCL.out W1 HB1.out).mono ?_
   rintro e W2 ⟨rfl, hb2⟩
   have HB2 : Hid (Below wr.heap.size wr W2) := HB1.out.trans (hb2.mono HB1.out.size)
   have HX2 : Hid (W2.heap[S]? = some (.cells #[.int .i64 lo, .slice la ln lc, .slice lp lk lpc, .int .i64 ro, .slice ra rn rcc, .slice rp rk rpc, .bool br, .bool st] 58)) := (hb2.block S (Array.getElem?_eq_some_iff.1 HX1.out).1).trans HX1.out
   clear hb2 t0 t1 t2 t3 t4 t5 t6 t7 HX1 HB1
   obtain ⟨t0, t1, t2, t3, t4, t5, t6, t7⟩ := box8 HX2.out
   cases okL with
   | false =>
     go_wp2_with fail
     go_step3
     go_simp
     refine HR0.out _ _ ?_
     go_wp2_with fail
     go_ret2
     refine ⟨(HCS.out.later HB2.out).1, .inl ⟨?_, rfl⟩⟩
     exact cm_bad hkl (.inl HQ.out.1.symm)
   | true =>
     go_wp2_with fail
     refine (HCR.out W2 HB2.out).mono ?_
     rintro e W3 ⟨rfl, hb3⟩
     have HB3 : Hid (Below wr.heap.size wr W3) := HB2.out.trans (hb3.mono HB2.out.size)
     have HX3 : Hid (W3.heap[S]? = some (.cells #[.int .i64 lo, .slice la ln lc, .slice lp lk lpc, .int .i64 ro, .slice ra rn rcc, .slice rp rk rpc, .bool br, .bool st] 58)) := (hb3.block S (Array.getElem?_eq_some_iff.1 HX2.out).1).trans HX2.out
     clear hb3 t0 t1 t2 t3 t4 t5 t6 t7 HX2 HB2
     cases okR with
     | false =>
       go_wp2_with fail
       go_step3
       go_simp
       refine HR0.out _ _ ?_
       go_wp2_with fail
       go_ret2
       refine ⟨(HCS.out.later HB3.out).1, .inl ⟨?_, rfl⟩⟩
       exact cm_bad hkl (.inr HQ.out.2.1.symm)
     | true =>
       obtain ⟨t0, t1, t2, t3, t4, t5, t6, t7⟩ := box8 HX3.out
       have HC3 : Hid (CmS w D l #[.slice ca K cc, .slice (some ⟨b, off, none⟩) RN rc] k k (brkN (l.take k) : Int) W3) := HCS.out.later HB3.out
       obtain ⟨⟨z0, y0⟩, x0⟩ := HC3.out.arL (q := k * 4) (by omega)
       obtain ⟨⟨z1, y1⟩, x1⟩ := HC3.out.arL (q := k * 4 + 1) (by omega)
       obtain ⟨⟨z2, y2⟩, x2⟩ := HC3.out.arL (q := k * 4 + 2) (by omega)
       obtain ⟨⟨z3, y3⟩, x3⟩ := HC3.out.arL (q := k * 4 + 3) (by omega)
       rw [← HH.out] at x0 x1 x2 x3 y0 y1 y2 y3
       obtain ⟨W4, hW4⟩ : ∃ W4, W4 = F4 W3 (H + 1) (k * 4) (.int .i64 lo) (.slice la ln lc) (.slice lp lk lpc) (.bool st) := ⟨_, rfl⟩
       have HC4 : Hid (CmS w D l #[.slice ca K cc, .slice (some ⟨b, off, none⟩) RN rc] (k + 1) k (brkN (l.take k) : Int) W4) := by
        rw [hW4, HH.out]
        exact HC3.out.putL hkl (by omega) HQ.out.2.2.1 (by rw [← HRR.out]; exact HIN.out)
       have HX4 : Hid (W4.heap[S]? = some (.cells #[.int .i64 lo, .slice la ln lc, .slice lp lk lpc, .int .i64 ro, .slice ra rn rcc, .slice rp rk rpc, .bool br, .bool st] 58)) := by
        refine Eq.trans ?_ HX3.out
        rw [hW4]
        exact (f4_grown W3 (H + 1) (k * 4) _ _ _ _).block S (Array.getElem?_eq_some_iff.1 HX3.out).1 (fun e => by have h1 := HCS.out.2.1; have h2 := HS.out; have h3 := HH.out; simp at e; omega)
       have HS4 : Hid (H + 4 ≤ S) := by have h1 := HCS.out.2.1; have h2 := HS.out; have h3 := HH.out; show _ ≤ _; omega
       unfold F4 at hW4
       go_upto_region 11 with fail
       rw [← hW4]
       clear hW4 t0 t1 t2 t3 t4 t5 t6 t7 x0 x1 x2 x3 y0 y1 y2 y3 HC3 HX3 HB3
       obtain ⟨t0, t1, t2, t3, t4, t5, t6, t7⟩ := box8 HX4.out
       go_wp2_with fail
       refine (HRV.out (by rw [HRR.out]; exact HQ.out.2.1.symm) W4 HC4.out.1).mono ?_
       rintro e W5 ⟨⟨yo, ya, yn, yc, yp, yk, yd⟩, rfl, hnw, hb5⟩
       have HC5 : Hid (CmS w D l #[.slice ca K cc, .slice (some ⟨b, off, none⟩) RN rc] (k + 1) k (brkN (l.take k) : Int) W5) := HC4.out.later hb5
       have HX5 : Hid (W5.heap[S]? = some (.cells #[.int .i64 lo, .slice la ln lc, .slice lp lk lpc, .int .i64 ro, .slice ra rn rcc, .slice rp rk rpc, .bool br, .bool st] 58)) := (hb5.block S (Array.getElem?_eq_some_iff.1 HX4.out).1).trans HX4.out
       have HNW : Hid (NwV (w.heap.size + 4) W5 32 l[k].right.rev [.int .i64 yo, .slice ya yn yc, .slice yp yk yd]) := by
        have := hnw.mono HC4.out.2.1 32
        rw [HRR.out] at this
        exact this
       clear hnw hb5 t0 t1 t2 t3 t4 t5 t6 t7 HC4 HX4
       obtain ⟨⟨z0, y0⟩, x0⟩ := HC5.out.arR (q := k * 4) (by omega)
       obtain ⟨⟨z1, y1⟩, x1⟩ := HC5.out.arR (q := k * 4 + 1) (by omega)
       obtain ⟨⟨z2, y2⟩, x2⟩ := HC5.out.arR (q := k * 4 + 2) (by omega)
       obtain ⟨⟨z3, y3⟩, x3⟩ := HC5.out.arR (q := k * 4 + 3) (by omega)
       rw [← HH.out] at x0 x1 x2 x3 y0 y1 y2 y3
       obtain ⟨W6, hW6⟩ : ∃ W6, W6 = F4 W5 (H + 2) (k * 4) (.int .i64 yo) (.slice ya yn yc) (.slice yp yk yd) (.bool false) := ⟨_, rfl⟩
       have HC6 : Hid (CmS w D l #[.slice ca K cc, .slice (some ⟨b, off, none⟩) RN rc] (k + 1) (k + 1) (brkN (l.take k) : Int) W6) := by
        rw [hW6, HH.out]
        exact HC5.out.putR hkl (by omega) HNW.out
       have HX6 : Hid (W6.heap[S]? = some (.cells #[.int .i64 lo, .slice la ln lc, .slice lp lk lpc, .int .i64 ro, .slice ra rn rcc, .slice rp rk rpc, .bool br, .bool st] 58)) := by
        refine Eq.trans ?_ HX5.out
        rw [hW6]
        exact (f4_grown W5 (H + 2) (k * 4) _ _ _ _).block S (Array.getElem?_eq_some_iff.1 HX5.out).1 (fun e => by have h1 := HS4.out; simp at e; omega)
       unfold F4 at hW6
       go_upto_region 12 with fail
       rw [← hW6]
       clear hW6 x0 x1 x2 x3 y0 y1 y2 y3 HC5 HX5 HNW
       obtain ⟨t0, t1, t2, t3, t4, t5, t6, t7⟩ := box8 HX6.out
       have HOK2 : Hid (∀ i (hi : i < l.length), i < k + 1 → l[i].left.ok = true ∧ l[i].right.ok = true) := fun i hi hik => by
        rcases Nat.lt_or_ge i k with h | h
        ·exact HOK.out i hi h
        ·obtain rfl : i = k := by omega
         exact ⟨HQ.out.1.symm, HQ.out.2.1.symm⟩
       cases br with
       | false =>
         have HBR : Hid (brkN (l.take k) = brkN (l.take (k + 1))) := by show _ = _; rw [brkN_snoc l k hkl, ← HQ.out.2.2.2]; simp
         go_wp2_with fail
         go_roundw
         case rel => exact ⟨k + 1, by omega, by go_num, HOK2.out, by rw [← HBR.out]; exact HC6.out⟩
         case measure => simp [intOf]; omega
       | true =>
         have HBR : Hid (brkN (l.take k) ||| 2 ^ k = brkN (l.take (k + 1))) := by show _ = _; rw [brkN_snoc l k hkl, ← HQ.out.2.2.2]; simp
         obtain ⟨⟨c0, c1, c2, c3⟩, f0, f1, f2⟩ := HC6.out.tab
         rw [← HH.out] at c0 c1 c2 c3 f0 f1 f2
         have hk63 : (k : Int) < 64 := by omega
         have HV : Hid (bits .or .u64 (brkN (l.take k) : Int) (IntKind.u64.wrap (2 ^ k)) = ((brkN (l.take (k + 1)) : Nat) : Int)) := by
          have hp : (2 : Nat) ^ k ≤ 2 ^ 40 := Nat.pow_le_pow_right (by decide) (by omega)
          have hwr : IntKind.u64.wrap ((2 : Int) ^ k) = ((2 ^ k : Nat) : Int) := by
           rw [show ((2 : Int) ^ k) = ((2 ^ k : Nat) : Int) by simp]
           generalize 2 ^ k = x at hp
           rw [IntKind.wrap_u64]
           omega
          show _ = _
          rw [hwr, u64_or_nat _ _ (Nat.lt_of_lt_of_le (brkN_lt (l.take k) (by simp; omega)) (by decide)) (by omega), HBR.out]
         have HC7 : Hid (CmS w D l #[.slice ca K cc, .slice (some ⟨b, off, none⟩) RN rc] (k + 1) (k + 1) (brkN (l.take (k + 1)) : Int) ((W6.setCell ⟨H + 3, 2, none⟩ (.int .u64 (bits .or .u64 (brkN (l.take k) : Int) (IntKind.u64.wrap (2 ^ k))))).drew)) := by
          rw [HV.out, HH.out]
          exact (HC6.out.putB _).later (Below.refl _ _).drew
         go_upto_region 13 with fail
         go_region
         go_wp2_with fail
         go_roundw
         case rel => exact ⟨k + 1, by omega, by go_num, HOK2.out, HC7.out⟩
         case measure => simp [intOf]; omega
  ·have hkR : RN = k := by omega
   subst hkR
   have h40n : RN ≤ 40 := by omega
   have h40j : (RN : Int) ≤ 40 := by omega
   have HCE : Hid (CmT w D l #[.slice ca K cc, .slice ra RN rc] l.length l.length (brkN l : Int) none none wr) := by
    have h1 := HCS.out
    rw [show l.take RN = l by rw [HRN.out, List.take_length]] at h1
    show CmT _ _ _ _ _ _ _ _ _ _
    rw [← HRN.out]
    exact h1
   have HBL : Hid (∀ V : World, CmT w D l #[.slice ca K cc, .slice ra RN rc] l.length l.length (brkN l : Int) none none V → Calls Tryd.prog 25 #[.int .i64 K, .slice (some ⟨H + 1, 0, none⟩) RN 40] V fun e V' => Below V.heap.size V V' ∧ ∃ p x, e = .returned (.tuple #[.pointer p, .int .i64 x]) ∧ BldO K (xsL l) p x V') := fun V hV => by
    have h := build_any D K (xsL l) (some ⟨w.heap.size + 1, 0, none⟩) 40 V (HTC.out V hV.1) hV.lefts (by simp [xsL]; have := HRN.out; omega)
    rw [show (xsL l).length = RN by simp [xsL, HRN.out], ← HH.out] at h
    exact h.mono fun e V' hp => bld_out hp
   have HBR : Hid (∀ (V : World) (pA : Option Addr), CmT w D l #[.slice ca K cc, .slice ra RN rc] l.length l.length (brkN l : Int) pA none V → Calls Tryd.prog 25 #[.int .i64 K, .slice (some ⟨H + 2, 0, none⟩) RN 40] V fun e V' => Below V.heap.size V V' ∧ ∃ p x, e = .returned (.tuple #[.pointer p, .int .i64 x]) ∧ BldO K (xsR l) p x V') := fun V pA hV => by
    have h := build_any 32 K (xsR l) (some ⟨w.heap.size + 2, 0, none⟩) 40 V (HTC.out V hV.1) hV.rights (by simp [xsR]; have := HRN.out; omega)
    rw [show (xsR l).length = RN by simp [xsR, HRN.out], ← HH.out] at h
    exact h.mono fun e V' hp => bld_out hp
   have HCC : Hid (∀ (V : World) (pA pB : Option Addr), CmT w D l #[.slice ca K cc, .slice ra RN rc] l.length l.length (brkN l : Int) pA pB V → V.cell? ⟨H, 0, none⟩ = some (.slice ca K cc) ∧ V.cell? ⟨H + 3, 0, none⟩ = some (.pointer pA) ∧ V.cell? ⟨H + 3, 1, none⟩ = some (.pointer pB) ∧ V.cell? ⟨H + 3, 3, none⟩ = some (.int .i64 (RN : Int)) ∧ V.frozen? ⟨H + 3, 0, none⟩ = false ∧ V.frozen? ⟨H + 3, 1, none⟩ = false) := fun V pA pB hV => by
    rw [HH.out, HRN.out]; exact hV.cells
   go_upto_region 15 with fail
   go_cut [6] from 68 to 82 (fun x6 wx => ∃ p x, x6 = .int .i64 x ∧ CmT w D l #[.slice ca K cc, .slice ra RN rc] l.length l.length (brkN l : Int) p none wx ∧ BldO K (xsL l) p x wx)
   case first =>
    refine wp_region_noPanic ?_
    refine wp_region_held_drew (S := (fun w' => w'.cell? ⟨H, 0, none⟩ = some (.slice ca K cc) ∧ w'.cell? ⟨H + 3, 3, none⟩ = some (.int .i64 (RN : Int)))) (by kernel_rfl) (by have h := HCC.out _ _ _ (HCE.out.later (Below.refl _ wr).drew); exact ⟨h.1, h.2.2.2.1⟩) (fun hHeld => ?_)
    refine wpAnyH_take (i := 0) (v := ?_) rfl (by kernel_rfl) (by kernel_rfl) (by kernel_rfl) (fun _ _ _ h => h) (Or.inl ⟨by rfl, ?_⟩) (by assumption) ?_
    rotate_left
    ·intro w hSw; obtain ⟨s0, s1⟩ := hSw; go_simp; try with_reducible rfl
    try simp only [Act.put, List.getElem_toArray, List.getElem_cons_succ, List.getElem_cons_zero, List.setIfInBounds_toArray, List.set_cons_zero, List.set_cons_succ]
    refine wpAnyH_take (i := 1) (v := ?_) rfl (by kernel_rfl) (by kernel_rfl) (by kernel_rfl) (fun _ _ _ h => h) (Or.inl ⟨by rfl, ?_⟩) (by assumption) ?_
    rotate_left
    ·intro w hSw; obtain ⟨s0, s1⟩ := hSw; go_simp; try with_reducible rfl
    try simp only [Act.put, List.getElem_toArray, List.getElem_cons_succ, List.getElem_cons_zero, List.setIfInBounds_toArray, List.set_cons_zero, List.set_cons_succ]
    refine wpAnyH_take (i := 2) (v := ?_) rfl (by kernel_rfl) (by kernel_rfl) (by kernel_rfl) (fun _ _ _ h => h) (Or.inl ⟨by rfl, ?_⟩) (by assumption) ?_
    rotate_left
    ·intro w hSw; obtain ⟨s0, s1⟩ := hSw; go_simp; try with_reducible rfl
    try simp only [Act.put, List.getElem_toArray, List.getElem_cons_succ, List.getElem_cons_zero, List.setIfInBounds_toArray, List.set_cons_zero, List.set_cons_succ]
    refine wpAnyH_take (i := 3) (v := ?_) rfl (by kernel_rfl) (by kernel_rfl) (by kernel_rfl) (fun _ _ _ h => h) (Or.inl ⟨by rfl, ?_⟩) (by assumption) ?_
    rotate_left
    ·intro w hSw; obtain ⟨s0, s1⟩ := hSw; go_simp; try with_reducible rfl
    try simp only [Act.put, List.getElem_toArray, List.getElem_cons_succ, List.getElem_cons_zero, List.setIfInBounds_toArray, List.set_cons_zero, List.set_cons_succ]
    refine wpAnyH_take (i := 4) (v := ?_) rfl (by kernel_rfl) (by kernel_rfl) (by kernel_rfl) (fun _ _ _ h => h) (Or.inl ⟨by rfl, ?_⟩) (by assumption) ?_
    rotate_left
    ·intro w hSw; obtain ⟨s0, s1⟩ := hSw; go_simp; try with_reducible rfl
    try simp only [Act.put, List.getElem_toArray, List.getElem_cons_succ, List.getElem_cons_zero, List.setIfInBounds_toArray, List.set_cons_zero, List.set_cons_succ]
    refine wpAnyH_take (i := 5) (v := ?_) rfl (by kernel_rfl) (by kernel_rfl) (by kernel_rfl) (fun _ _ _ h => h) (Or.inl ⟨by rfl, ?_⟩) (by assumption) ?_
    rotate_left
    ·intro w hSw; obtain ⟨s0, s1⟩ := hSw; go_simp; try with_reducible rfl
    try simp only [Act.put, List.getElem_toArray, List.getElem_cons_succ, List.getElem_cons_zero, List.setIfInBounds_toArray, List.set_cons_zero, List.set_cons_succ]
    refine wpAnyH_take (i := 6) (v := ?_) rfl (by kernel_rfl) (by kernel_rfl) (by kernel_rfl) (fun _ _ _ h => h) (Or.inl ⟨by rfl, ?_⟩) (by assumption) ?_
    rotate_left
    ·intro w hSw; obtain ⟨s0, s1⟩ := hSw; go_simp; try with_reducible rfl
    try simp only [Act.put, List.getElem_toArray, List.getElem_cons_succ, List.getElem_cons_zero, List.setIfInBounds_toArray, List.set_cons_zero, List.set_cons_succ]
    refine wpAnyH_take (i := 7) (v := ?_) rfl (by kernel_rfl) (by kernel_rfl) (by kernel_rfl) (fun _ _ _ h => h) (Or.inl ⟨by rfl, ?_⟩) (by assumption) ?_
    rotate_left
    ·intro w hSw; obtain ⟨s0, s1⟩ := hSw; go_simp; try with_reducible rfl
    try simp only [Act.put, List.getElem_toArray, List.getElem_cons_succ, List.getElem_cons_zero, List.setIfInBounds_toArray, List.set_cons_zero, List.set_cons_succ]
    refine wpAnyH_take (i := 8) (v := ?_) rfl (by kernel_rfl) (by kernel_rfl) (by kernel_rfl) (fun _ _ _ h => h) (Or.inl ⟨by rfl, ?_⟩) (by assumption) ?_
    rotate_left
    ·intro w hSw; obtain ⟨s0, s1⟩ := hSw; go_simp; try with_reducible rfl
    try simp only [Act.put, List.getElem_toArray, List.getElem_cons_succ, List.getElem_cons_zero, List.setIfInBounds_toArray, List.set_cons_zero, List.set_cons_succ]
    refine wpAnyH_ready (rs := [9]) (by kernel_rfl) (by simp) ?_
    refine AllReadyH.cons rfl (fun KK hK => ?_) AllReadyH.nil
    go_simp
    refine (HBL.out _ (HCE.out.later (Below.refl _ wr).drew)).mono ?_
    rintro e W8 ⟨hb, p, x, rfl, hbo⟩
    have HC8 : Hid (CmT w D l #[.slice ca K cc, .slice ra RN rc] l.length l.length (brkN l : Int) none none W8) := (HCE.out.later (Below.refl _ wr).drew).later hb
    have HO8 : Hid (BldO K (xsL l) p x W8) := hbo
    have HSV : Hid (W8.cell? ⟨H, 0, none⟩ = some (.slice ca K cc) ∧ W8.cell? ⟨H + 3, 3, none⟩ = some (.int .i64 (RN : Int))) := by have h := HCC.out _ _ _ HC8.out; exact ⟨h.1, h.2.2.2.1⟩
    clear hb hbo
    go_simp
    refine hK.out _ _ HSV.out (fun hHeld => ?_)
    clear hK KK
    try simp only [Act.put, List.getElem_toArray, List.getElem_cons_succ, List.getElem_cons_zero, List.setIfInBounds_toArray, List.set_cons_zero, List.set_cons_succ]
    refine wpAnyH_take (i := 10) (v := ?_) rfl (by kernel_rfl) (by kernel_rfl) (by kernel_rfl) (fun _ _ _ h => h) (Or.inl ⟨by rfl, ?_⟩) (by assumption) ?_
    rotate_left
    ·intro w hSw; obtain ⟨s0, s1⟩ := hSw; go_simp; try with_reducible rfl
    try simp only [Act.put, List.getElem_toArray, List.getElem_cons_succ, List.getElem_cons_zero, List.setIfInBounds_toArray, List.set_cons_zero, List.set_cons_succ]
    refine wpAnyH_take (i := 11) (v := ?_) rfl (by kernel_rfl) (by kernel_rfl) (by kernel_rfl) (fun _ _ _ h => h) (Or.inl ⟨by rfl, ?_⟩) (by assumption) ?_
    rotate_left
    ·intro w hSw; obtain ⟨s0, s1⟩ := hSw; go_simp; try with_reducible rfl
    try simp only [Act.put, List.getElem_toArray, List.getElem_cons_succ, List.getElem_cons_zero, List.setIfInBounds_toArray, List.set_cons_zero, List.set_cons_succ]
    refine wpAnyH_take (i := 12) (v := ?_) rfl (by kernel_rfl) (by kernel_rfl) (by kernel_rfl) (fun _ _ _ h => h) (Or.inl ⟨by rfl, ?_⟩) (by assumption) ?_
    rotate_left
    ·intro w hSw; obtain ⟨s0, s1⟩ := hSw; go_simp; try with_reducible rfl
    try simp only [Act.put, List.getElem_toArray, List.getElem_cons_succ, List.getElem_cons_zero, List.setIfInBounds_toArray, List.set_cons_zero, List.set_cons_succ]
    refine wpAnyH_take (i := 13) (v := ?_) rfl (by kernel_rfl) (by kernel_rfl) (by kernel_rfl) (fun _ _ _ h => h) (Or.inl ⟨by rfl, ?_⟩) (by assumption) ?_
    rotate_left
    ·intro w hSw; obtain ⟨s0, s1⟩ := hSw; go_simp; try with_reducible rfl
    try simp only [Act.put, List.getElem_toArray, List.getElem_cons_succ, List.getElem_cons_zero, List.setIfInBounds_toArray, List.set_cons_zero, List.set_cons_succ]
    refine wpAnyH_take (i := 14) (v := ?_) rfl (by kernel_rfl) (by kernel_rfl) (by kernel_rfl) (fun _ _ _ h => h) (Or.inl ⟨by rfl, ?_⟩) (by assumption) ?_
    rotate_left
    ·intro w hSw; obtain ⟨s0, s1⟩ := hSw; go_simp; try with_reducible rfl
    try simp only [Act.put, List.getElem_toArray, List.getElem_cons_succ, List.getElem_cons_zero, List.setIfInBounds_toArray, List.set_cons_zero, List.set_cons_succ]
    refine wpAnyH_ready (rs := [15]) (by kernel_rfl) (by simp) ?_
    refine AllReadyH.cons rfl (fun KK hK => ?_) AllReadyH.nil
    obtain ⟨_, q0, q1, _, q4, q5⟩ := HCC.out _ _ _ HC8.out
    have HC9 : Hid (CmT w D l #[.slice ca K cc, .slice ra RN rc] l.length l.length (brkN l : Int) p none (W8.setCell ⟨H + 3, 0, none⟩ (.pointer p))) := by rw [HH.out]; exact (HC8.out.put p).1
    have HO9 : Hid (BldO K (xsL l) p x (W8.setCell ⟨H + 3, 0, none⟩ (.pointer p))) := HO8.out.up fun _ _ _ h => h.past (by rw [HH.out]; exact HC8.out.2.2.2.1) q0
    have HSW : Hid ((W8.setCell ⟨H + 3, 0, none⟩ (.pointer p)).cell? ⟨H, 0, none⟩ = some (.slice ca K cc) ∧ (W8.setCell ⟨H + 3, 0, none⟩ (.pointer p)).cell? ⟨H + 3, 3, none⟩ = some (.int .i64 (RN : Int))) := by have h := HCC.out _ _ _ HC9.out; exact ⟨h.1, h.2.2.2.1⟩
    go_simp
    refine hK.out _ _ HSW.out (fun hHeld => ?_)
    clear hK KK
    try simp only [Act.put, List.getElem_toArray, List.getElem_cons_succ, List.getElem_cons_zero, List.setIfInBounds_toArray, List.set_cons_zero, List.set_cons_succ]
    refine wpAnyH_take (i := 16) (v := ?_) rfl (by kernel_rfl) (by kernel_rfl) (by kernel_rfl) (fun _ _ _ h => h) (Or.inl ⟨by rfl, ?_⟩) (by assumption) ?_
    rotate_left
    ·intro w hSw; obtain ⟨s0, s1⟩ := hSw; go_simp; try with_reducible rfl
    try simp only [Act.put, List.getElem_toArray, List.getElem_cons_succ, List.getElem_cons_zero, List.setIfInBounds_toArray, List.set_cons_zero, List.set_cons_succ]
    refine wpAnyH_done (by kernel_rfl) ?_ _
    refine NoPanic.normal ?_
    clear hHeld q0 q1 q4 q5
    go_wp2_with fail
    go_meet
    exact ⟨p, x, rfl, HC9.out, HO9.out⟩
   case rest =>
   obtain ⟨WM, hWM⟩ : ∃ W, W = wc := ⟨_, rfl⟩
   rw [← hWM] at hcut ⊢
   clear hWM
   obtain ⟨p, x, hx, hc, ho⟩ := hcut
   subst hx
   have HCF : Hid (CmT w D l #[.slice ca K cc, .slice ra RN rc] l.length l.length (brkN l : Int) p none WM) := hc
   have HOF : Hid (BldO K (xsL l) p x WM) := ho
   clear hc ho
   go_upto_region 16 with fail
   go_cut [7] from 83 to 97 (fun x7 wx => ∃ pB y, x7 = .int .i64 y ∧ CmT w D l #[.slice ca K cc, .slice ra RN rc] l.length l.length (brkN l : Int) p pB wx ∧ BldO K (xsL l) p x wx ∧ BldO K (xsR l) pB y wx)
   case first =>
    refine wp_region_noPanic ?_
    refine wp_region_held_drew (S := (fun w' => w'.cell? ⟨H, 0, none⟩ = some (.slice ca K cc) ∧ w'.cell? ⟨H + 3, 3, none⟩ = some (.int .i64 (RN : Int)))) (by kernel_rfl) (by have h := HCC.out _ _ _ (HCF.out.later (Below.refl _ WM).drew); exact ⟨h.1, h.2.2.2.1⟩) (fun hHeld => ?_)
    refine wpAnyH_take (i := 0) (v := ?_) rfl (by kernel_rfl) (by kernel_rfl) (by kernel_rfl) (fun _ _ _ h => h) (Or.inl ⟨by rfl, ?_⟩) (by assumption) ?_
    rotate_left
    ·intro w hSw; obtain ⟨s0, s1⟩ := hSw; go_simp; try with_reducible rfl
    try simp only [Act.put, List.getElem_toArray, List.getElem_cons_succ, List.getElem_cons_zero, List.setIfInBounds_toArray, List.set_cons_zero, List.set_cons_succ]
    refine wpAnyH_take (i := 1) (v := ?_) rfl (by kernel_rfl) (by kernel_rfl) (by kernel_rfl) (fun _ _ _ h => h) (Or.inl ⟨by rfl, ?_⟩) (by assumption) ?_
    rotate_left
    ·intro w hSw; obtain ⟨s0, s1⟩ := hSw; go_simp; try with_reducible rfl
    try simp only [Act.put, List.getElem_toArray, List.getElem_cons_succ, List.getElem_cons_zero, List.setIfInBounds_toArray, List.set_cons_zero, List.set_cons_succ]
    refine wpAnyH_take (i := 2) (v := ?_) rfl (by kernel_rfl) (by kernel_rfl) (by kernel_rfl) (fun _ _ _ h => h) (Or.inl ⟨by rfl, ?_⟩) (by assumption) ?_
    rotate_left
    ·intro w hSw; obtain ⟨s0, s1⟩ := hSw; go_simp; try with_reducible rfl
    try simp only [Act.put, List.getElem_toArray, List.getElem_cons_succ, List.getElem_cons_zero, List.setIfInBounds_toArray, List.set_cons_zero, List.set_cons_succ]
    refine wpAnyH_take (i := 3) (v := ?_) rfl (by kernel_rfl) (by kernel_rfl) (by kernel_rfl) (fun _ _ _ h => h) (Or.inl ⟨by rfl, ?_⟩) (by assumption) ?_
    rotate_left
    ·intro w hSw; obtain ⟨s0, s1⟩ := hSw; go_simp; try with_reducible rfl
    try simp only [Act.put, List.getElem_toArray, List.getElem_cons_succ, List.getElem_cons_zero, List.setIfInBounds_toArray, List.set_cons_zero, List.set_cons_succ]
    refine wpAnyH_take (i := 4) (v := ?_) rfl (by kernel_rfl) (by kernel_rfl) (by kernel_rfl) (fun _ _ _ h => h) (Or.inl ⟨by rfl, ?_⟩) (by assumption) ?_
    rotate_left
    ·intro w hSw; obtain ⟨s0, s1⟩ := hSw; go_simp; try with_reducible rfl
    try simp only [Act.put, List.getElem_toArray, List.getElem_cons_succ, List.getElem_cons_zero, List.setIfInBounds_toArray, List.set_cons_zero, List.set_cons_succ]
    refine wpAnyH_take (i := 5) (v := ?_) rfl (by kernel_rfl) (by kernel_rfl) (by kernel_rfl) (fun _ _ _ h => h) (Or.inl ⟨by rfl, ?_⟩) (by assumption) ?_
    rotate_left
    ·intro w hSw; obtain ⟨s0, s1⟩ := hSw; go_simp; try with_reducible rfl
    try simp only [Act.put, List.getElem_toArray, List.getElem_cons_succ, List.getElem_cons_zero, List.setIfInBounds_toArray, List.set_cons_zero, List.set_cons_succ]
    refine wpAnyH_take (i := 6) (v := ?_) rfl (by kernel_rfl) (by kernel_rfl) (by kernel_rfl) (fun _ _ _ h => h) (Or.inl ⟨by rfl, ?_⟩) (by assumption) ?_
    rotate_left
    ·intro w hSw; obtain ⟨s0, s1⟩ := hSw; go_simp; try with_reducible rfl
    try simp only [Act.put, List.getElem_toArray, List.getElem_cons_succ, List.getElem_cons_zero, List.setIfInBounds_toArray, List.set_cons_zero, List.set_cons_succ]
    refine wpAnyH_take (i := 7) (v := ?_) rfl (by kernel_rfl) (by kernel_rfl) (by kernel_rfl) (fun _ _ _ h => h) (Or.inl ⟨by rfl, ?_⟩) (by assumption) ?_
    rotate_left
    ·intro w hSw; obtain ⟨s0, s1⟩ := hSw; go_simp; try with_reducible rfl
    try simp only [Act.put, List.getElem_toArray, List.getElem_cons_succ, List.getElem_cons_zero, List.setIfInBounds_toArray, List.set_cons_zero, List.set_cons_succ]
    refine wpAnyH_take (i := 8) (v := ?_) rfl (by kernel_rfl) (by kernel_rfl) (by kernel_rfl) (fun _ _ _ h => h) (Or.inl ⟨by rfl, ?_⟩) (by assumption) ?_
    rotate_left
    ·intro w hSw; obtain ⟨s0, s1⟩ := hSw; go_simp; try with_reducible rfl
    try simp only [Act.put, List.getElem_toArray, List.getElem_cons_succ, List.getElem_cons_zero, List.setIfInBounds_toArray, List.set_cons_zero, List.set_cons_succ]
    refine wpAnyH_ready (rs := [9]) (by kernel_rfl) (by simp) ?_
    refine AllReadyH.cons rfl (fun KK hK => ?_) AllReadyH.nil
    go_simp
    refine (HBR.out _ _ (HCF.out.later (Below.refl _ WM).drew)).mono ?_
    rintro e W8 ⟨hb, pB, y, rfl, hbo⟩
    have HC8 : Hid (CmT w D l #[.slice ca K cc, .slice ra RN rc] l.length l.length (brkN l : Int) p none W8) := (HCF.out.later (Below.refl _ WM).drew).later hb
    have HO8 : Hid (BldO K (xsR l) pB y W8) := hbo
    have HL8 : Hid (BldO K (xsL l) p x W8) := (HOF.out.up fun _ _ _ h => (h.later (Below.refl _ WM).drew)).up fun _ _ _ h => h.later hb
    have HSV : Hid (W8.cell? ⟨H, 0, none⟩ = some (.slice ca K cc) ∧ W8.cell? ⟨H + 3, 3, none⟩ = some (.int .i64 (RN : Int))) := by have h := HCC.out _ _ _ HC8.out; exact ⟨h.1, h.2.2.2.1⟩
    clear hb hbo
    go_simp
    refine hK.out _ _ HSV.out (fun hHeld => ?_)
    clear hK KK
    try simp only [Act.put, List.getElem_toArray, List.getElem_cons_succ, List.getElem_cons_zero, List.setIfInBounds_toArray, List.set_cons_zero, List.set_cons_succ]
    refine wpAnyH_take (i := 10) (v := ?_) rfl (by kernel_rfl) (by kernel_rfl) (by kernel_rfl) (fun _ _ _ h => h) (Or.inl ⟨by rfl, ?_⟩) (by assumption) ?_
    rotate_left
    ·intro w hSw; obtain ⟨s0, s1⟩ := hSw; go_simp; try with_reducible rfl
    try simp only [Act.put, List.getElem_toArray, List.getElem_cons_succ, List.getElem_cons_zero, List.setIfInBounds_toArray, List.set_cons_zero, List.set_cons_succ]
    refine wpAnyH_take (i := 11) (v := ?_) rfl (by kernel_rfl) (by kernel_rfl) (by kernel_rfl) (fun _ _ _ h => h) (Or.inl ⟨by rfl, ?_⟩) (by assumption) ?_
    rotate_left
    ·intro w hSw; obtain ⟨s0, s1⟩ := hSw; go_simp; try with_reducible rfl
    try simp only [Act.put, List.getElem_toArray, List.getElem_cons_succ, List.getElem_cons_zero, List.setIfInBounds_toArray, List.set_cons_zero, List.set_cons_succ]
    refine wpAnyH_take (i := 12) (v := ?_) rfl (by kernel_rfl) (by kernel_rfl) (by kernel_rfl) (fun _ _ _ h => h) (Or.inl ⟨by rfl, ?_⟩) (by assumption) ?_
    rotate_left
    ·intro w hSw; obtain ⟨s0, s1⟩ := hSw; go_simp; try with_reducible rfl
    try simp only [Act.put, List.getElem_toArray, List.getElem_cons_succ, List.getElem_cons_zero, List.setIfInBounds_toArray, List.set_cons_zero, List.set_cons_succ]
    refine wpAnyH_take (i := 13) (v := ?_) rfl (by kernel_rfl) (by kernel_rfl) (by kernel_rfl) (fun _ _ _ h => h) (Or.inl ⟨by rfl, ?_⟩) (by assumption) ?_
    rotate_left
    ·intro w hSw; obtain ⟨s0, s1⟩ := hSw; go_simp; try with_reducible rfl
    try simp only [Act.put, List.getElem_toArray, List.getElem_cons_succ, List.getElem_cons_zero, List.setIfInBounds_toArray, List.set_cons_zero, List.set_cons_succ]
    refine wpAnyH_take (i := 14) (v := ?_) rfl (by kernel_rfl) (by kernel_rfl) (by kernel_rfl) (fun _ _ _ h => h) (Or.inl ⟨by rfl, ?_⟩) (by assumption) ?_
    rotate_left
    ·intro w hSw; obtain ⟨s0, s1⟩ := hSw; go_simp; try with_reducible rfl
    try simp only [Act.put, List.getElem_toArray, List.getElem_cons_succ, List.getElem_cons_zero, List.setIfInBounds_toArray, List.set_cons_zero, List.set_cons_succ]
    refine wpAnyH_ready (rs := [15]) (by kernel_rfl) (by simp) ?_
    refine AllReadyH.cons rfl (fun KK hK => ?_) AllReadyH.nil
    obtain ⟨_, q0, q1, _, q4, q5⟩ := HCC.out _ _ _ HC8.out
    have HC9 : Hid (CmT w D l #[.slice ca K cc, .slice ra RN rc] l.length l.length (brkN l : Int) p pB (W8.setCell ⟨H + 3, 1, none⟩ (.pointer pB))) := by rw [HH.out]; exact (HC8.out.put pB).2
    have HO9 : Hid (BldO K (xsR l) pB y (W8.setCell ⟨H + 3, 1, none⟩ (.pointer pB))) := HO8.out.up fun _ _ _ h => h.past (by rw [HH.out]; exact HC8.out.2.2.2.1) q1
    have HL9 : Hid (BldO K (xsL l) p x (W8.setCell ⟨H + 3, 1, none⟩ (.pointer pB))) := HL8.out.up fun _ _ _ h => h.past (by rw [HH.out]; exact HC8.out.2.2.2.1) q1
    have HSW : Hid ((W8.setCell ⟨H + 3, 1, none⟩ (.pointer pB)).cell? ⟨H, 0, none⟩ = some (.slice ca K cc) ∧ (W8.setCell ⟨H + 3, 1, none⟩ (.pointer pB)).cell? ⟨H + 3, 3, none⟩ = some (.int .i64 (RN : Int))) := by have h := HCC.out _ _ _ HC9.out; exact ⟨h.1, h.2.2.2.1⟩
    go_simp
    refine hK.out _ _ HSW.out (fun hHeld => ?_)
    clear hK KK
    try simp only [Act.put, List.getElem_toArray, List.getElem_cons_succ, List.getElem_cons_zero, List.setIfInBounds_toArray, List.set_cons_zero, List.set_cons_succ]
    refine wpAnyH_take (i := 16) (v := ?_) rfl (by kernel_rfl) (by kernel_rfl) (by kernel_rfl) (fun _ _ _ h => h) (Or.inl ⟨by rfl, ?_⟩) (by assumption) ?_
    rotate_left
    ·intro w hSw; obtain ⟨s0, s1⟩ := hSw; go_simp; try with_reducible rfl
    try simp only [Act.put, List.getElem_toArray, List.getElem_cons_succ, List.getElem_cons_zero, List.setIfInBounds_toArray, List.set_cons_zero, List.set_cons_succ]
    refine wpAnyH_done (by kernel_rfl) ?_ _
    refine NoPanic.normal ?_
    clear hHeld q0 q1 q4 q5
    go_wp2_with fail
    go_meet
    exact ⟨pB, y, rfl, HC9.out, HL9.out, HO9.out⟩
   case rest =>
   obtain ⟨WN, hWN⟩ : ∃ W, W = wc := ⟨_, rfl⟩
   rw [← hWN] at hcut ⊢
   clear hWN
   obtain ⟨pB, y, hy, hc, ho, ho2⟩ := hcut
   subst hy
   have HCG : Hid (CmT w D l #[.slice ca K cc, .slice ra RN rc] l.length l.length (brkN l : Int) p pB WN) := hc
   have HCO : Hid (∀ i (hi : i < l.length), l[i].left.ok = true ∧ l[i].right.ok = true) := fun i hi => HOK.out i hi (by rw [HRN.out]; exact hi)
   have HLL : Hid (l.length ≤ 40) := by rw [← HRN.out]; exact h40n
   clear hc
   rcases ho with ⟨a1, rfl, rfl⟩ | ⟨a1, rfl, rfl, a2⟩ | ⟨a1, rfl, lA, nA, oA, rfl, a2, a3, a4, a5⟩
   ·have HF : Hid (cmB K l = false) := by show _ = _; unfold cmB; rw [a1]; simp
    clear a1 ho2
    go_wp2_with fail
    go_step3
    go_simp
    refine HR0.out _ _ ?_
    go_wp2_with fail
    go_ret2
    exact ⟨HCG.out.1, .inl ⟨HF.out, rfl⟩⟩
   all_goals
    rcases ho2 with ⟨b1, rfl, rfl⟩ | ⟨b1, rfl, rfl, b2⟩ | ⟨b1, rfl, lB, nB, oB, rfl, b2, b3, b4, b5⟩
   ·have HF : Hid (cmB K l = false) := by show _ = _; unfold cmB; rw [b1]; simp
    clear a1 b1
    go_wp2_with fail
    go_step3
    go_simp
    refine HR0.out _ _ ?_
    go_wp2_with fail
    go_ret2
    exact ⟨HCG.out.1, .inl ⟨HF.out, rfl⟩⟩
   ·have HF : Hid (cmB K l = true ∧ (BigC K (xsL l) ∨ BigC K (xsR l))) := ⟨cm_good HLL.out HCO.out a1 b1, .inl a2⟩
    clear a1 a2 b1 b2
    go_wp2_with fail
    go_step3
    go_simp
    refine HR1.out _ _ ?_
    go_wp2_with fail
    go_ret2
    exact ⟨HCG.out.1, .inr ⟨HF.out.1, .inl ⟨rfl, HF.out.2⟩⟩⟩
   ·have HF : Hid (cmB K l = true ∧ (BigC K (xsL l) ∨ BigC K (xsR l))) := ⟨cm_good HLL.out HCO.out a1 b1, .inl a2⟩
    clear a1 a2 b1 b2 b3 b4 b5
    go_wp2_with fail
    go_step3
    go_simp
    refine HR1.out _ _ ?_
    go_wp2_with fail
    go_ret2
    exact ⟨HCG.out.1, .inr ⟨HF.out.1, .inl ⟨rfl, HF.out.2⟩⟩⟩
   ·have HF : Hid (cmB K l = false) := by show _ = _; unfold cmB; rw [b1]; simp
    clear a1 a2 a3 a4 a5 b1
    go_wp2_with fail
    go_step3
    go_simp
    refine HR0.out _ _ ?_
    go_wp2_with fail
    go_ret2
    exact ⟨HCG.out.1, .inl ⟨HF.out, rfl⟩⟩
   ·have HF : Hid (cmB K l = true ∧ (BigC K (xsL l) ∨ BigC K (xsR l))) := ⟨cm_good HLL.out HCO.out a1 b1, .inr b2⟩
    clear a1 a2 a3 a4 a5 b1 b2
    go_wp2_with fail
    go_step3
    go_simp
    refine HR1.out _ _ ?_
    go_wp2_with fail
    go_ret2
    exact ⟨HCG.out.1, .inr ⟨HF.out.1, .inl ⟨rfl, HF.out.2⟩⟩⟩
   ·have HF : Hid (cmB K l = true ∧ ¬ BigC K (xsL l) ∧ ¬ BigC K (xsR l)) := ⟨cm_good HLL.out HCO.out a1 b1, a5, b5⟩
    have HTA : Hid (TabAt WN K l (H + 3)) := ⟨lA, lB, nA, oA, nB, oB, by rw [HH.out]; exact HCG.out.2.2.2.1, a2, a3, a4, b2, b3, b4⟩
    clear a1 a2 a3 a4 a5 b1 b2 b3 b4 b5
    go_wp2_with fail
    go_ret2
    exact ⟨HCG.out.1, .inr ⟨HF.out.1, .inr ⟨H + 3, rfl, by rw [HH.out]; omega, HTA.out, HF.out.2⟩⟩⟩
end Go.Proofs.YtclogekfdmikpaaDoor
