/- In one text: SegB, DfaRb. -/
import Derived.Test.YtcafffohnokjgaaDoorJ23
import Derived.Test.YtcafffohnokjgaaDoorJ04
import Derived.Test.YtcafffohnokjgaaDoorJ21
/- The boundaries of a text, one by one, to who ranges over them: the contract of the iterator that boundaries makes. -/
namespace Go.Proofs.YtcafffohnokjgaaDoor
open Go.RowKit Go.Shelf
set_option linter.unusedVariables false
set_option linter.unusedSimpArgs false
attribute [local go_sem] Oper.semAt_some

def isB (br N n : Nat) (OA OB : Nat → Nat) (p : Nat) : Bool := decide (p = 0) || decide (p = n) || dcB br (OA p &&& OB (n - p)) N 0
def bndL (br N n : Nat) (OA OB : Nat → Nat) (k : Nat) : List Nat := (List.range k).filter (isB br N n OA OB)
def allB (br N n : Nat) (OA OB : Nat → Nat) : List Nat := if n = 0 then [] else bndL br N n OA OB (n + 1)
theorem bndL_yes {br N n : Nat} {OA OB : Nat → Nat} {p : Nat} (h : isB br N n OA OB p = true) : bndL br N n OA OB (p + 1) = bndL br N n OA OB p ++ [p] := by
 unfold bndL
 rw [List.range_succ, List.filter_append, List.filter_cons, if_pos h]
 rfl
theorem bndL_no {br N n : Nat} {OA OB : Nat → Nat} {p : Nat} (h : isB br N n OA OB p = false) : bndL br N n OA OB (p + 1) = bndL br N n OA OB p := by
 unfold bndL
 rw [List.range_succ, List.filter_append, List.filter_cons, if_neg (by simp [h])]
 simp
theorem bndL_pre (br N n : Nat) (OA OB : Nat → Nat) {j k : Nat} (h : j ≤ k) : bndL br N n OA OB j <+: bndL br N n OA OB k := by
 obtain ⟨d, rfl⟩ : ∃ d, k = j + d := ⟨k - j, by omega⟩
 unfold bndL
 rw [List.range_eq_range', List.range_eq_range', ← List.range'_append_1 (s := 0) (m := j) (n := d), List.filter_append]
 exact List.prefix_append _ _
theorem bndL_len (br N n : Nat) (OA OB : Nat → Nat) (k : Nat) : (bndL br N n OA OB k).length ≤ k := Nat.le_trans (List.length_filter_le _ _) (by simp)
theorem below_undrewB {B : Nat} {W W' : World} (h : Below B W.drew W') : Below B W W' := ⟨h.os, h.tape, h.output, h.size, h.block⟩
def SegAt (n tb Bn Bt Ba Bb ga gb ca cb br N : Nat) (OA OB : Nat → Nat) (V : World) : Prop :=
 ((V.cell? ⟨Bn, 0, none⟩ = some (.int .i64 (n : Int)) ∧ V.cell? ⟨Bt, 0, none⟩ = some (.pointer (some ⟨tb, 0, none⟩))) ∧ V.cell? ⟨Ba, 0, none⟩ = some (.slice (some ⟨ga, 0, none⟩) (n + 1) ca) ∧ V.cell? ⟨Bb, 0, none⟩ = some (.slice (some ⟨gb, 0, none⟩) (n + 1) cb)) ∧
  (∀ i, i < n + 1 → V.cell? ⟨ga, i, none⟩ = some (.int .u64 (OA i : Int)) ∧ V.cell? ⟨gb, i, none⟩ = some (.int .u64 (OB i : Int))) ∧ ∃ p0 p1, V.heap[tb]? = some (.cells #[p0, p1, .int .u64 (br : Int), .int .i64 (N : Int)] 60)
theorem SegAt.later {n tb Bn Bt Ba Bb ga gb ca cb br N : Nat} {OA OB : Nat → Nat} {V V' : World} (h : SegAt n tb Bn Bt Ba Bb ga gb ca cb br N OA OB V) (hb : Below V.heap.size V V') : SegAt n tb Bn Bt Ba Bb ga gb ca cb br N OA OB V' := by
 obtain ⟨⟨⟨h1, h2⟩, h3, h4⟩, h5, p0, p1, h6⟩ := h
 exact ⟨⟨⟨upC hb h1, upC hb h2⟩, upC hb h3, upC hb h4⟩, fun i hi => ⟨upC hb (h5 i hi).1, upC hb (h5 i hi).2⟩, p0, p1, (hb.block tb (Array.getElem?_eq_some_iff.1 h6).1).trans h6⟩
theorem memo {X G : Prop} (h : X → G) (hx : X) : G := h hx
set_option maxRecDepth 100000 in
set_option maxHeartbeats 8000000 in
theorem bnd_in (m l n tb Bn Bt Ba Bb ga gb ca cb br N : Nat) (OA OB : Nat → Nat) (w0 : World) (J Jx : List Nat → World → Prop) (hJ : ∀ pre W W', J pre W → W.grownBy W' none → J pre W') (hS : SegAt n tb Bn Bt Ba Bb ga gb ca cb br N OA OB w0) (hN : N ≤ 40) (hn : n ≤ 100000) (hbr : br < 2 ^ 64) (hO : ∀ i, OA i < 2 ^ 64 ∧ OB i < 2 ^ 64)
 (hY : ∀ (pre : List Nat) (x : Nat) (W1 : World), x ≤ n → J pre W1 → pre.length < n + 2 → YieldAt Fence.wide (m - 1) Tryd.prog l #[.int .i64 (x : Int)] W1 fun e W' => (e = .returned (.bool true) ∧ J (pre ++ [x]) W' ∧ Below w0.heap.size W1 W') ∨ (e = .returned (.bool false) ∧ Jx (pre ++ [x]) W'))
 (W : World) (hW : Below w0.heap.size w0 W) (h0 : J [] W) :
 CallsIn Fence.wide m Tryd.prog 42 #[.func (.yield l) #[] #[], .pointer (some ⟨Bn, 0, none⟩), .pointer (some ⟨Bt, 0, none⟩), .pointer (some ⟨Ba, 0, none⟩), .pointer (some ⟨Bb, 0, none⟩)] W fun e W' => (∃ v, e = .returned v) ∧ ((∃ xs, xs = allB br N n OA OB ∧ J xs W') ∨ ∃ pre, pre <+: allB br N n OA OB ∧ Jx pre W') := by
 have HY : Hid (∀ (pre : List Nat) (x : Nat) (W1 : World), x ≤ n → J pre W1 → pre.length < n + 2 → YieldAt Fence.wide (m - 1) Tryd.prog l #[.int .i64 (x : Int)] W1 fun e W' => (e = .returned (.bool true) ∧ J (pre ++ [x]) W' ∧ Below w0.heap.size W1 W') ∨ (e = .returned (.bool false) ∧ Jx (pre ++ [x]) W')) := hY
 have HJ : Hid (∀ pre W W', J pre W → W.grownBy W' none → J pre W') := hJ
 have HSG : Hid (∀ V : World, Below w0.heap.size w0 V → SegAt n tb Bn Bt Ba Bb ga gb ca cb br N OA OB V) := fun V hV => hS.later hV
 have HNB : Hid ((N ≤ 40 ∧ br < 2 ^ 64) ∧ ∀ i, OA i < 2 ^ 64 ∧ OB i < 2 ^ 64) := ⟨⟨hN, hbr⟩, hO⟩
 have HW : Hid (Below w0.heap.size w0 W ∧ J [] W) := ⟨hW, h0⟩
 have hni : (n : Int) ≤ 100000 := by omega
 obtain ⟨⟨⟨q1, _⟩, _⟩, _⟩ := hS.later hW
 clear hY hJ hS hN hbr hO hW h0 hn
 refine callsIn_wide.2 ?_
 go_enter Tryd.func42, Tryd.ntmps42
 go_wp2
 clear q1
 go_loopw [8] (fun x8 wr => ∃ p : Nat, p ≤ n ∧ x8 = .int .i64 (p : Int) ∧ J (bndL br N n OA OB p) wr ∧ Below w0.heap.size w0 wr) (fun x8 _ => n - (intOf x8).toNat)
 case atStart => exact ⟨0, by omega, rfl, HW.out.2, HW.out.1⟩
 case round =>
  obtain ⟨p, hp, hx8, hj, hb⟩ := hrel
  subst hx8
  have HJP : Hid (J (bndL br N n OA OB p) wr) := hj
  have HBW : Hid (Below w0.heap.size w0 wr) := hb
  clear hj hb
  obtain ⟨⟨⟨c1, c2⟩, c3, c4⟩, hce, t0, t1, htb⟩ := HSG.out wr HBW.out
  by_cases hlt : p < n
  ·have hpi : (p : Int) < (n : Int) := by omega
   have HPL : Hid (isB br N n OA OB p = true → bndL br N n OA OB p ++ [p] <+: allB br N n OA OB) := fun h => by
    rw [← bndL_yes h]
    unfold allB
    rw [if_neg (by omega)]
    exact bndL_pre br N n OA OB (by omega)
   by_cases hp0 : p = 0
   ·have HIS : Hid (isB br N n OA OB p = true) := by show _ = true; unfold isB; rw [decide_eq_true hp0]; rfl
    have HPF : Hid (bndL br N n OA OB p ++ [p] <+: allB br N n OA OB) := HPL.out HIS.out
    have hpz : ((p : Int) == 0) = true := by rw [beq_iff_eq]; omega
    obtain ⟨fn, tmps, assign, body, hy, hR⟩ := HY.out (bndL br N n OA OB p) p wr.drew hp (HJ.out _ _ _ HJP.out (grown_drew3 wr none)) (by have := bndL_len br N n OA OB p; omega)
    clear hp0 hce htb
    go_upto_region 3 with fail
    refine (wpIn_wide (n := m)).1 ?_
    refine wpIn_region_any (by kernel_rfl) ?_
    try (change wpAnyIn _ _ _ _ _ _ _ _ _ (World.drew _))
    refine wpAnyIn_take (i := 0) (v := ?_) rfl rfl (by kernel_rfl) (by kernel_rfl) (by kernel_rfl) (fun _ _ _ h => h) ⟨Or.inl ⟨by rfl, ?_⟩, fun _ => rfl⟩ ?_
    rotate_left
    ·intro wS; go_simp; try with_reducible rfl
    try simp only [Act.put, List.getElem_toArray, List.getElem_cons_succ, List.getElem_cons_zero, List.setIfInBounds_toArray, List.set_cons_zero, List.set_cons_succ]
    refine wpAnyIn_take (i := 1) (v := ?_) rfl rfl (by kernel_rfl) (by kernel_rfl) (by kernel_rfl) (fun _ _ _ h => h) ⟨Or.inl ⟨by rfl, ?_⟩, fun _ => rfl⟩ ?_
    rotate_left
    ·intro wS; go_simp; try with_reducible rfl
    try simp only [Act.put, List.getElem_toArray, List.getElem_cons_succ, List.getElem_cons_zero, List.setIfInBounds_toArray, List.set_cons_zero, List.set_cons_succ]
    refine wpAnyIn_take (i := 2) (v := ?_) rfl rfl (by kernel_rfl) (by kernel_rfl) (by kernel_rfl) (fun _ _ _ h => h) ⟨Or.inl ⟨by rfl, ?_⟩, fun _ => rfl⟩ ?_
    rotate_left
    ·intro wS; go_simp; try with_reducible rfl
    try simp only [Act.put, List.getElem_toArray, List.getElem_cons_succ, List.getElem_cons_zero, List.setIfInBounds_toArray, List.set_cons_zero, List.set_cons_succ]
    refine wpAnyIn_take (i := 3) (v := undef) rfl rfl (by kernel_rfl) (by kernel_rfl) (by kernel_rfl) (fun _ _ _ h => h) ⟨Or.inr ⟨by rfl, rfl⟩, fun _ => rfl⟩ ?_
    try simp only [Act.put, List.getElem_toArray, List.getElem_cons_succ, List.getElem_cons_zero, List.setIfInBounds_toArray, List.set_cons_zero, List.set_cons_succ]
    refine wpAnyIn_take (i := 4) (v := undef) rfl rfl (by kernel_rfl) (by kernel_rfl) (by kernel_rfl) (fun _ _ _ h => h) ⟨Or.inr ⟨by rfl, rfl⟩, fun _ => rfl⟩ ?_
    try simp only [Act.put, List.getElem_toArray, List.getElem_cons_succ, List.getElem_cons_zero, List.setIfInBounds_toArray, List.set_cons_zero, List.set_cons_succ]
    refine wpAnyIn_take (i := 5) (v := undef) rfl rfl (by kernel_rfl) (by kernel_rfl) (by kernel_rfl) (fun _ _ _ h => h) ⟨Or.inr ⟨by rfl, rfl⟩, fun _ => rfl⟩ ?_
    try simp only [Act.put, List.getElem_toArray, List.getElem_cons_succ, List.getElem_cons_zero, List.setIfInBounds_toArray, List.set_cons_zero, List.set_cons_succ]
    refine wpAnyIn_take (i := 6) (v := undef) rfl rfl (by kernel_rfl) (by kernel_rfl) (by kernel_rfl) (fun _ _ _ h => h) ⟨Or.inr ⟨by rfl, rfl⟩, fun _ => rfl⟩ ?_
    try simp only [Act.put, List.getElem_toArray, List.getElem_cons_succ, List.getElem_cons_zero, List.setIfInBounds_toArray, List.set_cons_zero, List.set_cons_succ]
    refine wpAnyIn_take (i := 7) (v := undef) rfl rfl (by kernel_rfl) (by kernel_rfl) (by kernel_rfl) (fun _ _ _ h => h) ⟨Or.inr ⟨by rfl, rfl⟩, fun _ => rfl⟩ ?_
    try simp only [Act.put, List.getElem_toArray, List.getElem_cons_succ, List.getElem_cons_zero, List.setIfInBounds_toArray, List.set_cons_zero, List.set_cons_succ]
    refine wpAnyIn_take (i := 8) (v := undef) rfl rfl (by kernel_rfl) (by kernel_rfl) (by kernel_rfl) (fun _ _ _ h => h) ⟨Or.inr ⟨by rfl, rfl⟩, fun _ => rfl⟩ ?_
    try simp only [Act.put, List.getElem_toArray, List.getElem_cons_succ, List.getElem_cons_zero, List.setIfInBounds_toArray, List.set_cons_zero, List.set_cons_succ]
    refine wpAnyIn_take (i := 9) (v := undef) rfl rfl (by kernel_rfl) (by kernel_rfl) (by kernel_rfl) (fun _ _ _ h => h) ⟨Or.inr ⟨by rfl, rfl⟩, fun _ => rfl⟩ ?_
    try simp only [Act.put, List.getElem_toArray, List.getElem_cons_succ, List.getElem_cons_zero, List.setIfInBounds_toArray, List.set_cons_zero, List.set_cons_succ]
    refine wpAnyIn_take (i := 10) (v := undef) rfl rfl (by kernel_rfl) (by kernel_rfl) (by kernel_rfl) (fun _ _ _ h => h) ⟨Or.inr ⟨by rfl, rfl⟩, fun _ => rfl⟩ ?_
    try simp only [Act.put, List.getElem_toArray, List.getElem_cons_succ, List.getElem_cons_zero, List.setIfInBounds_toArray, List.set_cons_zero, List.set_cons_succ]
    refine wpAnyIn_take (i := 11) (v := undef) rfl rfl (by kernel_rfl) (by kernel_rfl) (by kernel_rfl) (fun _ _ _ h => h) ⟨Or.inr ⟨by rfl, rfl⟩, fun _ => rfl⟩ ?_
    try simp only [Act.put, List.getElem_toArray, List.getElem_cons_succ, List.getElem_cons_zero, List.setIfInBounds_toArray, List.set_cons_zero, List.set_cons_succ]
    refine wpAnyIn_take (i := 12) (v := undef) rfl rfl (by kernel_rfl) (by kernel_rfl) (by kernel_rfl) (fun _ _ _ h => h) ⟨Or.inr ⟨by rfl, rfl⟩, fun _ => rfl⟩ ?_
    try simp only [Act.put, List.getElem_toArray, List.getElem_cons_succ, List.getElem_cons_zero, List.setIfInBounds_toArray, List.set_cons_zero, List.set_cons_succ]
    refine wpAnyIn_take (i := 13) (v := undef) rfl rfl (by kernel_rfl) (by kernel_rfl) (by kernel_rfl) (fun _ _ _ h => h) ⟨Or.inr ⟨by rfl, rfl⟩, fun _ => rfl⟩ ?_
    try simp only [Act.put, List.getElem_toArray, List.getElem_cons_succ, List.getElem_cons_zero, List.setIfInBounds_toArray, List.set_cons_zero, List.set_cons_succ]
    refine wpAnyIn_ready (rs := [14]) (by kernel_rfl) (by simp) ?_
    refine AllReadyIn.cons rfl (fun KK hK => ?_) AllReadyIn.nil
    refine ⟨fun _ _ => trivial, ?_⟩
    refine hK _ _ ?_
    clear hK KK
    try simp only [Act.put, List.getElem_toArray, List.getElem_cons_succ, List.getElem_cons_zero, List.setIfInBounds_toArray, List.set_cons_zero, List.set_cons_succ]
    refine wpAnyIn_take (i := 15) (v := ?_) rfl rfl (by kernel_rfl) (by kernel_rfl) (by kernel_rfl) (fun _ _ _ h => h) ⟨Or.inl ⟨by rfl, ?_⟩, fun _ => rfl⟩ ?_
    rotate_left
    ·intro wS; go_simp; try with_reducible rfl
    try simp only [Act.put, List.getElem_toArray, List.getElem_cons_succ, List.getElem_cons_zero, List.setIfInBounds_toArray, List.set_cons_zero, List.set_cons_succ]
    refine wpAnyIn_take (i := 16) (v := ?_) rfl rfl (by kernel_rfl) (by kernel_rfl) (by kernel_rfl) (fun _ _ _ h => h) ⟨Or.inl ⟨by rfl, ?_⟩, fun _ => rfl⟩ ?_
    rotate_left
    ·intro wS; go_simp; try with_reducible rfl
    try simp only [Act.put, List.getElem_toArray, List.getElem_cons_succ, List.getElem_cons_zero, List.setIfInBounds_toArray, List.set_cons_zero, List.set_cons_succ]
    refine wpAnyIn_take (i := 17) (v := ?_) rfl rfl (by kernel_rfl) (by kernel_rfl) (by kernel_rfl) (fun _ _ _ h => h) ⟨Or.inl ⟨by rfl, ?_⟩, fun _ => rfl⟩ ?_
    rotate_left
    ·intro wS; go_simp; try with_reducible rfl
    try simp only [Act.put, List.getElem_toArray, List.getElem_cons_succ, List.getElem_cons_zero, List.setIfInBounds_toArray, List.set_cons_zero, List.set_cons_succ]
    refine wpAnyIn_take (i := 18) (v := ?_) rfl rfl (by kernel_rfl) (by kernel_rfl) (by kernel_rfl) (fun _ _ _ h => h) ⟨Or.inl ⟨by rfl, ?_⟩, fun _ => rfl⟩ ?_
    rotate_left
    ·intro wS; go_simp; try with_reducible rfl
    try simp only [Act.put, List.getElem_toArray, List.getElem_cons_succ, List.getElem_cons_zero, List.setIfInBounds_toArray, List.set_cons_zero, List.set_cons_succ]
    refine wpAnyIn_ready (rs := [19]) (by kernel_rfl) (by simp) ?_
    refine AllReadyIn.cons rfl (fun KK hK => ?_) AllReadyIn.nil
    go_simp
    refine ⟨fun h => (by cases h), ?_⟩
    refine hR.mono ?_
    rintro e W3 (⟨rfl, hJ3, hk3⟩ | ⟨rfl, hJx3⟩)
    ·have HJ3 : Hid (J (bndL br N n OA OB p ++ [p]) W3 ∧ Below w0.heap.size wr W3) := ⟨hJ3, below_undrewB hk3⟩
     clear hJ3 hk3 hR hy
     refine hK _ _ ?_
     clear hK KK
     try simp only [Act.put, List.getElem_toArray, List.getElem_cons_succ, List.getElem_cons_zero, List.setIfInBounds_toArray, List.set_cons_zero, List.set_cons_succ]
     refine wpAnyIn_take (i := 20) (v := ?_) rfl rfl (by kernel_rfl) (by kernel_rfl) (by kernel_rfl) (fun _ _ _ h => h) ⟨Or.inl ⟨by rfl, ?_⟩, fun _ => rfl⟩ ?_
     rotate_left
     ·intro wS; go_simp; try with_reducible rfl
     try simp only [Act.put, List.getElem_toArray, List.getElem_cons_succ, List.getElem_cons_zero, List.setIfInBounds_toArray, List.set_cons_zero, List.set_cons_succ]
     refine wpAnyIn_ready (rs := [21]) (by kernel_rfl) (by simp) ?_
     refine AllReadyIn.cons rfl (fun KK hK => ?_) AllReadyIn.nil
     go_simp
     refine hK _ _ ?_
     clear hK KK
     try simp only [Act.put, List.getElem_toArray, List.getElem_cons_succ, List.getElem_cons_zero, List.setIfInBounds_toArray, List.set_cons_zero, List.set_cons_succ]
     refine wpAnyIn_done (by kernel_rfl) ?_ _
     go_wp2
     go_roundw
     case rel => exact ⟨p + 1, by omega, by go_num, by rw [bndL_yes HIS.out]; exact HJ3.out.1, HBW.out.trans HJ3.out.2⟩
     case measure => simp [intOf]; omega
    ·have HJ3 : Hid (Jx (bndL br N n OA OB p ++ [p]) W3) := hJx3
     clear hJx3 hR hy
     refine hK _ _ ?_
     clear hK KK
     try simp only [Act.put, List.getElem_toArray, List.getElem_cons_succ, List.getElem_cons_zero, List.setIfInBounds_toArray, List.set_cons_zero, List.set_cons_succ]
     refine wpAnyIn_take (i := 20) (v := ?_) rfl rfl (by kernel_rfl) (by kernel_rfl) (by kernel_rfl) (fun _ _ _ h => h) ⟨Or.inl ⟨by rfl, ?_⟩, fun _ => rfl⟩ ?_
     rotate_left
     ·intro wS; go_simp; try with_reducible rfl
     try simp only [Act.put, List.getElem_toArray, List.getElem_cons_succ, List.getElem_cons_zero, List.setIfInBounds_toArray, List.set_cons_zero, List.set_cons_succ]
     refine wpAnyIn_ready (rs := [21]) (by kernel_rfl) (by simp) ?_
     refine AllReadyIn.cons rfl (fun KK hK => ?_) AllReadyIn.nil
     go_simp
     refine hK _ _ ?_
     clear hK KK
     try simp only [Act.put, List.getElem_toArray, List.getElem_cons_succ, List.getElem_cons_zero, List.setIfInBounds_toArray, List.set_cons_zero, List.set_cons_succ]
     refine wpAnyIn_done (by kernel_rfl) ?_ _
     go_wp2
     refine bodyPost_ret (results_none rfl _ _ _) rfl ?_
     exact ⟨⟨_, rfl⟩, .inr ⟨_, HPF.out, HJ3.out⟩⟩
   have hpz : ((p : Int) == 0) = false := by rw [beq_eq_false_iff_ne]; omega
   obtain ⟨q, hq⟩ : ∃ q : Nat, (n : Int) - (p : Int) = (q : Int) := ⟨n - p, by omega⟩
   have hqn : q = n - p := by omega
   have d1 := (hce p (by omega)).1
   have d2 := (hce q (by omega)).2
   obtain ⟨lt1, _⟩ := HNB.out.2 p
   obtain ⟨_, lt2⟩ := HNB.out.2 q
   obtain ⟨d, hd⟩ : ∃ d, d = dcB br (OA p &&& OB q) N 0 := ⟨_, rfl⟩
   have HIS0 : Hid (isB br N n OA OB p = d) := by
    show _ = _
    unfold isB
    rw [decide_eq_false hp0, decide_eq_false (by omega), ← hqn, hd]; rfl
   obtain ⟨Y1, hY1⟩ : ∃ Y, Y = OA p := ⟨_, rfl⟩
   obtain ⟨Y2, hY2⟩ : ∃ Y, Y = OB q := ⟨_, rfl⟩
   rw [← hY1] at d1 lt1 hd
   rw [← hY2] at d2 lt2 hd
   have HDE : Hid (Calls Tryd.prog 43 #[.pointer (some ⟨tb, 0, none⟩), .int .u64 (Y1 : Int), .int .u64 (Y2 : Int)] wr.drew fun e w' => e = .returned (.bool d) ∧ w' = wr.drew) := by
    rw [hd]
    exact decide_any wr.drew tb N br Y1 Y2 t0 t1 (((Below.refl _ wr).drew.block tb (Array.getElem?_eq_some_iff.1 htb).1).trans htb) HNB.out.1.1 HNB.out.1.2 lt1 lt2
   obtain ⟨fn, tmps, assign, body, hy, hR⟩ := HY.out (bndL br N n OA OB p) p wr.drew hp (HJ.out _ _ _ HJP.out (grown_drew3 wr none)) (by have := bndL_len br N n OA OB p; omega)
   have hp1 : (p : Int) < (n : Int) + 1 := by omega
   have hp2 : (0 : Int) ≤ (p : Int) := by omega
   have hq1 : (q : Int) < (n : Int) + 1 := by omega
   have hq2 : (0 : Int) ≤ (q : Int) := by omega
   have hqw : IntKind.i64.wrap (q : Int) = (q : Int) := by rw [IntKind.wrap_i64]; omega
   clear hce htb hqn hd hY1 hY2 lt1 lt2 hp0
   go_upto_region 3 with fail
   refine (wpIn_wide (n := m)).1 ?_
   refine wpIn_region_any (by kernel_rfl) ?_
   try (change wpAnyIn _ _ _ _ _ _ _ _ _ (World.drew _))
   refine wpAnyIn_take (i := 0) (v := ?_) rfl rfl (by kernel_rfl) (by kernel_rfl) (by kernel_rfl) (fun _ _ _ h => h) ⟨Or.inl ⟨by rfl, ?_⟩, fun _ => rfl⟩ ?_
   rotate_left
   ·intro wS; go_simp; try with_reducible rfl
   try simp only [Act.put, List.getElem_toArray, List.getElem_cons_succ, List.getElem_cons_zero, List.setIfInBounds_toArray, List.set_cons_zero, List.set_cons_succ]
   refine wpAnyIn_take (i := 1) (v := ?_) rfl rfl (by kernel_rfl) (by kernel_rfl) (by kernel_rfl) (fun _ _ _ h => h) ⟨Or.inl ⟨by rfl, ?_⟩, fun _ => rfl⟩ ?_
   rotate_left
   ·intro wS; go_simp; try with_reducible rfl
   try simp only [Act.put, List.getElem_toArray, List.getElem_cons_succ, List.getElem_cons_zero, List.setIfInBounds_toArray, List.set_cons_zero, List.set_cons_succ]
   refine wpAnyIn_take (i := 2) (v := ?_) rfl rfl (by kernel_rfl) (by kernel_rfl) (by kernel_rfl) (fun _ _ _ h => h) ⟨Or.inl ⟨by rfl, ?_⟩, fun _ => rfl⟩ ?_
   rotate_left
   ·intro wS; go_simp; try with_reducible rfl
   try simp only [Act.put, List.getElem_toArray, List.getElem_cons_succ, List.getElem_cons_zero, List.setIfInBounds_toArray, List.set_cons_zero, List.set_cons_succ]
   refine wpAnyIn_take (i := 5) (v := ?_) rfl rfl (by kernel_rfl) (by kernel_rfl) (by kernel_rfl) (fun _ _ _ h => h) ⟨Or.inl ⟨by rfl, ?_⟩, fun _ => rfl⟩ ?_
   rotate_left
   ·intro wS; go_simp; try with_reducible rfl
   try simp only [Act.put, List.getElem_toArray, List.getElem_cons_succ, List.getElem_cons_zero, List.setIfInBounds_toArray, List.set_cons_zero, List.set_cons_succ]
   refine wpAnyIn_take (i := 10) (v := ?_) rfl rfl (by kernel_rfl) (by kernel_rfl) (by kernel_rfl) (fun _ _ _ h => h) ⟨Or.inl ⟨by rfl, ?_⟩, fun _ => rfl⟩ ?_
   rotate_left
   ·intro wS; go_simp; try with_reducible rfl
   try simp only [Act.put, List.getElem_toArray, List.getElem_cons_succ, List.getElem_cons_zero, List.setIfInBounds_toArray, List.set_cons_zero, List.set_cons_succ]
   apply memo
   ·intro G12111
    apply memo
    ·intro G12110
     apply memo
     ·intro G12100
      apply memo
      ·intro G12010
       apply memo
       ·intro G12000
        apply memo
        ·intro G11111
         apply memo
         ·intro G11110
          apply memo
          ·intro G11100
           apply memo
           ·intro G11010
            apply memo
            ·intro G11000
             apply memo
             ·intro G10111
              apply memo
              ·intro G10110
               apply memo
               ·intro G10100
                apply memo
                ·intro G10010
                 apply memo
                 ·intro G10000
                  apply memo
                  ·intro G02111
                   apply memo
                   ·intro G02110
                    apply memo
                    ·intro G02100
                     apply memo
                     ·intro G02010
                      apply memo
                      ·intro G02000
                       apply memo
                       ·intro G01111
                        apply memo
                        ·intro G01110
                         apply memo
                         ·intro G01100
                          apply memo
                          ·intro G01010
                           apply memo
                           ·intro G01000
                            apply memo
                            ·intro G00111
                             apply memo
                             ·intro G00110
                              apply memo
                              ·intro G00100
                               apply memo
                               ·intro G00010
                                refine wpAnyIn_ready (rs := [3, 4, 8, 9]) (by kernel_rfl) (by simp) ?_
                                refine AllReadyIn.cons rfl (fun KK hK => ?_) ?_
                                ·go_simp
                                 refine hK _ _ ?_
                                 clear hK KK
                                 try simp only [Act.put, List.getElem_toArray, List.getElem_cons_succ, List.getElem_cons_zero, List.setIfInBounds_toArray, List.set_cons_zero, List.set_cons_succ]
                                 exact G10000
                                refine AllReadyIn.cons rfl (fun KK hK => ?_) ?_
                                ·go_simp
                                 refine hK _ _ ?_
                                 clear hK KK
                                 try simp only [Act.put, List.getElem_toArray, List.getElem_cons_succ, List.getElem_cons_zero, List.setIfInBounds_toArray, List.set_cons_zero, List.set_cons_succ]
                                 refine wpAnyIn_take (i := 6) (v := ?_) rfl rfl (by kernel_rfl) (by kernel_rfl) (by kernel_rfl) (fun _ _ _ h => h) ⟨Or.inl ⟨by rfl, ?_⟩, fun _ => rfl⟩ ?_
                                 rotate_left
                                 ·intro wS; go_simp; try with_reducible rfl
                                 try simp only [Act.put, List.getElem_toArray, List.getElem_cons_succ, List.getElem_cons_zero, List.setIfInBounds_toArray, List.set_cons_zero, List.set_cons_succ]
                                 exact G01000
                                refine AllReadyIn.cons rfl (fun KK hK => ?_) ?_
                                ·go_simp
                                 refine hK _ _ ?_
                                 clear hK KK
                                 try simp only [Act.put, List.getElem_toArray, List.getElem_cons_succ, List.getElem_cons_zero, List.setIfInBounds_toArray, List.set_cons_zero, List.set_cons_succ]
                                 exact G00100
                                refine AllReadyIn.cons rfl (fun KK hK => ?_) ?_
                                ·go_simp
                                 refine hK _ _ ?_
                                 clear hK KK
                                 try simp only [Act.put, List.getElem_toArray, List.getElem_cons_succ, List.getElem_cons_zero, List.setIfInBounds_toArray, List.set_cons_zero, List.set_cons_succ]
                                 refine wpAnyIn_take (i := 11) (v := ?_) rfl rfl (by kernel_rfl) (by kernel_rfl) (by kernel_rfl) (fun _ _ _ h => h) ⟨Or.inl ⟨by rfl, ?_⟩, fun _ => rfl⟩ ?_
                                 rotate_left
                                 ·intro wS; go_simp; try with_reducible rfl
                                 try simp only [Act.put, List.getElem_toArray, List.getElem_cons_succ, List.getElem_cons_zero, List.setIfInBounds_toArray, List.set_cons_zero, List.set_cons_succ]
                                 exact G00010
                                exact AllReadyIn.nil
                               ·skip
                                refine wpAnyIn_ready (rs := [3, 4, 8]) (by kernel_rfl) (by simp) ?_
                                refine AllReadyIn.cons rfl (fun KK hK => ?_) ?_
                                ·go_simp
                                 refine hK _ _ ?_
                                 clear hK KK
                                 try simp only [Act.put, List.getElem_toArray, List.getElem_cons_succ, List.getElem_cons_zero, List.setIfInBounds_toArray, List.set_cons_zero, List.set_cons_succ]
                                 exact G10010
                                refine AllReadyIn.cons rfl (fun KK hK => ?_) ?_
                                ·go_simp
                                 refine hK _ _ ?_
                                 clear hK KK
                                 try simp only [Act.put, List.getElem_toArray, List.getElem_cons_succ, List.getElem_cons_zero, List.setIfInBounds_toArray, List.set_cons_zero, List.set_cons_succ]
                                 refine wpAnyIn_take (i := 6) (v := ?_) rfl rfl (by kernel_rfl) (by kernel_rfl) (by kernel_rfl) (fun _ _ _ h => h) ⟨Or.inl ⟨by rfl, ?_⟩, fun _ => rfl⟩ ?_
                                 rotate_left
                                 ·intro wS; go_simp; try with_reducible rfl
                                 try simp only [Act.put, List.getElem_toArray, List.getElem_cons_succ, List.getElem_cons_zero, List.setIfInBounds_toArray, List.set_cons_zero, List.set_cons_succ]
                                 exact G01010
                                refine AllReadyIn.cons rfl (fun KK hK => ?_) ?_
                                ·go_simp
                                 refine hK _ _ ?_
                                 clear hK KK
                                 try simp only [Act.put, List.getElem_toArray, List.getElem_cons_succ, List.getElem_cons_zero, List.setIfInBounds_toArray, List.set_cons_zero, List.set_cons_succ]
                                 refine wpAnyIn_take (i := 12) (v := ?_) rfl rfl (by kernel_rfl) (by kernel_rfl) (by kernel_rfl) (fun _ _ _ h => h) ⟨Or.inl ⟨by rfl, ?_⟩, fun _ => rfl⟩ ?_
                                 rotate_left
                                 ·intro wS; go_simp; try with_reducible rfl
                                 try simp only [Act.put, List.getElem_toArray, List.getElem_cons_succ, List.getElem_cons_zero, List.setIfInBounds_toArray, List.set_cons_zero, List.set_cons_succ]
                                 exact G00110
                                exact AllReadyIn.nil
                              ·skip
                               refine wpAnyIn_ready (rs := [3, 4, 9]) (by kernel_rfl) (by simp) ?_
                               refine AllReadyIn.cons rfl (fun KK hK => ?_) ?_
                               ·go_simp
                                refine hK _ _ ?_
                                clear hK KK
                                try simp only [Act.put, List.getElem_toArray, List.getElem_cons_succ, List.getElem_cons_zero, List.setIfInBounds_toArray, List.set_cons_zero, List.set_cons_succ]
                                exact G10100
                               refine AllReadyIn.cons rfl (fun KK hK => ?_) ?_
                               ·go_simp
                                refine hK _ _ ?_
                                clear hK KK
                                try simp only [Act.put, List.getElem_toArray, List.getElem_cons_succ, List.getElem_cons_zero, List.setIfInBounds_toArray, List.set_cons_zero, List.set_cons_succ]
                                refine wpAnyIn_take (i := 6) (v := ?_) rfl rfl (by kernel_rfl) (by kernel_rfl) (by kernel_rfl) (fun _ _ _ h => h) ⟨Or.inl ⟨by rfl, ?_⟩, fun _ => rfl⟩ ?_
                                rotate_left
                                ·intro wS; go_simp; try with_reducible rfl
                                try simp only [Act.put, List.getElem_toArray, List.getElem_cons_succ, List.getElem_cons_zero, List.setIfInBounds_toArray, List.set_cons_zero, List.set_cons_succ]
                                exact G01100
                               refine AllReadyIn.cons rfl (fun KK hK => ?_) ?_
                               ·go_simp
                                refine hK _ _ ?_
                                clear hK KK
                                try simp only [Act.put, List.getElem_toArray, List.getElem_cons_succ, List.getElem_cons_zero, List.setIfInBounds_toArray, List.set_cons_zero, List.set_cons_succ]
                                refine wpAnyIn_take (i := 11) (v := ?_) rfl rfl (by kernel_rfl) (by kernel_rfl) (by kernel_rfl) (fun _ _ _ h => h) ⟨Or.inl ⟨by rfl, ?_⟩, fun _ => rfl⟩ ?_
                                rotate_left
                                ·intro wS; go_simp; try with_reducible rfl
                                try simp only [Act.put, List.getElem_toArray, List.getElem_cons_succ, List.getElem_cons_zero, List.setIfInBounds_toArray, List.set_cons_zero, List.set_cons_succ]
                                refine wpAnyIn_take (i := 12) (v := ?_) rfl rfl (by kernel_rfl) (by kernel_rfl) (by kernel_rfl) (fun _ _ _ h => h) ⟨Or.inl ⟨by rfl, ?_⟩, fun _ => rfl⟩ ?_
                                rotate_left
                                ·intro wS; go_simp; try with_reducible rfl
                                try simp only [Act.put, List.getElem_toArray, List.getElem_cons_succ, List.getElem_cons_zero, List.setIfInBounds_toArray, List.set_cons_zero, List.set_cons_succ]
                                exact G00110
                               exact AllReadyIn.nil
                             ·skip
                              refine wpAnyIn_ready (rs := [3, 4, 13]) (by kernel_rfl) (by simp) ?_
                              refine AllReadyIn.cons rfl (fun KK hK => ?_) ?_
                              ·go_simp
                               refine hK _ _ ?_
                               clear hK KK
                               try simp only [Act.put, List.getElem_toArray, List.getElem_cons_succ, List.getElem_cons_zero, List.setIfInBounds_toArray, List.set_cons_zero, List.set_cons_succ]
                               exact G10110
                              refine AllReadyIn.cons rfl (fun KK hK => ?_) ?_
                              ·go_simp
                               refine hK _ _ ?_
                               clear hK KK
                               try simp only [Act.put, List.getElem_toArray, List.getElem_cons_succ, List.getElem_cons_zero, List.setIfInBounds_toArray, List.set_cons_zero, List.set_cons_succ]
                               refine wpAnyIn_take (i := 6) (v := ?_) rfl rfl (by kernel_rfl) (by kernel_rfl) (by kernel_rfl) (fun _ _ _ h => h) ⟨Or.inl ⟨by rfl, ?_⟩, fun _ => rfl⟩ ?_
                               rotate_left
                               ·intro wS; go_simp; try with_reducible rfl
                               try simp only [Act.put, List.getElem_toArray, List.getElem_cons_succ, List.getElem_cons_zero, List.setIfInBounds_toArray, List.set_cons_zero, List.set_cons_succ]
                               exact G01110
                              refine AllReadyIn.cons rfl (fun KK hK => ?_) ?_
                              ·go_simp
                               refine hK _ _ ?_
                               clear hK KK
                               try simp only [Act.put, List.getElem_toArray, List.getElem_cons_succ, List.getElem_cons_zero, List.setIfInBounds_toArray, List.set_cons_zero, List.set_cons_succ]
                               exact G00111
                              exact AllReadyIn.nil
                            ·skip
                             refine wpAnyIn_ready (rs := [3, 4]) (by kernel_rfl) (by simp) ?_
                             refine AllReadyIn.cons rfl (fun KK hK => ?_) ?_
                             ·go_simp
                              refine hK _ _ ?_
                              clear hK KK
                              try simp only [Act.put, List.getElem_toArray, List.getElem_cons_succ, List.getElem_cons_zero, List.setIfInBounds_toArray, List.set_cons_zero, List.set_cons_succ]
                              exact G10111
                             refine AllReadyIn.cons rfl (fun KK hK => ?_) ?_
                             ·go_simp
                              refine hK _ _ ?_
                              clear hK KK
                              try simp only [Act.put, List.getElem_toArray, List.getElem_cons_succ, List.getElem_cons_zero, List.setIfInBounds_toArray, List.set_cons_zero, List.set_cons_succ]
                              refine wpAnyIn_take (i := 6) (v := ?_) rfl rfl (by kernel_rfl) (by kernel_rfl) (by kernel_rfl) (fun _ _ _ h => h) ⟨Or.inl ⟨by rfl, ?_⟩, fun _ => rfl⟩ ?_
                              rotate_left
                              ·intro wS; go_simp; try with_reducible rfl
                              try simp only [Act.put, List.getElem_toArray, List.getElem_cons_succ, List.getElem_cons_zero, List.setIfInBounds_toArray, List.set_cons_zero, List.set_cons_succ]
                              exact G01111
                             exact AllReadyIn.nil
                           ·skip
                            refine wpAnyIn_ready (rs := [3, 7, 8, 9]) (by kernel_rfl) (by simp) ?_
                            refine AllReadyIn.cons rfl (fun KK hK => ?_) ?_
                            ·go_simp
                             refine hK _ _ ?_
                             clear hK KK
                             try simp only [Act.put, List.getElem_toArray, List.getElem_cons_succ, List.getElem_cons_zero, List.setIfInBounds_toArray, List.set_cons_zero, List.set_cons_succ]
                             exact G11000
                            refine AllReadyIn.cons rfl (fun KK hK => ?_) ?_
                            ·go_simp
                             refine hK _ _ ?_
                             clear hK KK
                             try simp only [Act.put, List.getElem_toArray, List.getElem_cons_succ, List.getElem_cons_zero, List.setIfInBounds_toArray, List.set_cons_zero, List.set_cons_succ]
                             exact G02000
                            refine AllReadyIn.cons rfl (fun KK hK => ?_) ?_
                            ·go_simp
                             refine hK _ _ ?_
                             clear hK KK
                             try simp only [Act.put, List.getElem_toArray, List.getElem_cons_succ, List.getElem_cons_zero, List.setIfInBounds_toArray, List.set_cons_zero, List.set_cons_succ]
                             exact G01100
                            refine AllReadyIn.cons rfl (fun KK hK => ?_) ?_
                            ·go_simp
                             refine hK _ _ ?_
                             clear hK KK
                             try simp only [Act.put, List.getElem_toArray, List.getElem_cons_succ, List.getElem_cons_zero, List.setIfInBounds_toArray, List.set_cons_zero, List.set_cons_succ]
                             refine wpAnyIn_take (i := 11) (v := ?_) rfl rfl (by kernel_rfl) (by kernel_rfl) (by kernel_rfl) (fun _ _ _ h => h) ⟨Or.inl ⟨by rfl, ?_⟩, fun _ => rfl⟩ ?_
                             rotate_left
                             ·intro wS; go_simp; try with_reducible rfl
                             try simp only [Act.put, List.getElem_toArray, List.getElem_cons_succ, List.getElem_cons_zero, List.setIfInBounds_toArray, List.set_cons_zero, List.set_cons_succ]
                             exact G01010
                            exact AllReadyIn.nil
                          ·skip
                           refine wpAnyIn_ready (rs := [3, 7, 8]) (by kernel_rfl) (by simp) ?_
                           refine AllReadyIn.cons rfl (fun KK hK => ?_) ?_
                           ·go_simp
                            refine hK _ _ ?_
                            clear hK KK
                            try simp only [Act.put, List.getElem_toArray, List.getElem_cons_succ, List.getElem_cons_zero, List.setIfInBounds_toArray, List.set_cons_zero, List.set_cons_succ]
                            exact G11010
                           refine AllReadyIn.cons rfl (fun KK hK => ?_) ?_
                           ·go_simp
                            refine hK _ _ ?_
                            clear hK KK
                            try simp only [Act.put, List.getElem_toArray, List.getElem_cons_succ, List.getElem_cons_zero, List.setIfInBounds_toArray, List.set_cons_zero, List.set_cons_succ]
                            exact G02010
                           refine AllReadyIn.cons rfl (fun KK hK => ?_) ?_
                           ·go_simp
                            refine hK _ _ ?_
                            clear hK KK
                            try simp only [Act.put, List.getElem_toArray, List.getElem_cons_succ, List.getElem_cons_zero, List.setIfInBounds_toArray, List.set_cons_zero, List.set_cons_succ]
                            refine wpAnyIn_take (i := 12) (v := ?_) rfl rfl (by kernel_rfl) (by kernel_rfl) (by kernel_rfl) (fun _ _ _ h => h) ⟨Or.inl ⟨by rfl, ?_⟩, fun _ => rfl⟩ ?_
                            rotate_left
                            ·intro wS; go_simp; try with_reducible rfl
                            try simp only [Act.put, List.getElem_toArray, List.getElem_cons_succ, List.getElem_cons_zero, List.setIfInBounds_toArray, List.set_cons_zero, List.set_cons_succ]
                            exact G01110
                           exact AllReadyIn.nil
                         ·skip
                          refine wpAnyIn_ready (rs := [3, 7, 9]) (by kernel_rfl) (by simp) ?_
                          refine AllReadyIn.cons rfl (fun KK hK => ?_) ?_
                          ·go_simp
                           refine hK _ _ ?_
                           clear hK KK
                           try simp only [Act.put, List.getElem_toArray, List.getElem_cons_succ, List.getElem_cons_zero, List.setIfInBounds_toArray, List.set_cons_zero, List.set_cons_succ]
                           exact G11100
                          refine AllReadyIn.cons rfl (fun KK hK => ?_) ?_
                          ·go_simp
                           refine hK _ _ ?_
                           clear hK KK
                           try simp only [Act.put, List.getElem_toArray, List.getElem_cons_succ, List.getElem_cons_zero, List.setIfInBounds_toArray, List.set_cons_zero, List.set_cons_succ]
                           exact G02100
                          refine AllReadyIn.cons rfl (fun KK hK => ?_) ?_
                          ·go_simp
                           refine hK _ _ ?_
                           clear hK KK
                           try simp only [Act.put, List.getElem_toArray, List.getElem_cons_succ, List.getElem_cons_zero, List.setIfInBounds_toArray, List.set_cons_zero, List.set_cons_succ]
                           refine wpAnyIn_take (i := 11) (v := ?_) rfl rfl (by kernel_rfl) (by kernel_rfl) (by kernel_rfl) (fun _ _ _ h => h) ⟨Or.inl ⟨by rfl, ?_⟩, fun _ => rfl⟩ ?_
                           rotate_left
                           ·intro wS; go_simp; try with_reducible rfl
                           try simp only [Act.put, List.getElem_toArray, List.getElem_cons_succ, List.getElem_cons_zero, List.setIfInBounds_toArray, List.set_cons_zero, List.set_cons_succ]
                           refine wpAnyIn_take (i := 12) (v := ?_) rfl rfl (by kernel_rfl) (by kernel_rfl) (by kernel_rfl) (fun _ _ _ h => h) ⟨Or.inl ⟨by rfl, ?_⟩, fun _ => rfl⟩ ?_
                           rotate_left
                           ·intro wS; go_simp; try with_reducible rfl
                           try simp only [Act.put, List.getElem_toArray, List.getElem_cons_succ, List.getElem_cons_zero, List.setIfInBounds_toArray, List.set_cons_zero, List.set_cons_succ]
                           exact G01110
                          exact AllReadyIn.nil
                        ·skip
                         refine wpAnyIn_ready (rs := [3, 7, 13]) (by kernel_rfl) (by simp) ?_
                         refine AllReadyIn.cons rfl (fun KK hK => ?_) ?_
                         ·go_simp
                          refine hK _ _ ?_
                          clear hK KK
                          try simp only [Act.put, List.getElem_toArray, List.getElem_cons_succ, List.getElem_cons_zero, List.setIfInBounds_toArray, List.set_cons_zero, List.set_cons_succ]
                          exact G11110
                         refine AllReadyIn.cons rfl (fun KK hK => ?_) ?_
                         ·go_simp
                          refine hK _ _ ?_
                          clear hK KK
                          try simp only [Act.put, List.getElem_toArray, List.getElem_cons_succ, List.getElem_cons_zero, List.setIfInBounds_toArray, List.set_cons_zero, List.set_cons_succ]
                          exact G02110
                         refine AllReadyIn.cons rfl (fun KK hK => ?_) ?_
                         ·go_simp
                          refine hK _ _ ?_
                          clear hK KK
                          try simp only [Act.put, List.getElem_toArray, List.getElem_cons_succ, List.getElem_cons_zero, List.setIfInBounds_toArray, List.set_cons_zero, List.set_cons_succ]
                          exact G01111
                         exact AllReadyIn.nil
                       ·skip
                        refine wpAnyIn_ready (rs := [3, 7]) (by kernel_rfl) (by simp) ?_
                        refine AllReadyIn.cons rfl (fun KK hK => ?_) ?_
                        ·go_simp
                         refine hK _ _ ?_
                         clear hK KK
                         try simp only [Act.put, List.getElem_toArray, List.getElem_cons_succ, List.getElem_cons_zero, List.setIfInBounds_toArray, List.set_cons_zero, List.set_cons_succ]
                         exact G11111
                        refine AllReadyIn.cons rfl (fun KK hK => ?_) ?_
                        ·go_simp
                         refine hK _ _ ?_
                         clear hK KK
                         try simp only [Act.put, List.getElem_toArray, List.getElem_cons_succ, List.getElem_cons_zero, List.setIfInBounds_toArray, List.set_cons_zero, List.set_cons_succ]
                         exact G02111
                        exact AllReadyIn.nil
                      ·skip
                       refine wpAnyIn_ready (rs := [3, 8, 9]) (by kernel_rfl) (by simp) ?_
                       refine AllReadyIn.cons rfl (fun KK hK => ?_) ?_
                       ·go_simp
                        refine hK _ _ ?_
                        clear hK KK
                        try simp only [Act.put, List.getElem_toArray, List.getElem_cons_succ, List.getElem_cons_zero, List.setIfInBounds_toArray, List.set_cons_zero, List.set_cons_succ]
                        exact G12000
                       refine AllReadyIn.cons rfl (fun KK hK => ?_) ?_
                       ·go_simp
                        refine hK _ _ ?_
                        clear hK KK
                        try simp only [Act.put, List.getElem_toArray, List.getElem_cons_succ, List.getElem_cons_zero, List.setIfInBounds_toArray, List.set_cons_zero, List.set_cons_succ]
                        exact G02100
                       refine AllReadyIn.cons rfl (fun KK hK => ?_) ?_
                       ·go_simp
                        refine hK _ _ ?_
                        clear hK KK
                        try simp only [Act.put, List.getElem_toArray, List.getElem_cons_succ, List.getElem_cons_zero, List.setIfInBounds_toArray, List.set_cons_zero, List.set_cons_succ]
                        refine wpAnyIn_take (i := 11) (v := ?_) rfl rfl (by kernel_rfl) (by kernel_rfl) (by kernel_rfl) (fun _ _ _ h => h) ⟨Or.inl ⟨by rfl, ?_⟩, fun _ => rfl⟩ ?_
                        rotate_left
                        ·intro wS; go_simp; try with_reducible rfl
                        try simp only [Act.put, List.getElem_toArray, List.getElem_cons_succ, List.getElem_cons_zero, List.setIfInBounds_toArray, List.set_cons_zero, List.set_cons_succ]
                        exact G02010
                       exact AllReadyIn.nil
                     ·skip
                      refine wpAnyIn_ready (rs := [3, 8]) (by kernel_rfl) (by simp) ?_
                      refine AllReadyIn.cons rfl (fun KK hK => ?_) ?_
                      ·go_simp
                       refine hK _ _ ?_
                       clear hK KK
                       try simp only [Act.put, List.getElem_toArray, List.getElem_cons_succ, List.getElem_cons_zero, List.setIfInBounds_toArray, List.set_cons_zero, List.set_cons_succ]
                       exact G12010
                      refine AllReadyIn.cons rfl (fun KK hK => ?_) ?_
                      ·go_simp
                       refine hK _ _ ?_
                       clear hK KK
                       try simp only [Act.put, List.getElem_toArray, List.getElem_cons_succ, List.getElem_cons_zero, List.setIfInBounds_toArray, List.set_cons_zero, List.set_cons_succ]
                       refine wpAnyIn_take (i := 12) (v := ?_) rfl rfl (by kernel_rfl) (by kernel_rfl) (by kernel_rfl) (fun _ _ _ h => h) ⟨Or.inl ⟨by rfl, ?_⟩, fun _ => rfl⟩ ?_
                       rotate_left
                       ·intro wS; go_simp; try with_reducible rfl
                       try simp only [Act.put, List.getElem_toArray, List.getElem_cons_succ, List.getElem_cons_zero, List.setIfInBounds_toArray, List.set_cons_zero, List.set_cons_succ]
                       exact G02110
                      exact AllReadyIn.nil
                    ·skip
                     refine wpAnyIn_ready (rs := [3, 9]) (by kernel_rfl) (by simp) ?_
                     refine AllReadyIn.cons rfl (fun KK hK => ?_) ?_
                     ·go_simp
                      refine hK _ _ ?_
                      clear hK KK
                      try simp only [Act.put, List.getElem_toArray, List.getElem_cons_succ, List.getElem_cons_zero, List.setIfInBounds_toArray, List.set_cons_zero, List.set_cons_succ]
                      exact G12100
                     refine AllReadyIn.cons rfl (fun KK hK => ?_) ?_
                     ·go_simp
                      refine hK _ _ ?_
                      clear hK KK
                      try simp only [Act.put, List.getElem_toArray, List.getElem_cons_succ, List.getElem_cons_zero, List.setIfInBounds_toArray, List.set_cons_zero, List.set_cons_succ]
                      refine wpAnyIn_take (i := 11) (v := ?_) rfl rfl (by kernel_rfl) (by kernel_rfl) (by kernel_rfl) (fun _ _ _ h => h) ⟨Or.inl ⟨by rfl, ?_⟩, fun _ => rfl⟩ ?_
                      rotate_left
                      ·intro wS; go_simp; try with_reducible rfl
                      try simp only [Act.put, List.getElem_toArray, List.getElem_cons_succ, List.getElem_cons_zero, List.setIfInBounds_toArray, List.set_cons_zero, List.set_cons_succ]
                      refine wpAnyIn_take (i := 12) (v := ?_) rfl rfl (by kernel_rfl) (by kernel_rfl) (by kernel_rfl) (fun _ _ _ h => h) ⟨Or.inl ⟨by rfl, ?_⟩, fun _ => rfl⟩ ?_
                      rotate_left
                      ·intro wS; go_simp; try with_reducible rfl
                      try simp only [Act.put, List.getElem_toArray, List.getElem_cons_succ, List.getElem_cons_zero, List.setIfInBounds_toArray, List.set_cons_zero, List.set_cons_succ]
                      exact G02110
                     exact AllReadyIn.nil
                   ·skip
                    refine wpAnyIn_ready (rs := [3, 13]) (by kernel_rfl) (by simp) ?_
                    refine AllReadyIn.cons rfl (fun KK hK => ?_) ?_
                    ·go_simp
                     refine hK _ _ ?_
                     clear hK KK
                     try simp only [Act.put, List.getElem_toArray, List.getElem_cons_succ, List.getElem_cons_zero, List.setIfInBounds_toArray, List.set_cons_zero, List.set_cons_succ]
                     exact G12110
                    refine AllReadyIn.cons rfl (fun KK hK => ?_) ?_
                    ·go_simp
                     refine hK _ _ ?_
                     clear hK KK
                     try simp only [Act.put, List.getElem_toArray, List.getElem_cons_succ, List.getElem_cons_zero, List.setIfInBounds_toArray, List.set_cons_zero, List.set_cons_succ]
                     exact G02111
                    exact AllReadyIn.nil
                  ·skip
                   refine wpAnyIn_ready (rs := [3]) (by kernel_rfl) (by simp) ?_
                   refine AllReadyIn.cons rfl (fun KK hK => ?_) ?_
                   ·go_simp
                    refine hK _ _ ?_
                    clear hK KK
                    try simp only [Act.put, List.getElem_toArray, List.getElem_cons_succ, List.getElem_cons_zero, List.setIfInBounds_toArray, List.set_cons_zero, List.set_cons_succ]
                    exact G12111
                   exact AllReadyIn.nil
                 ·skip
                  refine wpAnyIn_ready (rs := [4, 8, 9]) (by kernel_rfl) (by simp) ?_
                  refine AllReadyIn.cons rfl (fun KK hK => ?_) ?_
                  ·go_simp
                   refine hK _ _ ?_
                   clear hK KK
                   try simp only [Act.put, List.getElem_toArray, List.getElem_cons_succ, List.getElem_cons_zero, List.setIfInBounds_toArray, List.set_cons_zero, List.set_cons_succ]
                   refine wpAnyIn_take (i := 6) (v := ?_) rfl rfl (by kernel_rfl) (by kernel_rfl) (by kernel_rfl) (fun _ _ _ h => h) ⟨Or.inl ⟨by rfl, ?_⟩, fun _ => rfl⟩ ?_
                   rotate_left
                   ·intro wS; go_simp; try with_reducible rfl
                   try simp only [Act.put, List.getElem_toArray, List.getElem_cons_succ, List.getElem_cons_zero, List.setIfInBounds_toArray, List.set_cons_zero, List.set_cons_succ]
                   exact G11000
                  refine AllReadyIn.cons rfl (fun KK hK => ?_) ?_
                  ·go_simp
                   refine hK _ _ ?_
                   clear hK KK
                   try simp only [Act.put, List.getElem_toArray, List.getElem_cons_succ, List.getElem_cons_zero, List.setIfInBounds_toArray, List.set_cons_zero, List.set_cons_succ]
                   exact G10100
                  refine AllReadyIn.cons rfl (fun KK hK => ?_) ?_
                  ·go_simp
                   refine hK _ _ ?_
                   clear hK KK
                   try simp only [Act.put, List.getElem_toArray, List.getElem_cons_succ, List.getElem_cons_zero, List.setIfInBounds_toArray, List.set_cons_zero, List.set_cons_succ]
                   refine wpAnyIn_take (i := 11) (v := ?_) rfl rfl (by kernel_rfl) (by kernel_rfl) (by kernel_rfl) (fun _ _ _ h => h) ⟨Or.inl ⟨by rfl, ?_⟩, fun _ => rfl⟩ ?_
                   rotate_left
                   ·intro wS; go_simp; try with_reducible rfl
                   try simp only [Act.put, List.getElem_toArray, List.getElem_cons_succ, List.getElem_cons_zero, List.setIfInBounds_toArray, List.set_cons_zero, List.set_cons_succ]
                   exact G10010
                  exact AllReadyIn.nil
                ·skip
                 refine wpAnyIn_ready (rs := [4, 8]) (by kernel_rfl) (by simp) ?_
                 refine AllReadyIn.cons rfl (fun KK hK => ?_) ?_
                 ·go_simp
                  refine hK _ _ ?_
                  clear hK KK
                  try simp only [Act.put, List.getElem_toArray, List.getElem_cons_succ, List.getElem_cons_zero, List.setIfInBounds_toArray, List.set_cons_zero, List.set_cons_succ]
                  refine wpAnyIn_take (i := 6) (v := ?_) rfl rfl (by kernel_rfl) (by kernel_rfl) (by kernel_rfl) (fun _ _ _ h => h) ⟨Or.inl ⟨by rfl, ?_⟩, fun _ => rfl⟩ ?_
                  rotate_left
                  ·intro wS; go_simp; try with_reducible rfl
                  try simp only [Act.put, List.getElem_toArray, List.getElem_cons_succ, List.getElem_cons_zero, List.setIfInBounds_toArray, List.set_cons_zero, List.set_cons_succ]
                  exact G11010
                 refine AllReadyIn.cons rfl (fun KK hK => ?_) ?_
                 ·go_simp
                  refine hK _ _ ?_
                  clear hK KK
                  try simp only [Act.put, List.getElem_toArray, List.getElem_cons_succ, List.getElem_cons_zero, List.setIfInBounds_toArray, List.set_cons_zero, List.set_cons_succ]
                  refine wpAnyIn_take (i := 12) (v := ?_) rfl rfl (by kernel_rfl) (by kernel_rfl) (by kernel_rfl) (fun _ _ _ h => h) ⟨Or.inl ⟨by rfl, ?_⟩, fun _ => rfl⟩ ?_
                  rotate_left
                  ·intro wS; go_simp; try with_reducible rfl
                  try simp only [Act.put, List.getElem_toArray, List.getElem_cons_succ, List.getElem_cons_zero, List.setIfInBounds_toArray, List.set_cons_zero, List.set_cons_succ]
                  exact G10110
                 exact AllReadyIn.nil
               ·skip
                refine wpAnyIn_ready (rs := [4, 9]) (by kernel_rfl) (by simp) ?_
                refine AllReadyIn.cons rfl (fun KK hK => ?_) ?_
                ·go_simp
                 refine hK _ _ ?_
                 clear hK KK
                 try simp only [Act.put, List.getElem_toArray, List.getElem_cons_succ, List.getElem_cons_zero, List.setIfInBounds_toArray, List.set_cons_zero, List.set_cons_succ]
                 refine wpAnyIn_take (i := 6) (v := ?_) rfl rfl (by kernel_rfl) (by kernel_rfl) (by kernel_rfl) (fun _ _ _ h => h) ⟨Or.inl ⟨by rfl, ?_⟩, fun _ => rfl⟩ ?_
                 rotate_left
                 ·intro wS; go_simp; try with_reducible rfl
                 try simp only [Act.put, List.getElem_toArray, List.getElem_cons_succ, List.getElem_cons_zero, List.setIfInBounds_toArray, List.set_cons_zero, List.set_cons_succ]
                 exact G11100
                refine AllReadyIn.cons rfl (fun KK hK => ?_) ?_
                ·go_simp
                 refine hK _ _ ?_
                 clear hK KK
                 try simp only [Act.put, List.getElem_toArray, List.getElem_cons_succ, List.getElem_cons_zero, List.setIfInBounds_toArray, List.set_cons_zero, List.set_cons_succ]
                 refine wpAnyIn_take (i := 11) (v := ?_) rfl rfl (by kernel_rfl) (by kernel_rfl) (by kernel_rfl) (fun _ _ _ h => h) ⟨Or.inl ⟨by rfl, ?_⟩, fun _ => rfl⟩ ?_
                 rotate_left
                 ·intro wS; go_simp; try with_reducible rfl
                 try simp only [Act.put, List.getElem_toArray, List.getElem_cons_succ, List.getElem_cons_zero, List.setIfInBounds_toArray, List.set_cons_zero, List.set_cons_succ]
                 refine wpAnyIn_take (i := 12) (v := ?_) rfl rfl (by kernel_rfl) (by kernel_rfl) (by kernel_rfl) (fun _ _ _ h => h) ⟨Or.inl ⟨by rfl, ?_⟩, fun _ => rfl⟩ ?_
                 rotate_left
                 ·intro wS; go_simp; try with_reducible rfl
                 try simp only [Act.put, List.getElem_toArray, List.getElem_cons_succ, List.getElem_cons_zero, List.setIfInBounds_toArray, List.set_cons_zero, List.set_cons_succ]
                 exact G10110
                exact AllReadyIn.nil
              ·skip
               refine wpAnyIn_ready (rs := [4, 13]) (by kernel_rfl) (by simp) ?_
               refine AllReadyIn.cons rfl (fun KK hK => ?_) ?_
               ·go_simp
                refine hK _ _ ?_
                clear hK KK
                try simp only [Act.put, List.getElem_toArray, List.getElem_cons_succ, List.getElem_cons_zero, List.setIfInBounds_toArray, List.set_cons_zero, List.set_cons_succ]
                refine wpAnyIn_take (i := 6) (v := ?_) rfl rfl (by kernel_rfl) (by kernel_rfl) (by kernel_rfl) (fun _ _ _ h => h) ⟨Or.inl ⟨by rfl, ?_⟩, fun _ => rfl⟩ ?_
                rotate_left
                ·intro wS; go_simp; try with_reducible rfl
                try simp only [Act.put, List.getElem_toArray, List.getElem_cons_succ, List.getElem_cons_zero, List.setIfInBounds_toArray, List.set_cons_zero, List.set_cons_succ]
                exact G11110
               refine AllReadyIn.cons rfl (fun KK hK => ?_) ?_
               ·go_simp
                refine hK _ _ ?_
                clear hK KK
                try simp only [Act.put, List.getElem_toArray, List.getElem_cons_succ, List.getElem_cons_zero, List.setIfInBounds_toArray, List.set_cons_zero, List.set_cons_succ]
                exact G10111
               exact AllReadyIn.nil
             ·skip
              refine wpAnyIn_ready (rs := [4]) (by kernel_rfl) (by simp) ?_
              refine AllReadyIn.cons rfl (fun KK hK => ?_) ?_
              ·go_simp
               refine hK _ _ ?_
               clear hK KK
               try simp only [Act.put, List.getElem_toArray, List.getElem_cons_succ, List.getElem_cons_zero, List.setIfInBounds_toArray, List.set_cons_zero, List.set_cons_succ]
               refine wpAnyIn_take (i := 6) (v := ?_) rfl rfl (by kernel_rfl) (by kernel_rfl) (by kernel_rfl) (fun _ _ _ h => h) ⟨Or.inl ⟨by rfl, ?_⟩, fun _ => rfl⟩ ?_
               rotate_left
               ·intro wS; go_simp; try with_reducible rfl
               try simp only [Act.put, List.getElem_toArray, List.getElem_cons_succ, List.getElem_cons_zero, List.setIfInBounds_toArray, List.set_cons_zero, List.set_cons_succ]
               exact G11111
              exact AllReadyIn.nil
            ·skip
             refine wpAnyIn_ready (rs := [7, 8, 9]) (by kernel_rfl) (by simp) ?_
             refine AllReadyIn.cons rfl (fun KK hK => ?_) ?_
             ·go_simp
              refine hK _ _ ?_
              clear hK KK
              try simp only [Act.put, List.getElem_toArray, List.getElem_cons_succ, List.getElem_cons_zero, List.setIfInBounds_toArray, List.set_cons_zero, List.set_cons_succ]
              exact G12000
             refine AllReadyIn.cons rfl (fun KK hK => ?_) ?_
             ·go_simp
              refine hK _ _ ?_
              clear hK KK
              try simp only [Act.put, List.getElem_toArray, List.getElem_cons_succ, List.getElem_cons_zero, List.setIfInBounds_toArray, List.set_cons_zero, List.set_cons_succ]
              exact G11100
             refine AllReadyIn.cons rfl (fun KK hK => ?_) ?_
             ·go_simp
              refine hK _ _ ?_
              clear hK KK
              try simp only [Act.put, List.getElem_toArray, List.getElem_cons_succ, List.getElem_cons_zero, List.setIfInBounds_toArray, List.set_cons_zero, List.set_cons_succ]
              refine wpAnyIn_take (i := 11) (v := ?_) rfl rfl (by kernel_rfl) (by kernel_rfl) (by kernel_rfl) (fun _ _ _ h => h) ⟨Or.inl ⟨by rfl, ?_⟩, fun _ => rfl⟩ ?_
              rotate_left
              ·intro wS; go_simp; try with_reducible rfl
              try simp only [Act.put, List.getElem_toArray, List.getElem_cons_succ, List.getElem_cons_zero, List.setIfInBounds_toArray, List.set_cons_zero, List.set_cons_succ]
              exact G11010
             exact AllReadyIn.nil
           ·skip
            refine wpAnyIn_ready (rs := [7, 8]) (by kernel_rfl) (by simp) ?_
            refine AllReadyIn.cons rfl (fun KK hK => ?_) ?_
            ·go_simp
             refine hK _ _ ?_
             clear hK KK
             try simp only [Act.put, List.getElem_toArray, List.getElem_cons_succ, List.getElem_cons_zero, List.setIfInBounds_toArray, List.set_cons_zero, List.set_cons_succ]
             exact G12010
            refine AllReadyIn.cons rfl (fun KK hK => ?_) ?_
            ·go_simp
             refine hK _ _ ?_
             clear hK KK
             try simp only [Act.put, List.getElem_toArray, List.getElem_cons_succ, List.getElem_cons_zero, List.setIfInBounds_toArray, List.set_cons_zero, List.set_cons_succ]
             refine wpAnyIn_take (i := 12) (v := ?_) rfl rfl (by kernel_rfl) (by kernel_rfl) (by kernel_rfl) (fun _ _ _ h => h) ⟨Or.inl ⟨by rfl, ?_⟩, fun _ => rfl⟩ ?_
             rotate_left
             ·intro wS; go_simp; try with_reducible rfl
             try simp only [Act.put, List.getElem_toArray, List.getElem_cons_succ, List.getElem_cons_zero, List.setIfInBounds_toArray, List.set_cons_zero, List.set_cons_succ]
             exact G11110
            exact AllReadyIn.nil
          ·skip
           refine wpAnyIn_ready (rs := [7, 9]) (by kernel_rfl) (by simp) ?_
           refine AllReadyIn.cons rfl (fun KK hK => ?_) ?_
           ·go_simp
            refine hK _ _ ?_
            clear hK KK
            try simp only [Act.put, List.getElem_toArray, List.getElem_cons_succ, List.getElem_cons_zero, List.setIfInBounds_toArray, List.set_cons_zero, List.set_cons_succ]
            exact G12100
           refine AllReadyIn.cons rfl (fun KK hK => ?_) ?_
           ·go_simp
            refine hK _ _ ?_
            clear hK KK
            try simp only [Act.put, List.getElem_toArray, List.getElem_cons_succ, List.getElem_cons_zero, List.setIfInBounds_toArray, List.set_cons_zero, List.set_cons_succ]
            refine wpAnyIn_take (i := 11) (v := ?_) rfl rfl (by kernel_rfl) (by kernel_rfl) (by kernel_rfl) (fun _ _ _ h => h) ⟨Or.inl ⟨by rfl, ?_⟩, fun _ => rfl⟩ ?_
            rotate_left
            ·intro wS; go_simp; try with_reducible rfl
            try simp only [Act.put, List.getElem_toArray, List.getElem_cons_succ, List.getElem_cons_zero, List.setIfInBounds_toArray, List.set_cons_zero, List.set_cons_succ]
            refine wpAnyIn_take (i := 12) (v := ?_) rfl rfl (by kernel_rfl) (by kernel_rfl) (by kernel_rfl) (fun _ _ _ h => h) ⟨Or.inl ⟨by rfl, ?_⟩, fun _ => rfl⟩ ?_
            rotate_left
            ·intro wS; go_simp; try with_reducible rfl
            try simp only [Act.put, List.getElem_toArray, List.getElem_cons_succ, List.getElem_cons_zero, List.setIfInBounds_toArray, List.set_cons_zero, List.set_cons_succ]
            exact G11110
           exact AllReadyIn.nil
         ·skip
          refine wpAnyIn_ready (rs := [7, 13]) (by kernel_rfl) (by simp) ?_
          refine AllReadyIn.cons rfl (fun KK hK => ?_) ?_
          ·go_simp
           refine hK _ _ ?_
           clear hK KK
           try simp only [Act.put, List.getElem_toArray, List.getElem_cons_succ, List.getElem_cons_zero, List.setIfInBounds_toArray, List.set_cons_zero, List.set_cons_succ]
           exact G12110
          refine AllReadyIn.cons rfl (fun KK hK => ?_) ?_
          ·go_simp
           refine hK _ _ ?_
           clear hK KK
           try simp only [Act.put, List.getElem_toArray, List.getElem_cons_succ, List.getElem_cons_zero, List.setIfInBounds_toArray, List.set_cons_zero, List.set_cons_succ]
           exact G11111
          exact AllReadyIn.nil
        ·skip
         refine wpAnyIn_ready (rs := [7]) (by kernel_rfl) (by simp) ?_
         refine AllReadyIn.cons rfl (fun KK hK => ?_) ?_
         ·go_simp
          refine hK _ _ ?_
          clear hK KK
          try simp only [Act.put, List.getElem_toArray, List.getElem_cons_succ, List.getElem_cons_zero, List.setIfInBounds_toArray, List.set_cons_zero, List.set_cons_succ]
          exact G12111
         exact AllReadyIn.nil
       ·skip
        refine wpAnyIn_ready (rs := [8, 9]) (by kernel_rfl) (by simp) ?_
        refine AllReadyIn.cons rfl (fun KK hK => ?_) ?_
        ·go_simp
         refine hK _ _ ?_
         clear hK KK
         try simp only [Act.put, List.getElem_toArray, List.getElem_cons_succ, List.getElem_cons_zero, List.setIfInBounds_toArray, List.set_cons_zero, List.set_cons_succ]
         exact G12100
        refine AllReadyIn.cons rfl (fun KK hK => ?_) ?_
        ·go_simp
         refine hK _ _ ?_
         clear hK KK
         try simp only [Act.put, List.getElem_toArray, List.getElem_cons_succ, List.getElem_cons_zero, List.setIfInBounds_toArray, List.set_cons_zero, List.set_cons_succ]
         refine wpAnyIn_take (i := 11) (v := ?_) rfl rfl (by kernel_rfl) (by kernel_rfl) (by kernel_rfl) (fun _ _ _ h => h) ⟨Or.inl ⟨by rfl, ?_⟩, fun _ => rfl⟩ ?_
         rotate_left
         ·intro wS; go_simp; try with_reducible rfl
         try simp only [Act.put, List.getElem_toArray, List.getElem_cons_succ, List.getElem_cons_zero, List.setIfInBounds_toArray, List.set_cons_zero, List.set_cons_succ]
         exact G12010
        exact AllReadyIn.nil
      ·skip
       refine wpAnyIn_ready (rs := [8]) (by kernel_rfl) (by simp) ?_
       refine AllReadyIn.cons rfl (fun KK hK => ?_) ?_
       ·go_simp
        refine hK _ _ ?_
        clear hK KK
        try simp only [Act.put, List.getElem_toArray, List.getElem_cons_succ, List.getElem_cons_zero, List.setIfInBounds_toArray, List.set_cons_zero, List.set_cons_succ]
        refine wpAnyIn_take (i := 12) (v := ?_) rfl rfl (by kernel_rfl) (by kernel_rfl) (by kernel_rfl) (fun _ _ _ h => h) ⟨Or.inl ⟨by rfl, ?_⟩, fun _ => rfl⟩ ?_
        rotate_left
        ·intro wS; go_simp; try with_reducible rfl
        try simp only [Act.put, List.getElem_toArray, List.getElem_cons_succ, List.getElem_cons_zero, List.setIfInBounds_toArray, List.set_cons_zero, List.set_cons_succ]
        exact G12110
       exact AllReadyIn.nil
     ·skip
      refine wpAnyIn_ready (rs := [9]) (by kernel_rfl) (by simp) ?_
      refine AllReadyIn.cons rfl (fun KK hK => ?_) ?_
      ·go_simp
       refine hK _ _ ?_
       clear hK KK
       try simp only [Act.put, List.getElem_toArray, List.getElem_cons_succ, List.getElem_cons_zero, List.setIfInBounds_toArray, List.set_cons_zero, List.set_cons_succ]
       refine wpAnyIn_take (i := 11) (v := ?_) rfl rfl (by kernel_rfl) (by kernel_rfl) (by kernel_rfl) (fun _ _ _ h => h) ⟨Or.inl ⟨by rfl, ?_⟩, fun _ => rfl⟩ ?_
       rotate_left
       ·intro wS; go_simp; try with_reducible rfl
       try simp only [Act.put, List.getElem_toArray, List.getElem_cons_succ, List.getElem_cons_zero, List.setIfInBounds_toArray, List.set_cons_zero, List.set_cons_succ]
       refine wpAnyIn_take (i := 12) (v := ?_) rfl rfl (by kernel_rfl) (by kernel_rfl) (by kernel_rfl) (fun _ _ _ h => h) ⟨Or.inl ⟨by rfl, ?_⟩, fun _ => rfl⟩ ?_
       rotate_left
       ·intro wS; go_simp; try with_reducible rfl
       try simp only [Act.put, List.getElem_toArray, List.getElem_cons_succ, List.getElem_cons_zero, List.setIfInBounds_toArray, List.set_cons_zero, List.set_cons_succ]
       exact G12110
      exact AllReadyIn.nil
    ·skip
     refine wpAnyIn_ready (rs := [13]) (by kernel_rfl) (by simp) ?_
     refine AllReadyIn.cons rfl (fun KK hK => ?_) ?_
     ·go_simp
      refine hK _ _ ?_
      clear hK KK
      try simp only [Act.put, List.getElem_toArray, List.getElem_cons_succ, List.getElem_cons_zero, List.setIfInBounds_toArray, List.set_cons_zero, List.set_cons_succ]
      exact G12111
     exact AllReadyIn.nil
   ·skip
    refine wpAnyIn_ready (rs := [14]) (by kernel_rfl) (by simp) ?_
    refine AllReadyIn.cons rfl (fun KK hK => ?_) AllReadyIn.nil
    go_simp
    refine ⟨trivial, fun h => (by cases h), ?_⟩
    refine (callsIn_wide.2 HDE.out).mono ?_
    rintro e w1 ⟨rfl, hw1⟩
    subst hw1
    refine hK _ _ ?_
    clear hK KK HDE
    try simp only [Act.put, List.getElem_toArray, List.getElem_cons_succ, List.getElem_cons_zero, List.setIfInBounds_toArray, List.set_cons_zero, List.set_cons_succ]
    cases d with
    | true =>
      have HIS : Hid (isB br N n OA OB p = true) := HIS0.out
      have HPF : Hid (bndL br N n OA OB p ++ [p] <+: allB br N n OA OB) := HPL.out HIS.out
      refine wpAnyIn_take (i := 15) (v := ?_) rfl rfl (by kernel_rfl) (by kernel_rfl) (by kernel_rfl) (fun _ _ _ h => h) ⟨Or.inl ⟨by rfl, ?_⟩, fun _ => rfl⟩ ?_
      rotate_left
      ·intro wS; go_simp; try with_reducible rfl
      try simp only [Act.put, List.getElem_toArray, List.getElem_cons_succ, List.getElem_cons_zero, List.setIfInBounds_toArray, List.set_cons_zero, List.set_cons_succ]
      refine wpAnyIn_take (i := 16) (v := ?_) rfl rfl (by kernel_rfl) (by kernel_rfl) (by kernel_rfl) (fun _ _ _ h => h) ⟨Or.inl ⟨by rfl, ?_⟩, fun _ => rfl⟩ ?_
      rotate_left
      ·intro wS; go_simp; try with_reducible rfl
      try simp only [Act.put, List.getElem_toArray, List.getElem_cons_succ, List.getElem_cons_zero, List.setIfInBounds_toArray, List.set_cons_zero, List.set_cons_succ]
      refine wpAnyIn_take (i := 17) (v := ?_) rfl rfl (by kernel_rfl) (by kernel_rfl) (by kernel_rfl) (fun _ _ _ h => h) ⟨Or.inl ⟨by rfl, ?_⟩, fun _ => rfl⟩ ?_
      rotate_left
      ·intro wS; go_simp; try with_reducible rfl
      try simp only [Act.put, List.getElem_toArray, List.getElem_cons_succ, List.getElem_cons_zero, List.setIfInBounds_toArray, List.set_cons_zero, List.set_cons_succ]
      refine wpAnyIn_take (i := 18) (v := ?_) rfl rfl (by kernel_rfl) (by kernel_rfl) (by kernel_rfl) (fun _ _ _ h => h) ⟨Or.inl ⟨by rfl, ?_⟩, fun _ => rfl⟩ ?_
      rotate_left
      ·intro wS; go_simp; try with_reducible rfl
      try simp only [Act.put, List.getElem_toArray, List.getElem_cons_succ, List.getElem_cons_zero, List.setIfInBounds_toArray, List.set_cons_zero, List.set_cons_succ]
      refine wpAnyIn_ready (rs := [19]) (by kernel_rfl) (by simp) ?_
      refine AllReadyIn.cons rfl (fun KK hK => ?_) AllReadyIn.nil
      go_simp
      refine ⟨fun h => (by cases h), ?_⟩
      refine hR.mono ?_
      rintro e W3 (⟨rfl, hJ3, hk3⟩ | ⟨rfl, hJx3⟩)
      ·have HJ3 : Hid (J (bndL br N n OA OB p ++ [p]) W3 ∧ Below w0.heap.size wr W3) := ⟨hJ3, below_undrewB hk3⟩
       clear hJ3 hk3 hR hy
       refine hK _ _ ?_
       clear hK KK
       try simp only [Act.put, List.getElem_toArray, List.getElem_cons_succ, List.getElem_cons_zero, List.setIfInBounds_toArray, List.set_cons_zero, List.set_cons_succ]
       refine wpAnyIn_take (i := 20) (v := ?_) rfl rfl (by kernel_rfl) (by kernel_rfl) (by kernel_rfl) (fun _ _ _ h => h) ⟨Or.inl ⟨by rfl, ?_⟩, fun _ => rfl⟩ ?_
       rotate_left
       ·intro wS; go_simp; try with_reducible rfl
       try simp only [Act.put, List.getElem_toArray, List.getElem_cons_succ, List.getElem_cons_zero, List.setIfInBounds_toArray, List.set_cons_zero, List.set_cons_succ]
       refine wpAnyIn_ready (rs := [21]) (by kernel_rfl) (by simp) ?_
       refine AllReadyIn.cons rfl (fun KK hK => ?_) AllReadyIn.nil
       go_simp
       refine hK _ _ ?_
       clear hK KK
       try simp only [Act.put, List.getElem_toArray, List.getElem_cons_succ, List.getElem_cons_zero, List.setIfInBounds_toArray, List.set_cons_zero, List.set_cons_succ]
       refine wpAnyIn_done (by kernel_rfl) ?_ _
       go_wp2
       go_roundw
       case rel => exact ⟨p + 1, by omega, by go_num, by rw [bndL_yes HIS.out]; exact HJ3.out.1, HBW.out.trans HJ3.out.2⟩
       case measure => simp [intOf]; omega
      ·have HJ3 : Hid (Jx (bndL br N n OA OB p ++ [p]) W3) := hJx3
       clear hJx3 hR hy
       refine hK _ _ ?_
       clear hK KK
       try simp only [Act.put, List.getElem_toArray, List.getElem_cons_succ, List.getElem_cons_zero, List.setIfInBounds_toArray, List.set_cons_zero, List.set_cons_succ]
       refine wpAnyIn_take (i := 20) (v := ?_) rfl rfl (by kernel_rfl) (by kernel_rfl) (by kernel_rfl) (fun _ _ _ h => h) ⟨Or.inl ⟨by rfl, ?_⟩, fun _ => rfl⟩ ?_
       rotate_left
       ·intro wS; go_simp; try with_reducible rfl
       try simp only [Act.put, List.getElem_toArray, List.getElem_cons_succ, List.getElem_cons_zero, List.setIfInBounds_toArray, List.set_cons_zero, List.set_cons_succ]
       refine wpAnyIn_ready (rs := [21]) (by kernel_rfl) (by simp) ?_
       refine AllReadyIn.cons rfl (fun KK hK => ?_) AllReadyIn.nil
       go_simp
       refine hK _ _ ?_
       clear hK KK
       try simp only [Act.put, List.getElem_toArray, List.getElem_cons_succ, List.getElem_cons_zero, List.setIfInBounds_toArray, List.set_cons_zero, List.set_cons_succ]
       refine wpAnyIn_done (by kernel_rfl) ?_ _
       go_wp2
       refine bodyPost_ret (results_none rfl _ _ _) rfl ?_
       exact ⟨⟨_, rfl⟩, .inr ⟨_, HPF.out, HJ3.out⟩⟩
    | false =>
      refine wpAnyIn_take (i := 15) (v := ?_) rfl rfl (by kernel_rfl) (by kernel_rfl) (by kernel_rfl) (fun _ _ _ h => h) ⟨Or.inl ⟨by rfl, ?_⟩, fun _ => rfl⟩ ?_
      rotate_left
      ·intro wS; go_simp; try with_reducible rfl
      try simp only [Act.put, List.getElem_toArray, List.getElem_cons_succ, List.getElem_cons_zero, List.setIfInBounds_toArray, List.set_cons_zero, List.set_cons_succ]
      refine wpAnyIn_take (i := 16) (v := ?_) rfl rfl (by kernel_rfl) (by kernel_rfl) (by kernel_rfl) (fun _ _ _ h => h) ⟨Or.inl ⟨by rfl, ?_⟩, fun _ => rfl⟩ ?_
      rotate_left
      ·intro wS; go_simp; try with_reducible rfl
      try simp only [Act.put, List.getElem_toArray, List.getElem_cons_succ, List.getElem_cons_zero, List.setIfInBounds_toArray, List.set_cons_zero, List.set_cons_succ]
      refine wpAnyIn_take (i := 17) (v := undef) rfl rfl (by kernel_rfl) (by kernel_rfl) (by kernel_rfl) (fun _ _ _ h => h) ⟨Or.inr ⟨by rfl, rfl⟩, fun _ => rfl⟩ ?_
      try simp only [Act.put, List.getElem_toArray, List.getElem_cons_succ, List.getElem_cons_zero, List.setIfInBounds_toArray, List.set_cons_zero, List.set_cons_succ]
      refine wpAnyIn_take (i := 18) (v := undef) rfl rfl (by kernel_rfl) (by kernel_rfl) (by kernel_rfl) (fun _ _ _ h => h) ⟨Or.inr ⟨by rfl, rfl⟩, fun _ => rfl⟩ ?_
      try simp only [Act.put, List.getElem_toArray, List.getElem_cons_succ, List.getElem_cons_zero, List.setIfInBounds_toArray, List.set_cons_zero, List.set_cons_succ]
      refine wpAnyIn_ready (rs := [19]) (by kernel_rfl) (by simp) ?_
      refine AllReadyIn.cons rfl (fun KK hK => ?_) AllReadyIn.nil
      refine ⟨fun _ _ => trivial, ?_⟩
      refine hK _ _ ?_
      clear hK KK
      try simp only [Act.put, List.getElem_toArray, List.getElem_cons_succ, List.getElem_cons_zero, List.setIfInBounds_toArray, List.set_cons_zero, List.set_cons_succ]
      refine wpAnyIn_take (i := 20) (v := undef) rfl rfl (by kernel_rfl) (by kernel_rfl) (by kernel_rfl) (fun _ _ _ h => h) ⟨Or.inr ⟨by rfl, rfl⟩, fun _ => rfl⟩ ?_
      try simp only [Act.put, List.getElem_toArray, List.getElem_cons_succ, List.getElem_cons_zero, List.setIfInBounds_toArray, List.set_cons_zero, List.set_cons_succ]
      refine wpAnyIn_ready (rs := [21]) (by kernel_rfl) (by simp) ?_
      refine AllReadyIn.cons rfl (fun KK hK => ?_) AllReadyIn.nil
      go_simp
      refine hK _ _ ?_
      clear hK KK
      try simp only [Act.put, List.getElem_toArray, List.getElem_cons_succ, List.getElem_cons_zero, List.setIfInBounds_toArray, List.set_cons_zero, List.set_cons_succ]
      refine wpAnyIn_done (by kernel_rfl) ?_ _
      go_wp2
      go_roundw
      case rel => exact ⟨p + 1, by omega, by go_num, by rw [bndL_no HIS0.out]; exact HJ.out _ _ _ HJP.out (grown_drew3 wr none), HBW.out.drew⟩
      case measure => simp [intOf]; omega
  ·obtain rfl : p = n := by omega
   by_cases hz : p = 0
   ·subst hz
    have HFI : Hid (allB br N 0 OA OB = []) := rfl
    go_wp2
    go_end0
    exact ⟨⟨_, rfl⟩, .inl ⟨_, rfl, by rw [HFI.out]; exact HJP.out⟩⟩
   have hpz : (0 : Int) < (p : Int) := by omega
   have HIS : Hid (isB br N p OA OB p = true) := by show _ = true; unfold isB; rw [decide_eq_true (show p = p from rfl)]; simp
   have HFI : Hid (allB br N p OA OB = bndL br N p OA OB p ++ [p]) := by
    show _ = _
    unfold allB
    rw [if_neg hz, bndL_yes HIS.out]
   obtain ⟨fn, tmps, assign, body, hy, hR⟩ := HY.out (bndL br N p OA OB p) p wr (Nat.le_refl _) HJP.out (by have := bndL_len br N p OA OB p; omega)
   clear hce htb hz
   go_upto_region 6 with fail
   refine (wpIn_wide (n := m)).1 ?_
   gi_wp2
   refine ⟨fun h => (by cases h), ?_⟩
   refine hR.mono ?_
   rintro e W3 (⟨rfl, hJ3, hk3⟩ | ⟨rfl, hJx3⟩)
   ·have HJ3 : Hid (J (bndL br N p OA OB p ++ [p]) W3) := hJ3
    clear hJ3 hk3 hR hy
    gi_wp2
    go_wp2
    go_end0
    exact ⟨⟨_, rfl⟩, .inl ⟨_, HFI.out.symm, HJ3.out⟩⟩
   ·have HJ3 : Hid (Jx (bndL br N p OA OB p ++ [p]) W3) := hJx3
    clear hJx3 hR hy
    gi_wp2
    go_wp2
    go_end0
    exact ⟨⟨_, rfl⟩, .inr ⟨_, by rw [HFI.out]; exact List.prefix_refl _, HJ3.out⟩⟩
end Go.Proofs.YtcafffohnokjgaaDoor

/- The walks of slices.Equal. -/
namespace Go.Proofs.YtcafffohnokjgaaDoor
open Go.RowKit Go.Shelf Go.Maps
set_option linter.unusedVariables false
set_option linter.unusedSimpArgs false

end Go.Proofs.YtcafffohnokjgaaDoor
