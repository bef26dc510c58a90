/- Rules whose sides are sets: mathematics, and such rules in memory. -/
import Derived.Test.YtcafffohnokjgaaDoorJ27
import Derived.Test.YtcafffohnokjgaaDoorJ28
namespace Go.Proofs.YtcafffohnokjgaaDoor
open Go.RowKit
set_option linter.unusedVariables false
set_option linter.unusedSimpArgs false

def setNd (S : List Int) : Nd := ⟨1, S, .nil⟩
def Ris (c : Nat) (S : List Int) : Prop := S.Pairwise (· < ·) ∧ ∀ x, x ∈ S → 0 ≤ x ∧ x < (c : Int)
theorem Ris.none : Ris 0 [] := ⟨List.Pairwise.nil, fun x hx => by cases hx⟩
theorem Ris.skip {c : Nat} {S : List Int} (h : Ris c S) : Ris (c + 1) S := ⟨h.1, fun x hx => by have := h.2 x hx; omega⟩
theorem Ris.take {c : Nat} {S : List Int} (h : Ris c S) : Ris (c + 1) (S ++ [(c : Int)]) := by
 refine ⟨List.pairwise_append.2 ⟨h.1, by simp, fun a ha b hb => ?_⟩, fun x hx => ?_⟩
 ·rw [List.mem_singleton.1 hb]; exact (h.2 a ha).2
 ·rcases List.mem_append.1 hx with hx | hx
  ·have := h.2 x hx; omega
  ·rw [List.mem_singleton.1 hx]; omega
theorem ris_B : (S : List Int) → (a : Int) → (S.Pairwise (· < ·)) → (∀ x, x ∈ S → a < x ∧ x < 24) → risB a S = true
 | [], _, _, _ => rfl
 | x :: r, a, h, hx => by
   have h1 := List.pairwise_cons.1 h
   have hxx := hx x List.mem_cons_self
   simp only [risB, Bool.and_eq_true, decide_eq_true_eq]
   exact ⟨hxx, ris_B r x h1.2 fun y hy => ⟨h1.1 y hy, (hx y (List.mem_cons_of_mem _ hy)).2⟩⟩
theorem set_ok {S : List Int} (h : Ris 4 S) : (setNd S).ok = true := by
 have h1 : risB (-1) S = true := ris_B S (-1) h.1 fun x hx => by have := h.2 x hx; omega
 have h2 : okN 32 (setNd S) = true := by
  simp [okN, setNd, rcB, rclB, toL, h1]
 unfold Nd.ok
 rw [h2]
 simp [Nd.cnt, setNd, cntF]
theorem set_bel {S : List Int} (h : Ris 4 S) : (setNd S).bel 4 = true := by
 simp only [Nd.bel, setNd, Bool.and_eq_true, List.all_eq_true, decide_eq_true_eq]
 exact ⟨fun c hc => (h.2 c hc).2, rfl⟩
theorem set_rev (S : List Int) : (setNd S).rev = setNd S := rfl
theorem set_fits (S : List Int) (w : List Int) : (setNd S).fits w ↔ ∃ c, c ∈ S ∧ w = [c] := Iff.rfl
def IsSet (r : Rl) : Prop := ∃ S T, r.left = setNd S ∧ r.right = setNd T ∧ Ris 4 S ∧ Ris 4 T ∧ r.start = false
theorem set_left {l : List Rl} (h : ∀ r, r ∈ l → IsSet r) : ∀ x, x ∈ xsL l → ∃ S, x = (setNd S, false) ∧ Ris 4 S := fun x hx => by
 obtain ⟨r, hr, rfl⟩ := List.mem_map.1 hx
 obtain ⟨S, T, h1, h2, h3, h4, h5⟩ := h r hr
 exact ⟨S, by rw [h1, h5], h3⟩
theorem set_right {l : List Rl} (h : ∀ r, r ∈ l → IsSet r) : ∀ x, x ∈ xsR l → ∃ S, x = (setNd S, false) ∧ Ris 4 S := fun x hx => by
 obtain ⟨r, hr, rfl⟩ := List.mem_map.1 hx
 obtain ⟨S, T, h1, h2, h3, h4, h5⟩ := h r hr
 exact ⟨T, by rw [h2, set_rev], h4⟩
theorem set_alw {xs : List (Nd × Bool)} (hl : xs.length ≤ 64) (h : ∀ x, x ∈ xs → ∃ S, x = (setNd S, false) ∧ Ris 4 S) : alwB 4 xs = true := by
 unfold alwB
 simp only [Bool.and_eq_true, decide_eq_true_eq, List.all_eq_true]
 refine ⟨⟨⟨by omega, by omega⟩, hl⟩, fun x hx => ?_⟩
 obtain ⟨S, rfl, hS⟩ := h x hx
 exact ⟨set_ok hS, set_bel hS⟩
theorem set_cm {l : List Rl} (hl : l.length ≤ 40) (h : ∀ r, r ∈ l → IsSet r) : cmB 4 l = true := by
 unfold cmB
 simp only [Bool.and_eq_true, decide_eq_true_eq, List.all_eq_true]
 refine ⟨⟨⟨hl, fun r hr => ?_⟩, set_alw (by simp [xsL]; omega) (set_left h)⟩, set_alw (by simp [xsR]; omega) (set_right h)⟩
 obtain ⟨S, T, h1, h2, h3, h4, h5⟩ := h r hr
 rw [h1, h2]
 exact ⟨set_ok h3, set_ok h4⟩
theorem set_step (S : List Int) (b : Bool) (c : Nat) : stO (setNd S, false) (1, b) c = (1, decide ((c : Int) ∈ S)) := by
 have e : (setNd S).span [] = (⟨false, 1, 1⟩, [(S, 0)]) := by
  simp [Nd.span, setNd, topQ, spF]
 show stepS false ((setNd S).span []).1 ((setNd S).span []).2 (1, b) (Int.ofNat c) = _
 rw [e]
 by_cases h : (c : Int) ∈ S
 ·simp [stepS, unM, tkM, h]
 ·simp [stepS, unM, tkM, h]
theorem set_first (S : List Int) : fiO (setNd S, false) = (1, false) := by
 have e : (setNd S).span [] = (⟨false, 1, 1⟩, [(S, 0)]) := by
  simp [Nd.span, setNd, topQ, spF]
 show begS ((setNd S).span []).1 = _
 rw [e]; rfl
def lastC (w : List Nat) : Option Nat := w.getLast?
theorem set_fold (S : List Int) (w : List Nat) : w.foldl (stO (setNd S, false)) (fiO (setNd S, false)) = (1, match lastC w with | none => false | some c => decide ((c : Int) ∈ S)) := by
 rw [set_first]
 have : ∀ (w : List Nat) (b : Bool), w.foldl (stO (setNd S, false)) (1, b) = (1, match lastC w with | none => b | some c => decide ((c : Int) ∈ S)) := by
  intro w
  induction w with
  | nil => intro b; rfl
  | cons c r ih =>
    intro b
    rw [List.foldl_cons, set_step, ih]
    unfold lastC
    cases r with
    | nil => rfl
    | cons d s => rw [List.getLast?_cons_cons]; cases h : (d :: s).getLast? with
      | none => simp at h
      | some z => rfl
 exact this w false
theorem set_big {xs : List (Nd × Bool)} (h : ∀ x, x ∈ xs → ∃ S, x = (setNd S, false) ∧ Ris 4 S) : ¬ BigC 4 xs := by
 refine big_few (n := 5) (fun x hx => ?_) (fun w => match lastC w with | none => 0 | some c => c + 1) (by omega) (fun w hw => ?_) (fun a b ha hb e => ?_)
 ·obtain ⟨S, rfl, hS⟩ := h x hx
  exact (Nd.ok_right (set_ok hS)).1
 ·unfold lastC
  cases hl : w.getLast? with
  | none => simp
  | some c =>
    have := hw c (List.mem_of_getLast? hl)
    simp only
    omega
 ·have hab : lastC a = lastC b := by
   cases h1 : lastC a <;> cases h2 : lastC b <;> simp [h1, h2] at e ⊢
   exact e
  unfold sitC
  refine List.map_congr_left fun x hx => ?_
  obtain ⟨S, rfl, _⟩ := h x hx
  rw [set_fold, set_fold, hab]
theorem set_out {xs : List (Nd × Bool)} (h : ∀ x, x ∈ xs → ∃ S, x = (setNd S, false) ∧ Ris 4 S) {row row' : List Int} {p p' : Nat} (hc : Cls 4 row) (hc' : Cls 4 row') (hp : 0 < p) (hpl : p ≤ row.length) (hp' : 0 < p') (hpl' : p' ≤ row'.length) (he : row.getD (p - 1) 0 = row'.getD (p' - 1) 0) (i : Nat) : outC xs ((row.map Int.toNat).take p) i ↔ outC xs ((row'.map Int.toNat).take p') i := by
 cases hx : xs[i]? with
 | none => unfold outC; simp [hx]
 | some x =>
   obtain ⟨S, rfl, hS⟩ := h x (List.mem_of_getElem? hx)
   have key : ∀ (row : List Int) (p : Nat), Cls 4 row → 0 < p → p ≤ row.length → (outC xs ((row.map Int.toNat).take p) i ↔ row.getD (p - 1) 0 ∈ S) := by
    intro row p hc hp hpl
    rw [out_some hc hx rfl p hpl]
    have e : sg row (p - 1) p = [row.getD (p - 1) 0] := by
     unfold sg
     rw [show p - (p - 1) = 1 by omega, List.take_one, List.head?_drop, List.getD_eq_getElem?_getD, List.getElem?_eq_getElem (by omega)]
     rfl
    constructor
    ·rintro ⟨j, hj, hf⟩
     obtain ⟨c, hcS, hw⟩ := (set_fits S _).1 hf
     have hl : (sg row j p).length = 1 := by rw [hw]; rfl
     have hj1 : j = p - 1 := by unfold sg at hl; simp at hl; omega
     subst hj1
     rw [e] at hw
     have := (List.cons.inj hw).1
     rw [this]; exact hcS
    ·intro hm
     exact ⟨p - 1, by omega, (set_fits S _).2 ⟨_, hm, e⟩⟩
   rw [key row p hc hp hpl, key row' p' hc' hp' hpl', he]
theorem IsBd.near {l : List Rl} (h : ∀ r, r ∈ l → IsSet r) {n : Nat} {row : List Int} {L L2 : List Nat} (hn : row.length = n) (hc : Cls 4 row) (hb : IsBd 4 l n row L) {p : Nat} (hp : 0 < p) (hpn : p < n) (hb2 : IsBd 4 l 2 [row.getD (p - 1) 0, row.getD p 0] L2) : decide (1 ∈ L2) = decide (p ∈ L) := by
 subst hn
 obtain ⟨nxA, ouA, nxB, ouB, rfl, hA, hB⟩ := hb
 obtain ⟨nxA', ouA', nxB', ouB', rfl, hA', hB'⟩ := hb2
 obtain ⟨rfl, rfl⟩ := least_one hA hA'
 obtain ⟨rfl, rfl⟩ := least_one hB hB'
 have hm1 : row.getD (p - 1) 0 ∈ row := by rw [List.getD_eq_getElem?_getD, List.getElem?_eq_getElem (by omega)]; exact List.getElem_mem _
 have hm2 : row.getD p 0 ∈ row := by rw [List.getD_eq_getElem?_getD, List.getElem?_eq_getElem (by omega)]; exact List.getElem_mem _
 have hc2 : Cls 4 [row.getD (p - 1) 0, row.getD p 0] := fun c hcc => by
  rcases List.mem_cons.1 hcc with rfl | hcc
  ·exact hc _ hm1
  ·rw [List.mem_singleton.1 hcc]; exact hc _ hm2
 rw [Bool.eq_iff_iff, decide_eq_true_eq, decide_eq_true_eq, mem_allB, mem_allB]
 have hdc : isB (brkN l) l.length 2 (ouR nxA ouA [row.getD (p - 1) 0, row.getD p 0]) (ouR nxB ouB [row.getD (p - 1) 0, row.getD p 0].reverse) 1 = isB (brkN l) l.length row.length (ouR nxA ouA row) (ouR nxB ouB row.reverse) p := by
  unfold isB
  rw [decide_eq_false (show ¬ (1 = 0) by omega), decide_eq_false (show ¬ (1 = 2) by omega), decide_eq_false (show ¬ (p = 0) by omega), decide_eq_false (show ¬ (p = row.length) by omega)]
  simp only [Bool.false_or]
  refine dc_same _ _ fun j _ hj => ⟨?_, rfl⟩
  rw [Nat.testBit_and, Nat.testBit_and]
  congr 1
  ·rw [Bool.eq_iff_iff, ou_bit hA hc2, ou_bit hA hc]
   exact set_out (set_left h) hc2 hc (by omega) (by simp) hp (by omega) (by simp) j
  ·rw [Bool.eq_iff_iff, ou_bit hB (cls_rev hc2), ou_bit hB (cls_rev hc)]
   refine set_out (set_right h) (cls_rev hc2) (cls_rev hc) (by omega) (by simp) (by omega) (by simp) ?_ j
   rw [List.getD_eq_getElem?_getD (l := row.reverse), List.getElem?_reverse (by omega), show row.length - 1 - (row.length - p - 1) = p by omega, ← List.getD_eq_getElem?_getD]
   simp
 rw [hdc]
 exact ⟨fun h => ⟨by omega, by omega, h.2.2⟩, fun h => ⟨by omega, by omega, h.2.2⟩⟩
theorem Gr1.more {B Y : Nat} {cv : Value} {av : Option Addr} {N cn g cp : Nat} {ps : List (Rl × RlP)} {V w1 : World} {x : Rl × RlP} (h1 : Gr1 B Y cv (.slice av N cn) ps V) (hN : N = ps.length)
 (o1 : w1.ownsRow B 48 8 (.slice (some ⟨g, 0, none⟩) (N + 1) cp) (N + 1) (flR ps ++ (x.1.vals x.2).toList)) (gr : V.grownBy w1 (Value.slice av N cn).ownBlock) :
 (w1.cell? ⟨Y, 1, none⟩ = some (.slice av N cn) ∧ w1.frozen? ⟨Y, 1, none⟩ = false) ∧ Gr1 B Y cv (.slice (some ⟨g, 0, none⟩) (N + 1) cp) (ps ++ [x]) (w1.setCell ⟨Y, 1, none⟩ (.slice (some ⟨g, 0, none⟩) (N + 1) cp)) := by
 have ky : w1.heap[Y]? = some (.cells #[cv, .slice av N cn] 25) := (gr.block Y (Array.getElem?_eq_some_iff.1 h1.2.1).1 (fun e => (h1.ne e.symm).2.2 rfl)).trans h1.2.1
 have hgc := grown_cell w1 Y 1 (Value.slice (some ⟨g, 0, none⟩) (N + 1) cp)
 have hY : (Value.slice (some ⟨g, 0, none⟩) (N + 1) cp).ownBlock ≠ some Y := fun e => by
  obtain ⟨_, _, cur, hc⟩ := own_lt o1 e
  exact ne_ty hc ky (by decide) rfl
 refine ⟨⟨cell_of_row _ _ 1 _ _ _ ky, Lib.frozen_of_heap ky 1⟩, h1.1, heap_setCell_same _ _ 1 _ _ _ ky, ?_⟩
 rw [show (ps ++ [x]).length = N + 1 by simp [hN], show flR (ps ++ [x]) = flR ps ++ (x.1.vals x.2).toList by simp [flR]]
 exact o1.kept hgc (.inr hY)
def LfR (B : Nat) (V : World) (x : Rl × RlP) : Prop := IsSet x.1 ∧ (x.2.lp = none ∧ x.2.lpc = 0 ∧ x.2.rp = none ∧ x.2.rpc = 0) ∧ V.ownsRow B 3 1 (.slice x.2.la x.1.left.cl.length x.2.lc) x.1.left.cl.length (x.1.left.cl.map (Value.int .i64)) ∧ V.ownsRow B 3 1 (.slice x.2.ra x.1.right.cl.length x.2.rc) x.1.right.cl.length (x.1.right.cl.map (Value.int .i64))
theorem LfR.later {B : Nat} {V V' : World} {x : Rl × RlP} (h : LfR B V x) (hb : Below V.heap.size V V') : LfR B V' x := ⟨h.1, h.2.1, own_later5 h.2.2.1 hb, own_later5 h.2.2.2 hb⟩
theorem LfR.keep {B g : Nat} {V V' : World} {x : Rl × RlP} {cs : Array Value} {t : TypeId} {fr : Nat × Nat} (h : LfR B V x) (hg : V.grownBy V' (some g)) (hc : V.heap[g]? = some (.cells cs t fr)) (ht : 3 ≠ t) : LfR B V' x :=
 ⟨h.1, h.2.1, h.2.2.1.kept hg (.inr (own_ne h.2.2.1 hc ht)), h.2.2.2.kept hg (.inr (own_ne h.2.2.2 hc ht))⟩
theorem LfR.keepN {B : Nat} {V V' : World} {x : Rl × RlP} (h : LfR B V x) (hg : V.grownBy V' none) : LfR B V' x :=
 ⟨h.1, h.2.1, h.2.2.1.kept hg (Classical.em _), h.2.2.2.kept hg (Classical.em _)⟩
theorem ris_len {S : List Int} (h : Ris 4 S) : S.length ≤ 140737488355328 := by
 have key : ∀ (S : List Int) (a : Int), S.Pairwise (· < ·) → (∀ x, x ∈ S → a ≤ x ∧ x < 4) → (S.length : Int) ≤ max 0 (4 - a) := by
  intro S
  induction S with
  | nil => intro a _ _; simp; omega
  | cons x r ih =>
    intro a hp hx
    have h1 := List.pairwise_cons.1 hp
    have h2 := hx x List.mem_cons_self
    have h3 := ih (x + 1) h1.2 fun y hy => ⟨by have := h1.1 y hy; omega, (hx y (List.mem_cons_of_mem _ hy)).2⟩
    rw [List.length_cons]
    omega
 have := key S 0 h.1 fun x hx => by have := h.2 x hx; omega
 omega
theorem LfR.at {B : Nat} {V : World} {x : Rl × RlP} (h : LfR B V x) : RlAt V 1 x.1 x.2 := by
 obtain ⟨⟨S, T, h1, h2, h3, h4, h5⟩, ⟨p1, p2, p3, p4⟩, o1, o2⟩ := h
 obtain ⟨⟨left, right, brk, start⟩, ⟨la, lc, lp, lpc, ra, rc, rp, rpc⟩⟩ := x
 simp only at h1 h2 h5 p1 p2 p3 p4 o1 o2
 subst h1 h2 h5 p1 p2 p3 p4
 obtain ⟨a1, c1, e1, _, _, r1, hn1⟩ := rd_own2 o1
 obtain ⟨a2, c2, e2, _, _, r2, hn2⟩ := rd_own2 o2
 cases e1
 cases e2
 have l1 : S.length ≤ 140737488355328 := ris_len h3
 have l2 : T.length ≤ 140737488355328 := ris_len h4
 exact ⟨InV.leaf V 0 1 S la lc r1 l1 hn1, InV.leaf V 0 1 T ra rc r2 l2 hn2⟩
def StL (S0 X : Nat) (bk : Bool) (vl vr : Value) (nS nT : Nat) (SL TL : List Value) (V : World) : Prop := S0 ≤ X ∧ V.heap[X]? = some (.cells #[.int .i64 1, vl, .slice none 0 0, .int .i64 1, vr, .slice none 0 0, .bool bk, .bool false] 48) ∧
 V.ownsRow S0 3 1 vl nS SL ∧ V.ownsRow S0 3 1 vr nT TL ∧ (vl.ownBlock = none ∨ vl.ownBlock ≠ vr.ownBlock)
theorem StL.later {S0 X nS nT : Nat} {bk : Bool} {vl vr : Value} {SL TL : List Value} {V V' : World} (h : StL S0 X bk vl vr nS nT SL TL V) (hb : Below V.heap.size V V') : StL S0 X bk vl vr nS nT SL TL V' :=
 ⟨h.1, (hb.block X (Array.getElem?_eq_some_iff.1 h.2.1).1).trans h.2.1, own_later5 h.2.2.1 hb, own_later5 h.2.2.2.1 hb, h.2.2.2.2⟩
theorem StL.left {S0 X nS nT : Nat} {bk : Bool} {vl vr v' : Value} {SL SL' TL : List Value} {V w1 : World} (h : StL S0 X bk vl vr nS nT SL TL V) (o1 : w1.ownsRow S0 3 1 v' (nS + 1) SL') (gr : V.grownBy w1 vl.ownBlock) (hg : vl.ownBlock = v'.ownBlock ∨ v'.ownBlock = some V.heap.size) :
 (w1.cell? ⟨X, 1, none⟩ = some vl ∧ w1.frozen? ⟨X, 1, none⟩ = false) ∧ StL S0 X bk v' vr (nS + 1) nT SL' TL (w1.setCell ⟨X, 1, none⟩ v') := by
 obtain ⟨h1, h2, h3, h4, h5⟩ := h
 have kx : w1.heap[X]? = some (.cells #[.int .i64 1, vl, .slice none 0 0, .int .i64 1, vr, .slice none 0 0, .bool bk, .bool false] 48) := (gr.block X (Array.getElem?_eq_some_iff.1 h2).1 (fun e => own_ne h3 h2 (by decide) e.symm)).trans h2
 have hgc := grown_cell w1 X 1 v'
 have k4 : w1.ownsRow S0 3 1 vr nT TL := h4.kept gr (by
  rcases h5 with e | e
  ·rcases hv : vr.ownBlock with _ | g
   ·exact .inl rfl
   ·exact .inr (by rw [e]; exact fun e => by cases e)
  ·exact .inr fun e' => e e'.symm)
 refine ⟨⟨cell_of_row _ _ 1 _ _ _ kx, Lib.frozen_of_heap kx 1⟩, h1, heap_setCell_same _ _ 1 _ _ _ kx, o1.kept hgc (.inr (own_ne o1 kx (by decide))), k4.kept hgc (.inr (own_ne k4 kx (by decide))), ?_⟩
 rcases hg with hg | hg
 ·rw [← hg]; exact h5
 ·refine .inr fun e => ?_
  rw [hg] at e
  have := (own_lt h4 e.symm).2.1
  omega
theorem StL.right {S0 X nS nT : Nat} {bk : Bool} {vl vr v' : Value} {SL TL TL' : List Value} {V w1 : World} (h : StL S0 X bk vl vr nS nT SL TL V) (o1 : w1.ownsRow S0 3 1 v' (nT + 1) TL') (gr : V.grownBy w1 vr.ownBlock) (hg : vr.ownBlock = v'.ownBlock ∨ v'.ownBlock = some V.heap.size) :
 (w1.cell? ⟨X, 4, none⟩ = some vr ∧ w1.frozen? ⟨X, 4, none⟩ = false) ∧ StL S0 X bk vl v' nS (nT + 1) SL TL' (w1.setCell ⟨X, 4, none⟩ v') := by
 obtain ⟨h1, h2, h3, h4, h5⟩ := h
 have kx : w1.heap[X]? = some (.cells #[.int .i64 1, vl, .slice none 0 0, .int .i64 1, vr, .slice none 0 0, .bool bk, .bool false] 48) := (gr.block X (Array.getElem?_eq_some_iff.1 h2).1 (fun e => own_ne h4 h2 (by decide) e.symm)).trans h2
 have hgc := grown_cell w1 X 4 v'
 have k3 : w1.ownsRow S0 3 1 vl nS SL := h3.kept gr (by rcases h5 with e | e; exact .inl e; exact .inr e)
 refine ⟨⟨cell_of_row _ _ 4 _ _ _ kx, Lib.frozen_of_heap kx 4⟩, h1, heap_setCell_same _ _ 4 _ _ _ kx, k3.kept hgc (.inr (own_ne k3 kx (by decide))), o1.kept hgc (.inr (own_ne o1 kx (by decide))), ?_⟩
 rcases hg with hg | hg
 ·rw [← hg]; exact h5
 ·refine .inr fun e => ?_
  rw [hg] at e
  have := (own_lt h3 e).2.1
  omega
theorem StL.cells {S0 X nS nT : Nat} {bk : Bool} {vl vr : Value} {SL TL : List Value} {V : World} (h : StL S0 X bk vl vr nS nT SL TL V) : V.cell? ⟨X, 0, none⟩ = some (.int .i64 1) ∧ V.cell? ⟨X, 1, none⟩ = some vl ∧ V.cell? ⟨X, 2, none⟩ = some (.slice none 0 0) ∧ V.cell? ⟨X, 3, none⟩ = some (.int .i64 1) ∧ V.cell? ⟨X, 4, none⟩ = some vr ∧ V.cell? ⟨X, 5, none⟩ = some (.slice none 0 0) ∧ V.cell? ⟨X, 6, none⟩ = some (.bool bk) ∧ V.cell? ⟨X, 7, none⟩ = some (.bool false) := box8 h.2.1
theorem cutI_two {a : Option Addr} {len cap : Nat} (lo : Nat) (h2 : lo + 2 ≤ len) (h3 : len ≤ cap) : ∃ a', (∀ W, (Instr.slice 26 (.slice a len cap) (some (.int .i64 (lo : Int))) (some (.int .i64 ((lo : Int) + 2))) none).run Tryd.prog W = .ok (.slice a' 2 (cap - lo)) W) ∧ (a' = none → False ∨ a = none) ∧ ∀ (w : World) (xs : List Int), Rd .i64 w a len xs → Rd .i64 w a' 2 [xs.getD lo 0, xs.getD (lo + 1) 0] := by
 refine ⟨if cap = lo then a else a.map (·.add lo), fun W => ?_, fun h => ?_, fun w xs h => ⟨rfl, fun hp => ?_⟩⟩
 ·have g0 : (0 : Int) ≤ (lo : Int) := by omega
  have g1 : (lo : Int) ≤ (lo : Int) + 2 := by omega
  have g2 : (lo : Int) + 2 ≤ (cap : Int) := by omega
  have g3 : (0 : Int) ≤ (lo : Int) + 2 := by omega
  have e2 : ((lo : Int) + 2 - (lo : Int)).toNat = 2 := by omega
  go_simp
  omega
 ·rw [if_neg (by omega)] at h
  cases a with
  | none => exact .inr rfl
  | some x => cases h
 ·obtain ⟨b, off, rfl, hc⟩ := h.2 (by omega)
  rw [if_neg (by omega)]
  refine ⟨b, off + lo, by simp [add_lit], fun i hi' => ?_⟩
  rw [show off + lo + i = off + (lo + i) by omega, hc (lo + i) (by omega)]
  match i, hi' with
  | 0, _ => rfl
  | 1, _ => rfl
theorem ris_le {c : Nat} {S : List Int} (h : Ris c S) : S.length ≤ c := by
 have key : ∀ (S : List Int) (a : Int), S.Pairwise (· < ·) → (∀ x, x ∈ S → a ≤ x ∧ x < (c : Int)) → (S.length : Int) ≤ max 0 ((c : Int) - a) := by
  intro S
  induction S with
  | nil => intro a _ _; simp; omega
  | cons x r ih =>
    intro a hp hx
    have h1 := List.pairwise_cons.1 hp
    have h2 := hx x List.mem_cons_self
    have h3 := ih (x + 1) h1.2 fun y hy => ⟨by have := h1.1 y hy; omega, (hx y (List.mem_cons_of_mem _ hy)).2⟩
    rw [List.length_cons]
    omega
 have := key S 0 h.1 fun x hx => by have := h.2 x hx; omega
 omega
theorem lf_step {B Y : Nat} {cv v : Value} {zs : List (Rl × RlP)} {V w1 : World} {x : Rl × RlP} (h : LfR B V x) (hg : Gr1 B Y cv v zs V) (gr : V.grownBy w1 v.ownBlock) (z : Value) : LfR B (w1.setCell ⟨Y, 1, none⟩ z) x := by
 have ky : w1.heap[Y]? = some (.cells #[cv, v] 25) := (gr.block Y (Array.getElem?_eq_some_iff.1 hg.2.1).1 (fun e => (hg.ne e.symm).2.2 rfl)).trans hg.2.1
 have h1 : LfR B w1 x := by
  rcases hv : v.ownBlock with _ | g
  ·rw [hv] at gr; exact h.keepN gr
  ·rw [hv] at gr
   obtain ⟨_, _, cur, hc⟩ := own_lt hg.2.2 hv
   exact h.keep gr hc (by decide)
 exact h1.keep (grown_cell w1 Y 1 z) ky (by decide)
theorem lf_new {S0 X nS nT : Nat} {B : Nat} {bk : Bool} {al ar : Option Addr} {cl cr : Nat} {S T : List Int} {V : World} (h : StL S0 X bk (.slice al nS cl) (.slice ar nT cr) nS nT (S.map (Value.int .i64)) (T.map (Value.int .i64)) V) (hB : B ≤ S0) (hS : Ris 4 S) (hT : Ris 4 T) (hnS : S.length = nS) (hnT : T.length = nT) : LfR B V (⟨setNd S, setNd T, bk, false⟩, ⟨al, cl, none, 0, ar, cr, none, 0⟩) := by
 subst hnS hnT
 exact ⟨⟨S, T, rfl, rfl, hS, hT, rfl⟩, ⟨rfl, rfl, rfl, rfl⟩, own_base h.2.2.1 hB, own_base h.2.2.2.1 hB⟩
set_option maxRecDepth 100000 in
theorem build_rule (bk : Bool) (W : World) : (Instr.build 48 #[(0, .agg #[.int .i64 1, .slice none 0 0, .slice none 0 0]), (1, .agg #[.int .i64 1, .slice none 0 0, .slice none 0 0]), (2, .bool bk)]).run Tryd.prog W = .ok (.agg #[.int .i64 1, .slice none 0 0, .slice none 0 0, .int .i64 1, .slice none 0 0, .slice none 0 0, .bool bk, .bool false]) W := by
 go_simp
end Go.Proofs.YtcafffohnokjgaaDoor
