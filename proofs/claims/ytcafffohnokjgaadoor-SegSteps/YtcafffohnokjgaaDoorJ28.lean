/- In one text: SegH, ReaSm, TabH, TabK, TablesDecideW, TabO, DfaFr, ReaLg, ReaLh, ReaMv, SegR, SrA. -/
import Derived.Test.YtcafffohnokjgaaDoorJ26
import Derived.Test.YtcafffohnokjgaaDoorJ27
import Derived.BigQuiet
import Derived.Test.YtcafffohnokjgaaDoorJ23
import Derived.Test.YtcafffohnokjgaaDoorJ21
import Derived.Test.YtcafffohnokjgaaDoorCards
import Derived.Test.YtcafffohnokjgaaDoorTie
import Derived.Test.YtcafffohnokjgaaDoorJ04
import Derived.ProofKit
import Derived.OpenShut
import Derived.ShutString
import Derived.ChangeOld
import Derived.ChangeVars
import Derived.JoinedOf
import Derived.LaidLaws
import Derived.LaidHandle
import Derived.Lay
import Derived.Below
import Derived.HandedShaped
import Derived.Shelf.Vars
import Derived.Lib.LaidTab
import Derived.Stop.LaidErr
import Derived.Test.YtcafffohnokjgaaDoorJ01
import Derived.Test.YtcafffohnokjgaaDoorJ03
/- The walk of the statements' shown. -/
namespace Go.Proofs.YtcafffohnokjgaaDoor
open Go.RowKit Go.Shelf
set_option linter.unusedVariables false
set_option linter.unusedSimpArgs false

theorem allB_zero (br n : Nat) (OA OB : Nat → Nat) (hn : n ≠ 0) : allB br 0 n OA OB = List.range (n + 1) := by
 unfold allB bndL
 rw [if_neg hn, List.filter_eq_self]
 intro p _
 unfold isB
 rw [dcB]
 simp
theorem TabAt.later {w w' : World} {K : Nat} {l : List Rl} {tb : Nat} (h : TabAt w K l tb) (hV : Below w.heap.size w w') : TabAt w' K l tb := by
 obtain ⟨la, lb, nxA, ouA, nxB, ouB, q1, q2, q3, q4, q5, q6, q7⟩ := h
 exact ⟨la, lb, nxA, ouA, nxB, ouB, (hV.block tb (Array.getElem?_eq_some_iff.1 q1).1).trans q1, q2.later hV, q3, q4, q5.later hV, q6, q7⟩
theorem rdI_two (V : World) (a b : Int) : Rd .i64 (V.alloc (.cells #[.int .i64 a, .int .i64 b] 3)) (some ⟨V.heap.size, 0, none⟩) 2 [a, b] := ⟨rfl, fun _ => ⟨V.heap.size, 0, rfl, fun i hi => by
 rw [cell_of_row _ V.heap.size (0 + i) _ _ _ (heap_alloc_new V _)]
 match i, hi with
 | 0, _ => rfl
 | 1, _ => rfl⟩⟩
theorem rdI_one (V : World) (a : Int) : Rd .i64 (V.alloc (.cells #[.int .i64 a] 3)) (some ⟨V.heap.size, 0, none⟩) 1 [a] := ⟨rfl, fun _ => ⟨V.heap.size, 0, rfl, fun i hi => by
 rw [cell_of_row _ V.heap.size (0 + i) _ _ _ (heap_alloc_new V _)]
 match i, hi with
 | 0, _ => rfl⟩⟩
theorem cls01 : Cls 2 [0, 1] := fun c hc => by
 rcases List.mem_cons.1 hc with rfl | hc
 ·exact ⟨by decide, by decide⟩
 ·rw [List.mem_singleton.1 hc]; exact ⟨by decide, by decide⟩
theorem cls2 : ¬ Cls 2 [2] := fun h => by have := (h 2 (by simp)).2; omega
set_option maxRecDepth 100000 in
set_option maxHeartbeats 8000000 in
theorem shown10_any (w : World) (hT : TabD w) : Calls Tryd.prog 10 #[] w fun e w' => e = .returned (.bool true) ∧ Below w.heap.size w w' := by
 have HTD : Hid (TabD w) := hT
 clear hT
 obtain ⟨w1, hw1⟩ : ∃ w1, w1 = w.alloc (.cells #[.string ⟨#[97]⟩, .string ⟨#[98]⟩] 9) := ⟨_, rfl⟩
 obtain ⟨H, hH⟩ : ∃ H, H = w.heap.size := ⟨_, rfl⟩
 have HB1 : Hid (Below w.heap.size w w1) := by rw [hw1]; exact (Below.refl _ w).alloc (Nat.le_refl _) _
 have HC1 : Hid (Calls Tryd.prog 12 #[.agg #[.slice (some ⟨H, 0, none⟩) 2 2, .slice none 0 0]] w1 (CmpP 2 [] w1)) := compile_any 0 2 [] (some ⟨H, 0, none⟩) none 2 0 w1 (HTD.out.later HB1.out) ⟨rfl, fun i hi => absurd hi (by simp)⟩ (by simp)
 go_enter Tryd.func10, Tryd.ntmps10
 go_wp2_with fail
 rw [← hH, ← hw1]
 clear hH hw1
 refine HC1.out.mono ?_
 rintro e w2 ⟨hb2, hor⟩
 have HB2 : Hid (Below w.heap.size w w2) := HB1.out.trans (hb2.mono HB1.out.size)
 have hnb : ¬ BigC 2 (xsL []) ∧ ¬ BigC 2 (xsR []) := ⟨many_not_big 2 0 (by decide), many_not_big 2 0 (by decide)⟩
 obtain ⟨tb, rfl, hta⟩ : ∃ tb, e = .returned (.tuple #[.pointer (some ⟨tb, 0, none⟩), .int .i64 0]) ∧ TabAt w2 2 [] tb := by
  rcases hor with ⟨hal, _⟩ | ⟨_, ⟨_, htb | htb⟩ | ⟨tb, he, _, hta, _⟩⟩
  ·exact absurd hal (by decide)
  ·exact absurd htb hnb.1
  ·exact absurd htb hnb.2
  ·exact ⟨tb, he, hta⟩
 have HTA : Hid (∀ V : World, Below w2.heap.size w2 V → TabAt V 2 [] tb) := fun V hV => hta.later hV
 clear hb2 hor hnb hta HC1
 obtain ⟨W3, hW3⟩ : ∃ W3, W3 = w2.alloc (.cells #[.int .i64 0, .int .i64 1] 3) := ⟨_, rfl⟩
 obtain ⟨g3, hg3⟩ : ∃ g, g = w2.heap.size := ⟨_, rfl⟩
 have HC3 : Hid (Below w2.heap.size w2 W3) := by rw [hW3]; exact (Below.refl _ w2).alloc (Nat.le_refl _) _
 have HX3 : Hid (Calls Tryd.prog 18 #[.pointer (some ⟨tb, 0, none⟩), .slice (some ⟨g3, 0, none⟩) 2 2] W3 (BdsP 2 [] 2 [0, 1] W3)) := segBounds_any 2 tb 2 2 [] [0, 1] (some ⟨g3, 0, none⟩) W3 (HTA.out W3 HC3.out) (by simp) (by rw [hW3, hg3]; exact rdI_two w2 0 1) (fun h => by cases h) (by decide)
 go_wp2_with fail
 rw [← hg3, ← hW3]
 clear hg3 hW3
 refine HX3.out.mono ?_
 rintro e w4 ⟨hb4, hor⟩
 have HC4 : Hid (Below w2.heap.size w2 w4) := HC3.out.trans (hb4.mono HC3.out.size)
 obtain ⟨g, rfl, hg⟩ : ∃ g, e = .returned (.tuple #[.slice (some ⟨g, 0, none⟩) 3 3, .int .i64 0]) ∧ w4.heap[g]? = some (.cells (bArr 2 (List.range 3)) 4) := by
  rcases hor with ⟨h, _⟩ | ⟨_, nxA, ouA, nxB, ouB, g, he, hg, _⟩
  ·exact absurd cls01 h
  ·refine ⟨g, he, ?_⟩
   rw [show ([] : List Rl).length = 0 from rfl, allB_zero _ _ _ _ (by decide)] at hg
   exact hg
 have HG : Hid (∀ V : World, Below w4.heap.size w4 V → V.cell? ⟨g, 0, none⟩ = some (.bool true) ∧ V.cell? ⟨g, 1, none⟩ = some (.bool true) ∧ V.cell? ⟨g, 2, none⟩ = some (.bool true)) := fun V hV => by
  have h := (hV.block g (Array.getElem?_eq_some_iff.1 hg).1).trans hg
  refine ⟨?_, ?_, ?_⟩
  ·rw [cell_of_row V g 0 _ _ _ h, bArr_get 2 _ (by decide)]; rfl
  ·rw [cell_of_row V g 1 _ _ _ h, bArr_get 2 _ (by decide)]; rfl
  ·rw [cell_of_row V g 2 _ _ _ h, bArr_get 2 _ (by decide)]; rfl
 clear hb4 hor hg HX3 HC3
 obtain ⟨W5, hW5⟩ : ∃ W5, W5 = w4.alloc (.cells #[.int .i64 2] 3) := ⟨_, rfl⟩
 obtain ⟨g5, hg5⟩ : ∃ g, g = w4.heap.size := ⟨_, rfl⟩
 have HD5 : Hid (Below w4.heap.size w4 W5) := by rw [hW5]; exact (Below.refl _ w4).alloc (Nat.le_refl _) _
 have HX5 : Hid (Calls Tryd.prog 18 #[.pointer (some ⟨tb, 0, none⟩), .slice (some ⟨g5, 0, none⟩) 1 1] W5 (BdsP 2 [] 1 [2] W5)) := segBounds_any 2 tb 1 1 [] [2] (some ⟨g5, 0, none⟩) W5 (HTA.out W5 (HC4.out.trans (HD5.out.mono HC4.out.size))) (by simp) (by rw [hW5, hg5]; exact rdI_one w4 2) (fun h => by cases h) (by decide)
 go_wp2_with fail
 rw [← hg5, ← hW5]
 clear hg5 hW5
 refine HX5.out.mono ?_
 rintro e w6 ⟨hb6, hor⟩
 have HD6 : Hid (Below w4.heap.size w4 w6) := HD5.out.trans (hb6.mono HD5.out.size)
 obtain rfl : e = .returned (.tuple #[.slice none 0 0, .int .i64 1]) := by
  rcases hor with ⟨_, h⟩ | ⟨h, _⟩
  ·exact h
  ·exact absurd h cls2
 clear hb6 hor HX5 HD5
 obtain ⟨W7, hW7⟩ : ∃ W7, W7 = w6.alloc (.cells #[.int .i64 0, .int .i64 1] 3) := ⟨_, rfl⟩
 obtain ⟨g7, hg7⟩ : ∃ g, g = w6.heap.size := ⟨_, rfl⟩
 have HD7 : Hid (Below w4.heap.size w4 W7) := by rw [hW7]; exact HD6.out.alloc HD6.out.size _
 have HX7 : Hid (Calls Tryd.prog 14 #[.pointer (some ⟨tb, 0, none⟩), .slice (some ⟨g7, 0, none⟩) 2 2, .int .i64 0] W7 (StpP nextL 2 [] 2 [0, 1] 0 W7)) := segNext_any 2 tb 2 2 [] [0, 1] (some ⟨g7, 0, none⟩) 0 W7 (HTA.out W7 (HC4.out.trans (HD7.out.mono HC4.out.size))) (by simp) (by rw [hW7, hg7]; exact rdI_two w6 0 1) (fun h => by cases h) (by decide)
 go_wp2_with fail
 rw [← hg7, ← hW7]
 clear hg7 hW7
 refine HX7.out.mono ?_
 rintro e w8 ⟨hb8, hor⟩
 have HD8 : Hid (Below w4.heap.size w4 w8) := HD7.out.trans (hb8.mono HD7.out.size)
 obtain rfl : e = .returned (.tuple #[.int .i64 1, .int .i64 0]) := by
  rcases hor with ⟨h, _⟩ | ⟨_, h, _⟩ | ⟨_, _, _, nxA, ouA, nxB, ouB, he, _⟩
  ·exact absurd cls01 h
  ·omega
  ·rw [he, show ([] : List Rl).length = 0 from rfl, allB_zero _ _ _ _ (by decide)]; rfl
 clear hb8 hor HX7 HD7 HD6
 obtain ⟨W9, hW9⟩ : ∃ W9, W9 = w8.alloc (.cells #[.int .i64 0, .int .i64 1] 3) := ⟨_, rfl⟩
 obtain ⟨g9, hg9⟩ : ∃ g, g = w8.heap.size := ⟨_, rfl⟩
 have HD9 : Hid (Below w4.heap.size w4 W9) := by rw [hW9]; exact HD8.out.alloc HD8.out.size _
 have HX9 : Hid (Calls Tryd.prog 15 #[.pointer (some ⟨tb, 0, none⟩), .slice (some ⟨g9, 0, none⟩) 2 2, .int .i64 3] W9 (StpP prevL 2 [] 2 [0, 1] 3 W9)) := segPrev_any 2 tb 2 2 [] [0, 1] (some ⟨g9, 0, none⟩) 3 W9 (HTA.out W9 (HC4.out.trans (HD9.out.mono HC4.out.size))) (by simp) (by rw [hW9, hg9]; exact rdI_two w8 0 1) (fun h => by cases h) (by decide)
 go_wp2_with fail
 rw [← hg9, ← hW9]
 clear hg9 hW9
 refine HX9.out.mono ?_
 rintro e wA ⟨hbA, hor⟩
 have HDA : Hid (Below w4.heap.size w4 wA) := HD9.out.trans (hbA.mono HD9.out.size)
 obtain rfl : e = .returned (.tuple #[.int .i64 0, .int .i64 3]) := by
  rcases hor with ⟨h, _⟩ | ⟨_, _, h⟩ | ⟨_, _, h, _⟩
  ·exact absurd cls01 h
  ·exact h
  ·omega
 obtain ⟨c0, c1, c2⟩ := HG.out wA HDA.out
 have HBZ : Hid (Below w.heap.size w wA) := HB2.out.trans ((HC4.out.trans (HDA.out.mono HC4.out.size)).mono HB2.out.size)
 clear hbA hor HX9 HD9 HD8 HG
 go_wp2_with fail
 go_ret
 exact ⟨rfl, HBZ.out⟩
end Go.Proofs.YtcafffohnokjgaaDoor

/- The walk of Same of the reference of reading. -/
namespace Go.Proofs.YtcafffohnokjgaaDoor
open Go.RowKit
set_option linter.unusedVariables false
set_option linter.unusedSimpArgs false

theorem below_dN {B : Nat} {w w' : World} (h : Below B w w') (n : Nat) : Below B w (w'.drewN n) := ⟨h.os, h.tape, h.output, h.size, h.block⟩
theorem bools_eq {as' bs : List Bool} {n : Nat} (h1 : as'.length = n) (h2 : bs.length = n) (h : ∀ j, j < n → as'.getD j false = bs.getD j false) : as' = bs := by
 apply List.ext_getElem (by omega)
 intro i h3 h4
 have := h i (by omega)
 simpa [h3, h4] using this
set_option maxHeartbeats 4000000 in
theorem sameQ_any (ys bs : List Bool) (a1 a2 : Option Addr) (n c1 c2 : Nat) (w : World) (h1 : RdT w a1 n ys) (h2 : RdT w a2 n bs) (hn : n ≤ 1000) :
 Calls Tryd.prog 19 #[.slice a1 n c1, .slice a2 n c2] w fun e w' => e = .returned (.bool (decide (ys = bs))) ∧ ∃ m, w' = w.drewN m := by
 have HL : Hid (ys.length = n ∧ bs.length = n) := ⟨h1.1, h2.1⟩
 have HA : Hid (RdT w a1 n ys) := h1
 have HB : Hid (RdT w a2 n bs) := h2
 have hni : (n : Int) ≤ 1000 := by omega
 obtain ⟨R, hR⟩ : ∃ R, R = decide (ys = bs) := ⟨_, rfl⟩
 rw [← hR]
 have HR : Hid (R = decide (ys = bs)) := hR
 clear h1 h2 hR
 go_enter Tryd.func19, Tryd.ntmps19
 go_wp2
 go_loopw [5] (fun x5 wr => ∃ k : Nat, k ≤ n ∧ x5 = .int .i64 k ∧ (∀ j, j < k → ys.getD j false = bs.getD j false) ∧ ∃ m, wr = w.drewN m) (fun x5 _ => n - (intOf x5).toNat)
 case atStart => exact ⟨0, by omega, rfl, fun j hj => absurd hj (by omega), 0, rfl⟩
 case round =>
  obtain ⟨k, hk, hx5, hat, hbl⟩ := hrel
  subst hx5
  have HBL : Hid (Below w.heap.size w wr) := by obtain ⟨m0, rfl⟩ := hbl; exact below_dN (Below.refl _ _) _
  have HMM : Hid (∃ m, wr = w.drewN m) := hbl
  have HMN : Hid (∀ n, ∃ m, wr.drewN n = w.drewN m) := fun n => by obtain ⟨m0, rfl⟩ := hbl; exact ⟨m0 + n, World.drewN_drewN _ _ _⟩
  clear hbl
  have HAT : Hid (∀ j, j < k → ys.getD j false = bs.getD j false) := hat
  clear hat
  by_cases hlt : k < n
  ·obtain ⟨b1, o1, rfl, e1⟩ := (HA.out.later HBL.out).2 (by omega)
   obtain ⟨b2, o2, rfl, e2⟩ := (HB.out.later HBL.out).2 (by omega)
   have t1 := e1 k hlt
   have t2 := e2 k hlt
   obtain ⟨x, hx⟩ : ∃ x, x = ys.getD k false := ⟨_, rfl⟩
   obtain ⟨y, hy⟩ : ∃ y, y = bs.getD k false := ⟨_, rfl⟩
   have HXY : Hid (x = ys.getD k false ∧ y = bs.getD k false) := ⟨hx, hy⟩
   rw [← hx] at t1
   rw [← hy] at t2
   have hki : (k : Int) < (n : Int) := by omega
   have hk0 : (0 : Int) ≤ (k : Int) := by omega
   clear e1 e2 hx hy
   by_cases hxy : x = y
   ·subst hxy
    have hbb : (x != x) = false := by simp
    go_wp2_with fail
    go_quiet (fail)
    go_wp2
    go_roundw
    case rel =>
     refine ⟨k + 1, by omega, by go_num, fun j hj => ?_, HMN.out nq⟩
     rcases Nat.lt_or_ge j k with h | h
     ·exact HAT.out j h
     ·obtain rfl : j = k := by omega
      rw [← HXY.out.1, ← HXY.out.2]
    case measure => first | (simp [intOf]; done) | (simp [intOf]; omega)
   ·have hRf : R = false := by
     rw [HR.out, decide_eq_false_iff_not]
     intro e
     apply hxy
     rw [HXY.out.1, HXY.out.2, e]
    subst hRf
    have hbb : (x == y) = false := by cases x <;> cases y <;> simp_all
    have hbc : (x != y) = true := by cases x <;> cases y <;> simp_all
    go_wp2_with fail
    go_quiet (fail)
    go_wp2
    go_ret
    exact ⟨rfl, HMN.out nq⟩
  ·obtain rfl : k = n := by omega
   have hRt : R = true := by
    rw [HR.out, decide_eq_true_eq]
    exact bools_eq HL.out.1 HL.out.2 HAT.out
   subst hRt
   go_wp2
   go_ret
   exact ⟨rfl, HMM.out⟩
theorem sameL_any (ys bs : List Bool) (a1 a2 : Option Addr) (n c1 c2 : Nat) (w : World) (h1 : RdT w a1 n ys) (h2 : RdT w a2 n bs) (hn : n ≤ 1000) :
 Calls Tryd.prog 19 #[.slice a1 n c1, .slice a2 n c2] w fun e w' => e = .returned (.bool (decide (ys = bs))) ∧ Below w.heap.size w w' :=
 (sameQ_any ys bs a1 a2 n c1 c2 w h1 h2 hn).mono fun e w' ⟨he, m, hm⟩ => ⟨he, by rw [hm]; exact below_dN (Below.refl _ _) m⟩
end Go.Proofs.YtcafffohnokjgaaDoor

/- The walk of shown. -/
namespace Go.Proofs.YtcafffohnokjgaaDoor
open Go.RowKit Go.Shelf Go.Maps
set_option linter.unusedVariables false
set_option linter.unusedSimpArgs false

end Go.Proofs.YtcafffohnokjgaaDoor

/- The walk of the reference's Decide. -/
namespace Go.Proofs.YtcafffohnokjgaaDoor
open Go.RowKit Go.Shelf
set_option linter.unusedVariables false
set_option linter.unusedSimpArgs false

end Go.Proofs.YtcafffohnokjgaaDoor

/- The walk of TablesDecide. -/
namespace Go.Proofs.YtcafffohnokjgaaDoor
open Go.RowKit Go.Shelf Go.Maps
set_option linter.unusedVariables false
set_option linter.unusedSimpArgs false

theorem box2 {w : World} {B : Nat} {a b : Value} {t : TypeId} (hh : w.heap[B]? = some (.cells #[a, b] t)) : (w.cell? ⟨B, 0, none⟩ = some a ∧ w.cell? ⟨B, 1, none⟩ = some b) ∧ w.frozen? ⟨B, 0, none⟩ = false ∧ w.frozen? ⟨B, 1, none⟩ = false :=
 ⟨⟨cell_of_row w B 0 _ _ _ hh, cell_of_row w B 1 _ _ _ hh⟩, Lib.frozen_of_heap hh 0, Lib.frozen_of_heap hh 1⟩
end Go.Proofs.YtcafffohnokjgaaDoor

/- A ruleset that comes in. -/
namespace Go.Proofs.YtcafffohnokjgaaDoor
open Go.ChangeShapes Go.WideShapes Go.ChangeAt Go.RowKit
set_option linter.unusedVariables false
set_option linter.unusedSimpArgs false

set_option maxRecDepth 100000 in
theorem wRs {H : Type} (d0 d1 : DataW H) (h : ((DataW.agg [d0, d1]).weights Tryd.prog 25).all (· ≤ reachBytes) = true) : (d0.weights Tryd.prog 22).all (· ≤ reachBytes) = true ∧ (d1.weights Tryd.prog 23).all (· ≤ reachBytes) = true := by
 simp only [DataW.weights, Tryd.underlying25, DataW.weightsEach, List.map_cons, List.map_nil, List.all_append, Bool.and_eq_true] at h
 exact ⟨h.1, h.2.1⟩
set_option maxRecDepth 100000 in
theorem open_ruleset {H : Type} {enc : TypeId × Value → H} {W : World} {base : Nat} {v : Value} {d : DataW H} {p : List MemPlace} (hval : Value.okWide Tryd.prog W .any base 25 v) (h : DataW.Trod enc Tryd.prog W 0 (fun _ => true) true 25 v d p) (hw : (d.weights Tryd.prog 25).all (· ≤ reachBytes) = true) :
 ∃ D K l ca cc ra rc, v = .agg #[.slice ca K cc, .slice ra l.length rc] ∧ RowR W D ra l.length l ∧ l.length ≤ 140737488355328 ∧ l.length ≤ rc ∧ K ≤ cc ∧ K ≤ 140737488355328 := by
 obtain ⟨cs, rfl, _⟩ := okWide_struct Tryd.underlying25 hval
 obtain ⟨fuel, hf⟩ := h
 obtain ⟨xs, k, rfl, hxy, hlen, hxl, hfl⟩ := DataW.trod_struct Tryd.underlying25 hf
 have c0 : Tryd.prog.cellsOf 22 = 1 := by kernel_rfl
 have c1 : Tryd.prog.cellsOf 23 = 1 := by kernel_rfl
 have cr : Tryd.prog.cellsOf 25 = 2 := by kernel_rfl
 have bs : Tryd.prog.bytesOf 9 = 16 := by kernel_rfl
 rw [cr] at hlen
 have hlen2 : cs.toList.length = 2 := hlen
 have hx2 : xs.length = 2 := hxl
 obtain ⟨v0, v1, rfl⟩ : ∃ v0 v1, cs = #[v0, v1] := by
  obtain ⟨l⟩ := cs
  rcases l with _ | ⟨v0, _ | ⟨v1, _ | ⟨v2, r⟩⟩⟩
  all_goals first | exact ⟨_, _, rfl⟩ | (simp at hlen2)
 obtain ⟨y0, y1, rfl⟩ : ∃ y0 y1, xs = [y0, y1] := by
  rcases xs with _ | ⟨v0, _ | ⟨v1, _ | ⟨v2, r⟩⟩⟩
  all_goals first | exact ⟨_, _, rfl⟩ | (simp at hx2)
 have g0 := hfl 0 _ rfl
 have g1 := hfl 1 _ rfl
 simp [c0, c1, Value.cells] at g0 g1
 have hd : d = .agg [y0.1, y1.1] := congrArg Prod.fst hxy
 rw [hd] at hw
 obtain ⟨hw0, hw1⟩ := wRs y0.1 y1.1 hw
 have hs : ∃ ca K cc, v0 = .slice ca K cc ∧ K ≤ cc ∧ K ≤ 140737488355328 := by
  rcases DataW.trod_slice Tryd.underlying22 g0 with ⟨hcs, _⟩ | ⟨x, l, c, elems, rest, n, hn, hcs, hyy, _, hl, hm, hel, hat, hsp, _⟩
  ·simp at hcs
   exact ⟨none, 0, 0, hcs, by omega, by omega⟩
  ·simp at hcs
   have hd0 : y0.1 = .slice (elems.map (·.1)) (rest.map (·.1)) := congrArg Prod.fst hyy
   rw [hd0] at hw0
   simp only [DataW.weights, Tryd.underlying22, List.all_cons, List.all_append, Bool.and_eq_true, decide_eq_true_eq, List.length_map, bs, reachBytes] at hw0
   obtain ⟨hw3, _⟩ := hw0
   have hw5 : (elems.length + rest.length) * 16 ≤ 140737488351232 := of_decide_eq_true hw3
   exact ⟨some x, l, c, hcs, hl, by omega⟩
 have hs1 : ∃ ra n rc, v1 = .slice ra n rc := by
  rcases DataW.trod_slice Tryd.underlying23 g1 with ⟨hcs, _⟩ | ⟨x, l, c, elems, rest, n, hn, hcs, _⟩
  ·simp at hcs; exact ⟨_, _, _, hcs⟩
  ·simp at hcs; exact ⟨_, _, _, hcs⟩
 obtain ⟨ca, K, cc, rfl, hK, hK2⟩ := hs
 obtain ⟨ra, n, rc, rfl⟩ := hs1
 obtain ⟨D, l, hr, hn, hnc⟩ := open_rules (d := y1.1) (p := y1.2) ⟨k, g1⟩ hw1
 obtain ⟨rfl⟩ : n = l.length := hr.1.symm
 exact ⟨D, K, l, ca, cc, ra, rc, rfl, hr, hn, hnc, hK, hK2⟩
end Go.Proofs.YtcafffohnokjgaaDoor

/- The frame that every statement of this layer stands in: what the listed variables give a walk; a world in which they are laid. -/
namespace Go.Proofs.YtcafffohnokjgaaDoor
open Go.ChangeShapes Go.WideShapes Go.ChangeAt Go.RowKit
set_option linter.unusedVariables false

theorem own : ownKnob Tryd.prog.godebug = none := by kernel_rfl
theorem laidOut : laidOutB Tryd.prog = true := by kernel_rfl
theorem returns_sized {H : Type} {enc : TypeId × Value → H} {a : Assume} {C : Checked} {os : Os} {f : FuncId} {fn : Func} {s : ChangeSpec} {conds : List PathCond} {apart fresh handsOn again : Bool} {X : World → Array Value → Prop}
 (hX : ∀ (w w' : World) (args : Array Value), w.heap = w'.heap → X w args → X w' args)
 (own : ownKnob C.prog.godebug = none) (started : os.Started) (noInit : C.prog.inits.idxOf? f = none) (hfn : C.prog.funcs[f]? = some fn)
 (witness : ∃ (w : World) (tape : Tape) (i : Input), w.os = os ∧ (w.forCall tape i).Shaped C.prog ∧ i.vars = [] ∧ Input.okWide C.prog (w.forCall tape i) .any w.heap.size f i ∧
  ((s.pre enc C.prog fn conds apart (w.forCall tape i).memory i.args ∧ X (w.forCall tape i).memory i.args) ∧ sizedMet enc C.prog fn (OpenSpec.ofChange s) apart (w.forCall tape i).memory i.args) ∧ a.holds C.prog (lone (Frame.enter C.prog f i.args .normal) [] (w.forCall tape i)))
 (contract : ∀ (W : World) (base : Nat) (args : Array Value) (ds gs : List (DataW H)) (before : List MemPlace),
  (∀ (j : Nat) t v, fn.params[j]? = some t → args[j]? = some v → Value.okWide C.prog W .any base t v) →
  DataW.Whole enc C.prog fn.params.toList s.vars apart W args.toList ds gs before → X W args →
  (DataW.weightsEach C.prog (fn.params.toList ++ (OpenSpec.ofChange s).bare.plain.varTypes C.prog) (ds ++ gs)).all (· ≤ reachBytes) = true →
  Calls C.prog f args W fun e W' => ∃ v, e = .returned v ∧ s.post enc C.prog fn apart fresh handsOn again W args v W') :
 ReturnsInHanded a C os f .any (fun w args => (s.pre enc C.prog fn conds apart w args ∧ X w args) ∧ sizedMet enc C.prog fn (OpenSpec.ofChange s) apart w args) (s.post enc C.prog fn apart fresh handsOn again) := by
 refine returnsInHanded_of_calls own started noInit witness ?_
 intro w tape i _ hsh _ hok hpre _
 obtain ⟨_, _, _, fn', hfn', _, _, _, _, hval⟩ := hok
 have e : fn' = fn := Option.some.inj (hfn'.symm.trans hfn)
 subst e
 obtain ⟨⟨⟨ds, gs, before, hw, hc⟩, hx⟩, hz⟩ := hpre
 have hw' := DataW.Whole.of_heap (w' := w.forCall tape i) (by rfl) hw
 refine (contract (w.forCall tape i) w.heap.size i.args ds gs before hval hw' (hX _ _ _ (by rfl) hx) (hz.weights hw)).mono fun e W' ⟨v, he, hp⟩ => ?_
 subst he
 exact ChangeSpec.post_blind hp
def listD : List (String × DataW Unit) := Rows.segStepsRow.laid
def laidWorldD (P : Program) (os : Os) : World := (World.holding P os ⟨#[], #[], []⟩).layVars P listD
theorem laidWorldD_data (os : Os) : laidMet Tryd.prog listD (laidWorldD Tryd.prog os) := by
 have e1 : (listD.filter fun x => (listD.map (·.1)).contains x.1) = listD := List.filter_eq_self.2 fun x hx => List.contains_iff_mem.2 (List.mem_map.2 ⟨x, hx, rfl⟩)
 have e2 : (listD.filter fun x => !(listD.map (·.1)).contains x.1) = [] := List.filter_eq_nil_iff.2 fun x hx => by rw [List.contains_iff_mem.2 (List.mem_map.2 ⟨x, hx, rfl⟩)]; simp
 exact laidMet_layVars (w0 := World.holding Tryd.prog os ⟨#[], #[], []⟩) (listD.map (·.1)) [] (by rw [e1]; rfl) (by rw [e1]; kernel_rfl) (by rw [e1]; kernel_rfl) (by rw [e2]; exact LaidIn.none)
theorem laidWorldD_met (os : Os) (args : Array Value) (l : List (String × DataW Unit)) (hl : l = listD) :
 laidMetH Tryd.prog l ((laidWorldD Tryd.prog os).forCall (fun _ _ => 0) ⟨#[], args, []⟩).memory := by
 subst hl
 refine laidMetH_of_parts ?_ (by kernel_rfl)
 exact (laidWorldD_data os).of_heap (by simp [World.memory, World.forCall, Input.heap])
theorem tabD_data : Rows.laid_math_bits_deBruijn64tab = (Lib.tabData .u8 (Lib.deBruijn64tab.map Int.ofNat) : DataW Unit) := by kernel_rfl
theorem globD : Tryd.prog.globalNamed "math/bits.deBruijn64tab" = some 0 := by kernel_rfl
theorem tab_head {W : World} {rest : List (String × DataW Unit)} (h3 : laidMet Tryd.prog (("math/bits.deBruijn64tab", Rows.laid_math_bits_deBruijn64tab) :: rest) W) : TabD W := by
 rw [tabD_data] at h3
 have h4 := Lib.tabIs_of_head (g := 0) (t := 151) (e := 5) (n := 64) globD (by kernel_rfl) Tryd.underlying151 Tryd.underlying5 (by kernel_rfl) (by kernel_rfl) h3
 intro j hj
 have h5 := World.var?_cell globD h4 j
 rw [h5]
 have hl : j < Lib.deBruijn64tab.length := by have : Lib.deBruijn64tab.length = 64 := by decide
                                              omega
 simp [List.getD_eq_getElem?_getD, hl]
theorem tabD_of {W : World} {l : List (String × DataW Unit)} (hl : l = listD) (h : laidMetH Tryd.prog l W) : TabD W := by
 subst hl
 have h3 : laidMet Tryd.prog listD W := h
 first | exact tab_head h3 | exact tab_head (laidMet.tail h3) | exact tab_head (laidMet.tail (laidMet.tail h3))
end Go.Proofs.YtcafffohnokjgaaDoor

/- Plain mathematics of reading: which rows an expression means, and that what it tells along a text is where these end; nothing of the program is named here. -/
namespace Go.Proofs.YtcafffohnokjgaaDoor
set_option linter.unusedVariables false
set_option linter.unusedSimpArgs false

abbrev Lg := List Int → Prop
def starG (L : Lg) : Lg := fun w => ∃ n, powL L n w
def nodeG (op : Int) (cl : List Int) (ks : List Lg) (w : List Int) : Prop :=
 if op = 0 then w = [] else if op = 1 then ∃ c, c ∈ cl ∧ w = [c] else if op = 2 then seqL ks w else if op = 3 then altL ks w else if op = 4 then ∃ k, ks = [k] ∧ starG k w else if op = 5 then ∃ k, ks = [k] ∧ (w = [] ∨ k w) else False
def lgF : Fo → List Lg
 | .nil => []
 | .node _ _ a k r => nodeG a.1 a.2 (lgF k) :: lgF r
def Nd.lg (n : Nd) : Lg := nodeG n.op n.cl (lgF n.kids)
theorem lgF_map : (f : Fo) → lgF f = (toL f).map Nd.lg
 | .nil => rfl
 | .node _ _ a k r => by simp only [lgF, toL, List.map_cons, lgF_map r]; rfl
theorem lg_eq (n : Nd) : n.lg = nodeG n.op n.cl ((toL n.kids).map Nd.lg) := by
 show nodeG _ _ (lgF n.kids) = _
 rw [lgF_map]

/-! Where rows end that began at a mark. -/
def chs (h : Hist) : List Int := (h.map (fun x => x.1)).reverse
theorem chs_app (u v : Hist) : chs (u ++ v) = chs v ++ chs u := by simp [chs]
theorem chs_cons (c : Int) (b : Bool) (h : Hist) : chs ((c, b) :: h) = chs h ++ [c] := by simp [chs]
def EndsH (L : Lg) (h : Hist) : Prop := ∃ u c q, h = u ++ (c, true) :: q ∧ L (c :: chs u)
def SemD (k : Dn) (L : Lg) : Prop := (k.1 = true ↔ L []) ∧ ∀ h, k.2 h = true ↔ EndsH L h
def SemL : List Dn → List Lg → Prop
 | [], [] => True
 | k :: r, L :: Ls => SemD k L ∧ SemL r Ls
 | _, _ => False
theorem semL_len : (ks : List Dn) → (Ls : List Lg) → SemL ks Ls → ks.length = Ls.length
 | [], [], _ => rfl
 | k :: r, L :: Ls, h => by simp [semL_len r Ls h.2]
 | [], _ :: _, h => h.elim
 | _ :: _, [], h => h.elim
theorem endsH_nil (L : Lg) : ¬ EndsH L [] := by
 rintro ⟨u, c, q, h, _⟩
 simp at h
theorem endsH_next (R : Lg) (e : Bool) (F : Hist → Bool) (h : Hist) : EndsH R (nextH e F h) ↔ ∃ u d x v, h = u ++ (d, x) :: v ∧ (F v || (x && e)) = true ∧ R (d :: chs u) := by
 have key : ∀ (h : Hist) (R : Lg), EndsH R (nextH e F h) ↔ ∃ u d x v, h = u ++ (d, x) :: v ∧ (F v || (x && e)) = true ∧ R (d :: chs u) := by
  intro h
  induction h with
  | nil =>
    intro R
    constructor
    ·intro h; exact absurd h (endsH_nil R)
    ·rintro ⟨u, d, x, v, h, _⟩; simp at h
  | cons a h ih =>
    intro R
    obtain ⟨c, b⟩ := a
    have ih2 := ih (fun w => R (w ++ [c]))
    constructor
    ·rintro ⟨u, d, q, h1, h2⟩
     cases u with
     | nil =>
       simp only [nextH, List.nil_append, List.cons.injEq, Prod.mk.injEq] at h1
       obtain ⟨⟨h3, h4⟩, h5⟩ := h1
       exact ⟨[], c, b, h, rfl, h4, by rw [h3]; exact h2⟩
     | cons y u =>
       simp only [nextH, List.cons_append, List.cons.injEq] at h1
       obtain ⟨h3, h5⟩ := h1
       have : EndsH (fun w => R (w ++ [c])) (nextH e F h) := by
        refine ⟨u, d, q, h5, ?_⟩
        rw [← h3] at h2
        rw [chs_cons] at h2
        exact h2
       obtain ⟨u', d', x, v, e1, e2, e3⟩ := ih2.1 this
       exact ⟨(c, b) :: u', d', x, v, by rw [e1]; rfl, e2, by rw [chs_cons]; exact e3⟩
    ·rintro ⟨u, d, x, v, h1, h2, h3⟩
     cases u with
     | nil =>
       simp only [List.nil_append, List.cons.injEq, Prod.mk.injEq] at h1
       obtain ⟨⟨rfl, rfl⟩, rfl⟩ := h1
       exact ⟨[], c, nextH e F h, by simp only [nextH, h2]; rfl, h3⟩
     | cons y u =>
       simp only [List.cons_append, List.cons.injEq] at h1
       obtain ⟨rfl, rfl⟩ := h1
       rw [chs_cons] at h3
       obtain ⟨u', d', q, e1, e2⟩ := ih2.2 ⟨u, d, x, v, rfl, h2, h3⟩
       refine ⟨(c, F (u ++ (d, x) :: v) || (b && e)) :: u', d', q, by rw [nextH, e1]; rfl, ?_⟩
       rw [chs_cons]; exact e2
 exact key h R
theorem chs_split {h : Hist} {a b : List Int} (e : chs h = a ++ b) : ∃ u v, h = u ++ v ∧ chs u = b ∧ chs v = a := by
 have h1 : h.map (fun x => x.1) = b.reverse ++ a.reverse := by
  have : (h.map (fun x => x.1)).reverse.reverse = (a ++ b).reverse := by rw [← e]; rfl
  rw [List.reverse_reverse, List.reverse_append] at this
  exact this
 obtain ⟨u, v, h2, h3, h4⟩ := List.map_eq_append_iff.1 h1
 refine ⟨u, v, h2, ?_, ?_⟩
 ·unfold chs; rw [h3]; simp
 ·unfold chs; rw [h4]; simp
def seqG (K R : Lg) : Lg := fun w => ∃ u v, w = u ++ v ∧ K u ∧ R v
theorem endsH_seq {k : Dn} {K R : Lg} (hk : SemD k K) (h : Hist) : EndsH (seqG K R) h ↔ (k.2 h = true ∧ R []) ∨ EndsH R (nextH k.1 k.2 h) := by
 rw [endsH_next]
 constructor
 ·rintro ⟨u, c, q, rfl, a, b, e, ha, hb⟩
  cases a with
  | nil =>
    right
    rw [List.nil_append] at e
    exact ⟨u, c, true, q, rfl, by rw [hk.1.2 ha]; simp, by rw [e]; exact hb⟩
  | cons c' a =>
    simp only [List.cons_append, List.cons.injEq] at e
    obtain ⟨rfl, e⟩ := e
    obtain ⟨u1, u2, rfl, e1, e2⟩ := chs_split e
    have hF : k.2 (u2 ++ (c, true) :: q) = true := (hk.2 _).2 ⟨u2, c, q, rfl, by rw [e2]; exact ha⟩
    rcases List.eq_nil_or_concat u1 with rfl | ⟨u1', y, rfl⟩
    ·left
     have : b = [] := by rw [← e1]; rfl
     rw [this] at hb
     exact ⟨by simpa using hF, hb⟩
    ·right
     obtain ⟨d, x⟩ := y
     refine ⟨u1', d, x, u2 ++ (c, true) :: q, by simp, by rw [hF]; rfl, ?_⟩
     rw [← e1] at hb
     simpa [chs] using hb
 ·rintro (⟨h1, h2⟩ | ⟨u, d, x, v, rfl, h1, h2⟩)
  ·obtain ⟨u, c, q, rfl, h3⟩ := (hk.2 h).1 h1
   exact ⟨u, c, q, rfl, c :: chs u, [], by simp, h3, h2⟩
  ·rw [Bool.or_eq_true, Bool.and_eq_true] at h1
   rcases h1 with h1 | ⟨h1, h3⟩
   ·obtain ⟨u', c, q, rfl, h4⟩ := (hk.2 v).1 h1
    refine ⟨u ++ (d, x) :: u', c, q, by simp, c :: chs u', d :: chs u, ?_, h4, h2⟩
    rw [chs_app, chs_cons]
    simp
   ·subst h1
    exact ⟨u, d, v, rfl, [], d :: chs u, rfl, hk.1.1 h3, h2⟩
theorem row_sem : (ks : List Dn) → (Ls : List Lg) → SemL ks Ls → (acc : Bool) → (h : Hist) → (rowE acc ks h = true ↔ (acc = true ∧ seqL Ls []) ∨ EndsH (seqL Ls) h)
 | [], [], _, acc, h => by
   simp only [rowE, seqL, and_true]
   constructor
   ·intro h; exact .inl h
   ·rintro (h | ⟨u, c, q, _, h2⟩)
    ·exact h
    ·cases h2
 | k :: r, L :: Ls, hf, acc, h => by
   obtain ⟨hk, hr⟩ := hf
   rw [rowE, row_sem r Ls hr]
   have e : EndsH (seqL (L :: Ls)) h ↔ EndsH (seqG L (seqL Ls)) h := Iff.rfl
   rw [e, endsH_seq hk h, Bool.or_eq_true, Bool.and_eq_true, hk.1]
   have e2 : seqL (L :: Ls) [] ↔ L [] ∧ seqL Ls [] := by
    simp only [seqL]
    constructor
    ·rintro ⟨u, v, h1, h2, h3⟩
     have h4 := List.append_eq_nil_iff.1 h1.symm
     rw [h4.1] at h2
     rw [h4.2] at h3
     exact ⟨h2, h3⟩
    ·rintro ⟨h1, h2⟩
     exact ⟨[], [], rfl, h1, h2⟩
   rw [e2]
   constructor
   ·rintro (⟨h1 | ⟨h1, h2⟩, h3⟩ | h1)
    ·exact .inr (.inl ⟨h1, h3⟩)
    ·exact .inl ⟨h1, h2, h3⟩
    ·exact .inr (.inr h1)
   ·rintro (⟨h1, h2, h3⟩ | ⟨h1, h3⟩ | h1)
    ·exact .inl ⟨.inr ⟨h1, h2⟩, h3⟩
    ·exact .inl ⟨.inl h1, h3⟩
    ·exact .inr h1
 | [], _ :: _, h, _, _ => h.elim
 | _ :: _, [], h, _, _ => h.elim
theorem any_sem : (ks : List Dn) → (Ls : List Lg) → SemL ks Ls → ((ks.any (fun k => k.1) = true ↔ altL Ls []) ∧ ∀ h, (anyE ks h = true ↔ EndsH (altL Ls) h))
 | [], [], _ => by
   refine ⟨by simp [altL], fun h => ?_⟩
   simp only [anyE, List.any_nil, Bool.false_eq_true, false_iff]
   rintro ⟨_, _, _, _, h2⟩
   simp [altL] at h2
 | k :: r, L :: Ls, hf => by
   obtain ⟨hk, hr⟩ := hf
   obtain ⟨i1, i2⟩ := any_sem r Ls hr
   have hc : ∀ w, altL (L :: Ls) w ↔ L w ∨ altL Ls w := by intro w; simp [altL]
   refine ⟨?_, fun h => ?_⟩
   ·rw [List.any_cons, Bool.or_eq_true, hk.1, i1, hc]
   ·have e : anyE (k :: r) h = (k.2 h || anyE r h) := by simp [anyE]
    rw [e, Bool.or_eq_true, hk.2, i2]
    unfold EndsH
    simp only [hc]
    constructor
    ·rintro (⟨u, c, q, h1, h2⟩ | ⟨u, c, q, h1, h2⟩)
     ·exact ⟨u, c, q, h1, .inl h2⟩
     ·exact ⟨u, c, q, h1, .inr h2⟩
    ·rintro ⟨u, c, q, h1, h2 | h2⟩
     ·exact .inl ⟨u, c, q, h1, h2⟩
     ·exact .inr ⟨u, c, q, h1, h2⟩
 | [], _ :: _, h => h.elim
 | _ :: _, [], h => h.elim
theorem all_sem : (ks : List Dn) → (Ls : List Lg) → SemL ks Ls → (ks.all (fun k => k.1) = true ↔ seqL Ls [])
 | [], [], _ => by simp [seqL]
 | k :: r, L :: Ls, hf => by
   obtain ⟨hk, hr⟩ := hf
   rw [List.all_cons, Bool.and_eq_true, hk.1, all_sem r Ls hr]
   simp only [seqL]
   constructor
   ·rintro ⟨h1, h2⟩
    exact ⟨[], [], rfl, h1, h2⟩
   ·rintro ⟨u, v, h1, h2, h3⟩
    have h4 := List.append_eq_nil_iff.1 h1.symm
    rw [h4.1] at h2
    rw [h4.2] at h3
    exact ⟨h2, h3⟩
 | [], _ :: _, h => h.elim
 | _ :: _, [], h => h.elim
/-! Any number. -/
theorem pow_end (k : Lg) : (n : Nat) → (w : List Int) → (powL k (n + 1) w ↔ ∃ u v, w = u ++ v ∧ powL k n u ∧ k v)
 | 0, w => by
   simp only [powL]
   constructor
   ·rintro ⟨u, v, rfl, h, rfl⟩; exact ⟨[], u, by simp, rfl, h⟩
   ·rintro ⟨u, v, rfl, rfl, h⟩; exact ⟨v, [], by simp, h, rfl⟩
 | n + 1, w => by
   constructor
   ·rintro ⟨u, v, rfl, h1, h2⟩
    obtain ⟨a, b, rfl, h3, h4⟩ := (pow_end k n v).1 h2
    exact ⟨u ++ a, b, by simp, ⟨u, a, rfl, h1, h3⟩, h4⟩
   ·rintro ⟨u, v, rfl, ⟨a, b, rfl, h1, h2⟩, h3⟩
    exact ⟨a, b ++ v, by simp, h1, (pow_end k n _).2 ⟨b, v, rfl, h2, h3⟩⟩
theorem star_last (K : Lg) : (n : Nat) → (w : List Int) → powL K n w → w ≠ [] → ∃ u v, w = u ++ v ∧ starG K u ∧ K v ∧ v ≠ []
 | 0, w, h, hne => absurd h hne
 | n + 1, w, h, hne => by
   obtain ⟨u, v, rfl, h1, h2⟩ := (pow_end K n w).1 h
   by_cases hv : v = []
   ·subst hv
    rw [List.append_nil] at hne ⊢
    exact star_last K n u h1 hne
   ·exact ⟨u, v, rfl, ⟨n, h1⟩, h2, hv⟩
theorem endsH_star (K : Lg) (F : Hist → Bool) (h : Hist) : EndsH K (starH F h) ↔ ∃ u d x v, h = u ++ (d, x) :: v ∧ (x || F (starH F v)) = true ∧ K (d :: chs u) := by
 have key : ∀ (h : Hist) (R : Lg), EndsH R (starH F h) ↔ ∃ u d x v, h = u ++ (d, x) :: v ∧ (x || F (starH F v)) = true ∧ R (d :: chs u) := by
  intro h
  induction h with
  | nil =>
    intro R
    constructor
    ·intro h; exact absurd h (endsH_nil R)
    ·rintro ⟨u, d, x, v, h, _⟩; simp at h
  | cons a h ih =>
    intro R
    obtain ⟨c, b⟩ := a
    have ih2 := ih (fun w => R (w ++ [c]))
    constructor
    ·rintro ⟨u, d, q, h1, h2⟩
     cases u with
     | nil =>
       simp only [starH, List.nil_append, List.cons.injEq, Prod.mk.injEq] at h1
       obtain ⟨⟨h3, h4⟩, h5⟩ := h1
       exact ⟨[], c, b, h, rfl, h4, by rw [h3]; exact h2⟩
     | cons y u =>
       simp only [starH, List.cons_append, List.cons.injEq] at h1
       obtain ⟨h3, h5⟩ := h1
       have : EndsH (fun w => R (w ++ [c])) (starH F h) := by
        refine ⟨u, d, q, h5, ?_⟩
        rw [← h3, chs_cons] at h2
        exact h2
       obtain ⟨u', d', x, v, e1, e2, e3⟩ := ih2.1 this
       exact ⟨(c, b) :: u', d', x, v, by rw [e1]; rfl, e2, by rw [chs_cons]; exact e3⟩
    ·rintro ⟨u, d, x, v, h1, h2, h3⟩
     cases u with
     | nil =>
       simp only [List.nil_append, List.cons.injEq, Prod.mk.injEq] at h1
       obtain ⟨⟨rfl, rfl⟩, rfl⟩ := h1
       exact ⟨[], c, starH F h, by simp only [starH, h2]; rfl, h3⟩
     | cons y u =>
       simp only [List.cons_append, List.cons.injEq] at h1
       obtain ⟨rfl, rfl⟩ := h1
       rw [chs_cons] at h3
       obtain ⟨u', d', q, e1, e2⟩ := ih2.2 ⟨u, d, x, v, rfl, h2, h3⟩
       refine ⟨(c, b || F (starH F (u ++ (d, x) :: v))) :: u', d', q, by rw [starH, e1]; rfl, ?_⟩
       rw [chs_cons]; exact e2
 exact key h K
theorem star_sem {F : Hist → Bool} {K : Lg} (hF : ∀ h, F h = true ↔ EndsH K h) : (n : Nat) → (h : Hist) → h.length ≤ n → (F (starH F h) = true ↔ EndsH (starG K) h)
 | 0, h, hn => by
   have : h = [] := List.eq_nil_of_length_eq_zero (by omega)
   subst this
   rw [hF]
   constructor
   ·intro h; exact absurd h (endsH_nil K)
   ·intro h; exact absurd h (endsH_nil _)
 | n + 1, h, hn => by
   rw [hF, endsH_star]
   constructor
   ·rintro ⟨u, d, x, v, rfl, h1, h2⟩
    rw [Bool.or_eq_true] at h1
    rcases h1 with rfl | h1
    ·exact ⟨u, d, v, rfl, 1, d :: chs u, [], by simp, h2, rfl⟩
    ·obtain ⟨u', c, q, rfl, m, h4⟩ := (star_sem hF n v (by simp at hn; omega)).1 h1
     refine ⟨u ++ (d, x) :: u', c, q, by simp, m + 1, (pow_end K m _).2 ⟨c :: chs u', d :: chs u, ?_, h4, h2⟩⟩
     rw [chs_app, chs_cons]
     simp
   ·rintro ⟨u, c, q, rfl, m, h2⟩
    obtain ⟨a, b, e, h3, h4, h5⟩ := star_last K m _ h2 (by simp)
    cases a with
    | nil =>
      rw [List.nil_append] at e
      exact ⟨u, c, true, q, rfl, rfl, by rw [e]; exact h4⟩
    | cons c' a =>
      simp only [List.cons_append, List.cons.injEq] at e
      obtain ⟨rfl, e⟩ := e
      obtain ⟨u1, u2, rfl, e1, e2⟩ := chs_split e
      rcases List.eq_nil_or_concat u1 with rfl | ⟨u1', y, rfl⟩
      ·exact absurd (by rw [← e1]; rfl) h5
      ·obtain ⟨d, x⟩ := y
       refine ⟨u1', d, x, u2 ++ (c, true) :: q, by simp, ?_, ?_⟩
       ·rw [(star_sem hF n (u2 ++ (c, true) :: q) (by simp at hn ⊢; omega)).2 ⟨u2, c, q, rfl, by rw [e2]; exact h3⟩]
        simp
       ·rw [← e1] at h4
        simpa [chs] using h4
/-! A node by its parts. -/
theorem one_sem {ks : List Dn} {Ls : List Lg} (hf : SemL ks Ls) (hl : Ls.length ≤ 1) : (ks = [] ∧ Ls = []) ∨ ∃ k K, ks = [k] ∧ Ls = [K] ∧ SemD k K := by
 match ks, Ls, hf, hl with
 | [], [], _, _ => exact .inl ⟨rfl, rfl⟩
 | k :: r, K :: Ls, hf, hl =>
   have h1 : Ls = [] := List.eq_nil_of_length_eq_zero (by simp only [List.length_cons] at hl; omega)
   subst h1
   have h2 : r = [] := List.eq_nil_of_length_eq_zero (by have := semL_len _ _ hf.2; simpa using this)
   subst h2
   exact .inr ⟨k, K, rfl, rfl, hf.1⟩
theorem node_sem (op : Int) (cl : List Int) (ks : List Dn) (Ls : List Lg) (hf : SemL ks Ls) (hn : op = 4 ∨ op = 5 → Ls.length ≤ 1) : SemD (nodeM op ks, nodeE op cl ks) (nodeG op cl Ls) := by
 by_cases h0 : op = 0
 ·subst h0
  refine ⟨by simp [nodeM, nodeG], fun h => ?_⟩
  simp only [nodeE]
  constructor
  ·intro h; simp at h
  ·rintro ⟨_, _, _, _, h2⟩; simp [nodeG] at h2
 by_cases h1 : op = 1
 ·subst h1
  refine ⟨by simp [nodeM, nodeG], fun h => ?_⟩
  show setE cl h = true ↔ _
  cases h with
  | nil =>
    constructor
    ·intro h; simp [setE] at h
    ·intro h; exact absurd h (endsH_nil _)
  | cons a h =>
    obtain ⟨c, b⟩ := a
    simp only [setE, Bool.and_eq_true, decide_eq_true_eq]
    constructor
    ·rintro ⟨rfl, h2⟩
     exact ⟨[], c, h, rfl, by simp [nodeG, chs, h2]⟩
    ·rintro ⟨u, d, q, e, h2⟩
     have h3 : d ∈ cl ∧ chs u = [] := by
      have h4 : ∃ c, c ∈ cl ∧ d = c ∧ chs u = [] := by simpa [nodeG] using h2
      obtain ⟨c', k1, k2, k3⟩ := h4
      exact ⟨by rw [k2]; exact k1, k3⟩
     have hu : u = [] := by
      have := h3.2
      unfold chs at this
      simpa using this
     subst hu
     simp only [List.nil_append, List.cons.injEq, Prod.mk.injEq] at e
     exact ⟨e.1.2, by rw [e.1.1]; exact h3.1⟩
 by_cases h2 : op = 2
 ·subst h2
  refine ⟨?_, fun h => ?_⟩
  ·show (if (2 : Int) = 0 then true else _) = true ↔ _
   simpa [nodeM, nodeG] using all_sem ks Ls hf
  ·have := row_sem ks Ls hf false h
   simp only [Bool.false_eq_true, false_and, false_or] at this
   simpa [nodeE, nodeG, EndsH] using this
 by_cases h3 : op = 3
 ·subst h3
  obtain ⟨a1, a2⟩ := any_sem ks Ls hf
  refine ⟨by simpa [nodeM, nodeG] using a1, fun h => ?_⟩
  simpa [nodeE, nodeG, EndsH] using a2 h
 by_cases h4 : op = 4
 ·subst h4
  have hl := hn (.inl rfl)
  rcases one_sem hf hl with ⟨rfl, rfl⟩ | ⟨k, K, rfl, rfl, hk⟩
  ·refine ⟨by simp [nodeM, nodeG], fun h => ?_⟩
   constructor
   ·intro h; simp [nodeE, anyE] at h
   ·rintro ⟨_, _, _, _, h2⟩; simp [nodeG] at h2
  ·refine ⟨?_, fun h => ?_⟩
   ·simp only [nodeM, nodeG]
    simp
    exact ⟨0, rfl⟩
   ·have e : (fun h => anyE [k] h) = k.2 := by funext h; simp [anyE]
    have h5 := star_sem hk.2 h.length h (Nat.le_refl _)
    have h6 : nodeE 4 cl [k] h = k.2 (starH k.2 h) := by
     show anyE [k] (starH (anyE [k]) h) = _
     rw [show anyE [k] = k.2 from e]
    show nodeE 4 cl [k] h = true ↔ _
    rw [h6, h5]
    unfold EndsH
    simp [nodeG]
 by_cases h5 : op = 5
 ·subst h5
  have hl := hn (.inr rfl)
  rcases one_sem hf hl with ⟨rfl, rfl⟩ | ⟨k, K, rfl, rfl, hk⟩
  ·refine ⟨by simp [nodeM, nodeG], fun h => ?_⟩
   constructor
   ·intro h; simp [nodeE, anyE] at h
   ·rintro ⟨_, _, _, _, h2⟩; simp [nodeG] at h2
  ·refine ⟨by simp [nodeM, nodeG], fun h => ?_⟩
   have h6 : nodeE 5 cl [k] h = k.2 h := by
    show anyE [k] h = _
    simp [anyE]
   show nodeE 5 cl [k] h = true ↔ _
   rw [h6, hk.2]
   unfold EndsH
   simp [nodeG]
 ·refine ⟨by simp [nodeM, nodeG, h0, h1, h2, h3, h4, h5], fun h => ?_⟩
  constructor
  ·intro h; simp [nodeE, h0, h1, h2, h3, h4, h5] at h
  ·rintro ⟨_, _, _, _, hh⟩; simp [nodeG, h0, h1, h2, h3, h4, h5] at hh
end Go.Proofs.YtcafffohnokjgaaDoor

/- Plain mathematics of reading: what a rule asks of a text, by the rows that its sides mean; rules turned round; nothing of the program is named here. -/
namespace Go.Proofs.YtcafffohnokjgaaDoor
set_option linter.unusedVariables false
set_option linter.unusedSimpArgs false

def tL (t : Bool) (L : Lg) : Lg := fun w => L (if t then w.reverse else w)
theorem SemD.congr {k : Dn} {L L' : Lg} (h : SemD k L) (e : ∀ w, L w ↔ L' w) : SemD k L' := by
 refine ⟨h.1.trans (e _), fun x => (h.2 x).trans ?_⟩
 unfold EndsH
 simp only [e]
/-! One behind the other, turned. -/
theorem seq_app : (ls bs : List Lg) → (w : List Int) → (seqL (ls ++ bs) w ↔ ∃ u v, w = u ++ v ∧ seqL ls u ∧ seqL bs v)
 | [], bs, w => by
   constructor
   ·intro h; exact ⟨[], w, rfl, rfl, h⟩
   ·rintro ⟨u, v, rfl, rfl, h⟩; exact h
 | a :: r, bs, w => by
   show (∃ u v, w = u ++ v ∧ a u ∧ seqL (r ++ bs) v) ↔ ∃ u v, w = u ++ v ∧ (∃ x y, u = x ++ y ∧ a x ∧ seqL r y) ∧ seqL bs v
   constructor
   ·rintro ⟨u, v, rfl, h1, h2⟩
    obtain ⟨x, y, rfl, h3, h4⟩ := (seq_app r bs v).1 h2
    exact ⟨u ++ x, y, by simp, ⟨u, x, rfl, h1, h3⟩, h4⟩
   ·rintro ⟨u, v, rfl, ⟨x, y, rfl, h1, h2⟩, h3⟩
    exact ⟨x, y ++ v, by simp, h1, (seq_app r bs _).2 ⟨y, v, rfl, h2, h3⟩⟩
theorem seq_one (a : Lg) (w : List Int) : seqL [a] w ↔ a w := by
 show (∃ u v, w = u ++ v ∧ a u ∧ v = []) ↔ a w
 constructor
 ·rintro ⟨u, v, rfl, h, rfl⟩; simpa using h
 ·intro h; exact ⟨w, [], by simp, h, rfl⟩
theorem seq_turn : (Ls : List Lg) → (w : List Int) → (seqL (Ls.map (tL true)).reverse w ↔ seqL Ls w.reverse)
 | [], w => by
   show w = [] ↔ w.reverse = []
   simp
 | a :: r, w => by
   rw [List.map_cons, List.reverse_cons, seq_app]
   show _ ↔ ∃ u v, w.reverse = u ++ v ∧ a u ∧ seqL r v
   constructor
   ·rintro ⟨u, v, rfl, h1, h2⟩
    exact ⟨v.reverse, u.reverse, by simp, (seq_one (tL true a) v).1 h2, (seq_turn r u).1 h1⟩
   ·rintro ⟨u, v, h, h1, h2⟩
    have e : w = v.reverse ++ u.reverse := by rw [← List.reverse_append, ← h, List.reverse_reverse]
    refine ⟨v.reverse, u.reverse, e, (seq_turn r _).2 (by rw [List.reverse_reverse]; exact h2), (seq_one _ _).2 ?_⟩
    show a (if true = true then u.reverse.reverse else u.reverse)
    simpa using h1
theorem pow_turn (K : Lg) : (n : Nat) → (w : List Int) → (powL (tL true K) n w ↔ powL K n w.reverse)
 | 0, w => by
   show w = [] ↔ w.reverse = []
   simp
 | n + 1, w => by
   rw [pow_end K n]
   show (∃ u v, w = u ++ v ∧ tL true K u ∧ powL (tL true K) n v) ↔ _
   constructor
   ·rintro ⟨u, v, rfl, h1, h2⟩
    exact ⟨v.reverse, u.reverse, by simp, (pow_turn K n v).1 h2, h1⟩
   ·rintro ⟨u, v, h, h1, h2⟩
    have e : w = v.reverse ++ u.reverse := by rw [← List.reverse_append, ← h, List.reverse_reverse]
    exact ⟨v.reverse, u.reverse, e, by show K (if true = true then v.reverse.reverse else v.reverse); simpa using h2, (pow_turn K n _).2 (by rw [List.reverse_reverse]; exact h1)⟩
theorem nodeG_turn (op : Int) (cl : List Int) (Ls : List Lg) (w : List Int) : nodeG op cl (Ls.map (tL true)).reverse w ↔ nodeG op cl Ls w.reverse := by
 unfold nodeG
 split
 ·simp
 ·split
  ·constructor
   ·rintro ⟨c, h1, rfl⟩; exact ⟨c, h1, rfl⟩
   ·rintro ⟨c, h1, h2⟩
    exact ⟨c, h1, by rw [← List.reverse_reverse w, h2]; rfl⟩
  ·split
   ·exact seq_turn Ls w
   ·split
    ·unfold altL
     constructor
     ·rintro ⟨k, hk, h⟩
      rw [List.mem_reverse, List.mem_map] at hk
      obtain ⟨q, hq, rfl⟩ := hk
      exact ⟨q, hq, h⟩
     ·rintro ⟨k, hk, h⟩
      exact ⟨tL true k, by rw [List.mem_reverse, List.mem_map]; exact ⟨k, hk, rfl⟩, h⟩
    ·have one : ∀ k', (Ls.map (tL true)).reverse = [k'] ↔ ∃ k, Ls = [k] ∧ k' = tL true k := by
      intro k'
      constructor
      ·intro h
       have hl : Ls.length = 1 := by have := congrArg List.length h; simpa using this
       match Ls, hl with
       | [k], _ => exact ⟨k, rfl, by simpa using h.symm⟩
      ·rintro ⟨k, rfl, rfl⟩; rfl
     split
     ·constructor
      ·rintro ⟨k', h1, n, h2⟩
       obtain ⟨k, rfl, rfl⟩ := (one k').1 h1
       exact ⟨k, rfl, n, (pow_turn k n w).1 h2⟩
      ·rintro ⟨k, rfl, n, h2⟩
       exact ⟨tL true k, rfl, n, (pow_turn k n w).2 h2⟩
     ·split
      ·constructor
       ·rintro ⟨k', h1, h2⟩
        obtain ⟨k, rfl, rfl⟩ := (one k').1 h1
        exact ⟨k, rfl, h2.imp (fun h => by rw [h]; rfl) (fun h => h)⟩
       ·rintro ⟨k, rfl, h2⟩
        exact ⟨tL true k, rfl, h2.imp (fun h => by simpa using h) (fun h => h)⟩
      ·exact Iff.rfl
theorem nodeG_none (op : Int) (cl : List Int) (Ls : List Lg) (h : cnt op Ls.length = false) (w : List Int) : nodeG op cl [] w ↔ nodeG op cl Ls w := by
 unfold cnt at h
 simp only [Bool.or_eq_false_iff, decide_eq_false_iff_not, Bool.and_eq_false_iff, not_or] at h
 unfold nodeG
 split
 ·exact Iff.rfl
 ·split
  ·exact Iff.rfl
  ·rw [if_neg h.1.1, if_neg h.1.2, if_neg h.1.1, if_neg h.1.2]
   have no : ∀ k, op = 4 ∨ op = 5 → ¬ Ls = [k] := fun k h1 h2 => by
    rcases h.2 with h3 | h3
    ·rcases h1 with h1 | h1
     ·exact h3.1 h1
     ·exact h3.2 h1
    ·exact h3 (by rw [h2]; rfl)
   split
   ·rename_i h4
    constructor
    ·rintro ⟨k, h5, _⟩; cases h5
    ·rintro ⟨k, h5, _⟩; exact absurd h5 (no k (.inl h4))
   ·split
    ·rename_i h4
     constructor
     ·rintro ⟨k, h5, _⟩; cases h5
     ·rintro ⟨k, h5, _⟩; exact absurd h5 (no k (.inr h4))
    ·exact Iff.rfl
theorem nrm_sem_node (t : Bool) (n : Nd) (ih : ∀ x ∈ toL n.kids, SemD ((x.nrm t).emp, (x.nrm t).end) (tL t x.lg)) : SemD ((n.nrm t).emp, (n.nrm t).end) (tL t n.lg) := by
 obtain ⟨KL, hKL⟩ : ∃ KL, KL = if cnt n.op (toL n.kids).length then revL t ((toL n.kids).map (Nd.nrm t)) else [] := ⟨_, rfl⟩
 have hk : n.nrm t = ⟨n.op, n.cl, ofL KL⟩ := by unfold Nd.nrm; rw [nrm_map, ← hKL]
 have hd : den (ofL KL) = KL.map fun n => (n.emp, n.end) := by rw [den_map, toL_ofL]
 have he : ((n.nrm t).emp, (n.nrm t).end) = (nodeM n.op (KL.map fun n => (n.emp, n.end)), nodeE n.op n.cl (KL.map fun n => (n.emp, n.end))) := by
  rw [hk]
  show (nodeM n.op (den (ofL KL)), nodeE n.op n.cl (den (ofL KL))) = _
  rw [hd]
 rw [he]
 obtain ⟨Ls, hLs⟩ : ∃ Ls, Ls = (toL n.kids).map Nd.lg := ⟨_, rfl⟩
 have hll : Ls.length = (toL n.kids).length := by rw [hLs]; simp
 by_cases hc : cnt n.op (toL n.kids).length = true
 ·rw [if_pos hc] at hKL
  have hn : n.op = 4 ∨ n.op = 5 → (toL n.kids).length ≤ 1 := by
   intro h
   unfold cnt at hc
   simp only [Bool.or_eq_true, decide_eq_true_eq, Bool.and_eq_true] at hc
   omega
  cases t with
  | false =>
    have hs : SemL (KL.map fun n => (n.emp, n.end)) Ls := by
     rw [hKL, hLs]
     show SemL (((toL n.kids).map (Nd.nrm false)).map _) _
     rw [List.map_map]
     have : ∀ l : List Nd, (∀ x ∈ l, SemD ((x.nrm false).emp, (x.nrm false).end) (tL false x.lg)) → SemL (l.map ((fun n => (n.emp, n.end)) ∘ Nd.nrm false)) (l.map Nd.lg) := by
      intro l
      induction l with
      | nil => intro _; trivial
      | cons x r ihl => intro h; exact ⟨h x (by simp), ihl (fun y hy => h y (by simp [hy]))⟩
     exact this _ ih
    refine (node_sem n.op n.cl _ Ls hs (fun h => by rw [hll]; exact hn h)).congr (fun w => ?_)
    rw [lg_eq, ← hLs]
    exact Iff.rfl
  | true =>
    have hs : SemL (KL.map fun n => (n.emp, n.end)) (Ls.map (tL true)).reverse := by
     rw [hKL, hLs]
     show SemL (((toL n.kids).map (Nd.nrm true)).reverse.map _) _
     rw [List.map_reverse, List.map_map, List.map_map]
     have : ∀ l : List Nd, (∀ x ∈ l, SemD ((x.nrm true).emp, (x.nrm true).end) (tL true x.lg)) → SemL (l.map ((fun n => (n.emp, n.end)) ∘ Nd.nrm true)) (l.map (tL true ∘ Nd.lg)) := by
      intro l
      induction l with
      | nil => intro _; trivial
      | cons x r ihl => intro h; exact ⟨h x (by simp), ihl (fun y hy => h y (by simp [hy]))⟩
     have snoc : ∀ (ks : List Dn) (Ms : List Lg) (k : Dn) (M : Lg), SemL ks Ms → SemD k M → SemL (ks ++ [k]) (Ms ++ [M]) := by
      intro ks
      induction ks with
      | nil =>
        intro Ms k M h1 h2
        cases Ms with
        | nil => exact ⟨h2, trivial⟩
        | cons _ _ => exact h1.elim
      | cons a r ihk =>
        intro Ms k M h1 h2
        cases Ms with
        | nil => exact h1.elim
        | cons b Ms => exact ⟨h1.1, ihk Ms k M h1.2 h2⟩
     have revS : ∀ (ks : List Dn) (Ms : List Lg), SemL ks Ms → SemL ks.reverse Ms.reverse := by
      intro ks
      induction ks with
      | nil =>
        intro Ms h
        cases Ms with
        | nil => trivial
        | cons _ _ => exact h.elim
      | cons a r ihk =>
        intro Ms h
        cases Ms with
        | nil => exact h.elim
        | cons b Ms =>
          rw [List.reverse_cons, List.reverse_cons]
          exact snoc _ _ _ _ (ihk Ms h.2) h.1
     exact revS _ _ (this _ ih)
    refine (node_sem n.op n.cl _ _ hs (fun h => by rw [List.length_reverse, List.length_map, hll]; exact hn h)).congr (fun w => ?_)
    rw [nodeG_turn, lg_eq, ← hLs]
    exact Iff.rfl
 ·rw [if_neg hc] at hKL
  rw [Bool.not_eq_true] at hc
  subst hKL
  refine (node_sem n.op n.cl [] [] trivial (fun h => by simp)).congr (fun w => ?_)
  have h1 := nodeG_none n.op n.cl Ls (by rw [hll]; exact hc)
  unfold tL
  rw [lg_eq, ← hLs]
  cases t with
  | false => exact h1 w
  | true =>
    show nodeG n.op n.cl [] w ↔ nodeG n.op n.cl Ls w.reverse
    rw [← h1 w.reverse]
    exact (nodeG_turn n.op n.cl [] w)
theorem nrm_semF (t : Bool) : (f : Fo) → ∀ x ∈ toL f, SemD ((x.nrm t).emp, (x.nrm t).end) (tL t x.lg)
 | .nil, x, h => by simp [toL] at h
 | .node _ _ a k r, x, h => by
   simp only [toL, List.mem_cons] at h
   rcases h with rfl | h
   ·exact nrm_sem_node t ⟨a.1, a.2, k⟩ (nrm_semF t k)
   ·exact nrm_semF t r x h
theorem nrm_sem (t : Bool) (n : Nd) : SemD ((n.nrm t).emp, (n.nrm t).end) (tL t n.lg) := nrm_sem_node t n (nrm_semF t n.kids)
/-! What is told at a place. -/
theorem endsH_hsr (any : Bool) (rev : List Int) (L : Lg) : EndsH L (hsr any rev) ↔ ∃ u c q, rev = u ++ c :: q ∧ (any = true ∨ q = []) ∧ L (c :: u.reverse) := by
 have key : ∀ (rev : List Int) (L : Lg), EndsH L (hsr any rev) ↔ ∃ u c q, rev = u ++ c :: q ∧ (any = true ∨ q = []) ∧ L (c :: u.reverse) := by
  intro rev
  induction rev with
  | nil =>
    intro L
    constructor
    ·intro h; exact absurd h (endsH_nil L)
    ·rintro ⟨u, c, q, h, _⟩; simp at h
  | cons c r ih =>
    intro L
    have ih2 := ih (fun w => L (w ++ [c]))
    constructor
    ·rintro ⟨u, d, q, h1, h2⟩
     cases u with
     | nil =>
       simp only [hsr, List.nil_append, List.cons.injEq, Prod.mk.injEq] at h1
       obtain ⟨⟨h3, h4⟩, h5⟩ := h1
       refine ⟨[], c, r, rfl, ?_, by rw [h3]; exact h2⟩
       rw [Bool.or_eq_true, List.isEmpty_iff] at h4
       exact h4
     | cons y u =>
       simp only [hsr, List.cons_append, List.cons.injEq] at h1
       obtain ⟨h3, h5⟩ := h1
       have : EndsH (fun w => L (w ++ [c])) (hsr any r) := by
        refine ⟨u, d, q, h5, ?_⟩
        rw [← h3, chs_cons] at h2
        exact h2
       obtain ⟨u', d', v, e1, e2, e3⟩ := ih2.1 this
       exact ⟨c :: u', d', v, by rw [e1]; rfl, e2, by rw [List.reverse_cons]; exact e3⟩
    ·rintro ⟨u, d, q, h1, h2, h3⟩
     cases u with
     | nil =>
       simp only [List.nil_append, List.cons.injEq] at h1
       obtain ⟨rfl, rfl⟩ := h1
       refine ⟨[], c, hsr any r, ?_, h3⟩
       simp only [hsr, List.nil_append, List.cons.injEq, Prod.mk.injEq, and_true, true_and]
       rw [Bool.or_eq_true, List.isEmpty_iff]
       exact h2
     | cons y u =>
       simp only [List.cons_append, List.cons.injEq] at h1
       obtain ⟨rfl, rfl⟩ := h1
       rw [List.reverse_cons] at h3
       obtain ⟨u', d', v, e1, e2⟩ := ih2.2 ⟨u, d, q, rfl, h2, h3⟩
       refine ⟨(c, any || (u ++ d :: q).isEmpty) :: u', d', v, by rw [hsr, e1]; rfl, ?_⟩
       rw [chs_cons]; exact e2
 exact key rev L
theorem endsAt_iff {n : Nd} {L : Lg} (hs : SemD (n.emp, n.end) L) (any : Bool) (rev : List Int) : endsAt n any rev = true ↔ ∃ u q, rev = u ++ q ∧ (any = true ∨ q = []) ∧ L u.reverse := by
 unfold endsAt
 cases rev with
 | nil =>
   simp only [List.isEmpty_nil, if_true]
   rw [show n.emp = true ↔ L [] from hs.1]
   constructor
   ·intro h; exact ⟨[], [], rfl, .inr rfl, h⟩
   ·rintro ⟨u, q, h, _, h2⟩
    have := List.append_eq_nil_iff.1 h.symm
    rw [this.1] at h2
    exact h2
 | cons c r =>
   simp only [List.isEmpty_cons, Bool.false_eq_true, if_false]
   rw [Bool.or_eq_true, Bool.and_eq_true, show n.end (hsr any (c :: r)) = true ↔ _ from hs.2 _, endsH_hsr, show n.emp = true ↔ L [] from hs.1]
   constructor
   ·rintro (⟨u, d, q, h1, h2, h3⟩ | ⟨h1, h2⟩)
    ·exact ⟨u ++ [d], q, by rw [h1]; simp, h2, by simpa using h3⟩
    ·exact ⟨[], c :: r, rfl, .inl h1, h2⟩
   ·rintro ⟨u, q, h1, h2, h3⟩
    rcases List.eq_nil_or_concat u with rfl | ⟨u', d, rfl⟩
    ·right
     rcases h2 with h2 | h2
     ·exact ⟨h2, h3⟩
     ·rw [h2] at h1; simp at h1
    ·left
     exact ⟨u', d, q, by rw [h1]; simp, h2, by simpa using h3⟩
def FitP (r : Rl) (xs : List Int) (p : Nat) : Prop := (∃ i, i ≤ p ∧ (r.start = true → i = 0) ∧ r.left.lg (sg xs i p)) ∧ ∃ j, p ≤ j ∧ j ≤ xs.length ∧ r.right.lg (sg xs p j)
theorem sg_drop_take (xs : List Int) (p j : Nat) (h : p ≤ j) : (xs.drop p).take (j - p) = sg xs p j := rfl
theorem take_drop_sg (xs : List Int) (i p : Nat) : (xs.take p).drop i = sg xs i p := by
 unfold sg
 rw [List.drop_take]
theorem fitL_iff (r : Rl) (xs : List Int) (p : Nat) (hp : p ≤ xs.length) : r.fitL xs p = true ↔ ∃ i, i ≤ p ∧ (r.start = true → i = 0) ∧ r.left.lg (sg xs i p) := by
 unfold Rl.fitL
 rw [endsAt_iff (nrm_sem false r.left)]
 constructor
 ·rintro ⟨u, q, h1, h2, h3⟩
  have e : xs.take p = q.reverse ++ u.reverse := by rw [← List.reverse_append, ← h1, List.reverse_reverse]
  have hl : q.length ≤ p := by
   have := congrArg List.length e
   simp at this
   omega
  refine ⟨q.length, hl, fun hs => ?_, ?_⟩
  ·rcases h2 with h2 | h2
   ·rw [hs] at h2; cases h2
   ·rw [h2]; rfl
  ·rw [← take_drop_sg, e, List.drop_left' (by simp)]
   exact h3
 ·rintro ⟨i, hi, hs, h⟩
  refine ⟨((xs.take p).drop i).reverse, ((xs.take p).take i).reverse, ?_, ?_, ?_⟩
  ·rw [← List.reverse_append, List.take_append_drop]
  ·cases hst : r.start with
   | true => right; rw [hs hst]; simp
   | false => left; rfl
  ·show r.left.lg _
   rw [take_drop_sg, if_neg (by simp), List.reverse_reverse]
   exact h
theorem fitR_iff (r : Rl) (xs : List Int) (p : Nat) (hp : p ≤ xs.length) : r.fitR xs p = true ↔ ∃ j, p ≤ j ∧ j ≤ xs.length ∧ r.right.lg (sg xs p j) := by
 unfold Rl.fitR
 rw [endsAt_iff (nrm_sem true r.right)]
 constructor
 ·rintro ⟨u, q, h1, _, h3⟩
  have hl : u.length ≤ xs.length - p := by
   have := congrArg List.length h1
   simp at this
   omega
  refine ⟨p + u.length, by omega, by omega, ?_⟩
  have e : sg xs p (p + u.length) = u := by
   unfold sg
   rw [h1, show p + u.length - p = u.length by omega, List.take_left' rfl]
  rw [e]
  have h4 : r.right.lg (if true = true then u.reverse.reverse else u.reverse) := h3
  simpa using h4
 ·rintro ⟨j, hj, hj2, h⟩
  refine ⟨sg xs p j, (xs.drop p).drop (j - p), by rw [← sg_drop_take xs p j hj, List.take_append_drop], .inl rfl, ?_⟩
  show r.right.lg (if true = true then (sg xs p j).reverse.reverse else (sg xs p j).reverse)
  simpa using h
theorem fit_iff (r : Rl) (xs : List Int) (p : Nat) (hp : p ≤ xs.length) : r.fit xs p = true ↔ FitP r xs p := by
 unfold Rl.fit FitP
 rw [Bool.and_eq_true, fitL_iff r xs p hp, fitR_iff r xs p hp]
end Go.Proofs.YtcafffohnokjgaaDoor

/- Plain mathematics of the reference's moves: from which places one is taken to which, by rows of truths, ahead or back; nothing of the program is named here. -/
namespace Go.Proofs.YtcafffohnokjgaaDoor
set_option linter.unusedVariables false
set_option linter.unusedSimpArgs false

def StG (back : Bool) (L : Lg) (xs : List Int) (q p : Nat) : Prop := if back then p ≤ q ∧ L (sg xs p q) else q ≤ p ∧ L (sg xs q p)
def MvR (back : Bool) (L : Lg) (xs : List Int) (F G : List Bool) : Prop := G.length = xs.length + 1 ∧ ∀ p, p ≤ xs.length → (G[p]? = some true ↔ ∃ q, q ≤ xs.length ∧ F[q]? = some true ∧ StG back L xs q p)
theorem StG.congr {back : Bool} {L L' : Lg} (e : ∀ w, L w ↔ L' w) (xs : List Int) (q p : Nat) : StG back L xs q p ↔ StG back L' xs q p := by
 unfold StG; simp only [e]
theorem MvR.congr {back : Bool} {L L' : Lg} {xs : List Int} {F G : List Bool} (h : MvR back L xs F G) (e : ∀ w, L w ↔ L' w) : MvR back L' xs F G := by
 refine ⟨h.1, fun p hp => (h.2 p hp).trans ?_⟩
 simp only [StG.congr e]
theorem stG_nil (back : Bool) (xs : List Int) (q p : Nat) (hq : q ≤ xs.length) (hp : p ≤ xs.length) : StG back (fun w => w = []) xs q p ↔ q = p := by
 unfold StG
 cases back with
 | false =>
   simp only [Bool.false_eq_true, if_false]
   constructor
   ·rintro ⟨h1, h2⟩
    have := sg_len xs q p h1 hp
    rw [h2] at this
    simp at this
    omega
   ·rintro rfl; exact ⟨Nat.le_refl _, sg_self xs q⟩
 | true =>
   simp only [if_true]
   constructor
   ·rintro ⟨h1, h2⟩
    have := sg_len xs p q h1 hq
    rw [h2] at this
    simp at this
    omega
   ·rintro rfl; exact ⟨Nat.le_refl _, sg_self xs q⟩
theorem mv_none (back : Bool) (xs : List Int) (F : List Bool) (hF : F.length = xs.length + 1) : MvR back (fun w => w = []) xs F F := by
 refine ⟨hF, fun p hp => ⟨fun h => ⟨p, hp, h, (stG_nil back xs p p hp hp).2 rfl⟩, ?_⟩⟩
 rintro ⟨q, hq, h1, h2⟩
 rw [← (stG_nil back xs q p hq hp).1 h2]; exact h1
theorem stG_seq (xs : List Int) (K R : Lg) (q p : Nat) (hq : q ≤ xs.length) (hp : p ≤ xs.length) : StG false (seqG K R) xs q p ↔ ∃ m, m ≤ xs.length ∧ StG false K xs q m ∧ StG false R xs m p := by
 unfold StG seqG
 simp only [Bool.false_eq_true, if_false]
 constructor
 ·rintro ⟨h1, u, v, e, hu, hv⟩
  obtain ⟨k1, k2, k3⟩ := sg_cut xs q p u v h1 hp e
  exact ⟨q + u.length, by omega, ⟨by omega, by rw [k2]; exact hu⟩, k1, by rw [k3]; exact hv⟩
 ·rintro ⟨m, hm, ⟨h1, h2⟩, h3, h4⟩
  exact ⟨by omega, _, _, (sg_app xs q m p h1 h3).symm, h2, h4⟩
theorem stG_seqB (xs : List Int) (K R : Lg) (q p : Nat) (hq : q ≤ xs.length) (hp : p ≤ xs.length) : StG true (seqG K R) xs q p ↔ ∃ m, m ≤ xs.length ∧ StG true R xs q m ∧ StG true K xs m p := by
 unfold StG seqG
 simp only [if_true]
 constructor
 ·rintro ⟨h1, u, v, e, hu, hv⟩
  obtain ⟨k1, k2, k3⟩ := sg_cut xs p q u v h1 hq e
  exact ⟨p + u.length, by omega, ⟨k1, by rw [k3]; exact hv⟩, by omega, by rw [k2]; exact hu⟩
 ·rintro ⟨m, hm, ⟨h1, h2⟩, h3, h4⟩
  exact ⟨by omega, _, _, (sg_app xs p m q h3 h1).symm, h4, h2⟩
theorem mv_seq {K R : Lg} {xs : List Int} {F G H : List Bool} (h1 : MvR false K xs F G) (h2 : MvR false R xs G H) : MvR false (seqG K R) xs F H := by
 refine ⟨h2.1, fun p hp => (h2.2 p hp).trans ⟨?_, ?_⟩⟩
 ·rintro ⟨m, hm, hG, hs⟩
  obtain ⟨q, hq, hF, hs2⟩ := (h1.2 m hm).1 hG
  exact ⟨q, hq, hF, (stG_seq xs K R q p hq hp).2 ⟨m, hm, hs2, hs⟩⟩
 ·rintro ⟨q, hq, hF, hs⟩
  obtain ⟨m, hm, h3, h4⟩ := (stG_seq xs K R q p hq hp).1 hs
  exact ⟨m, hm, (h1.2 m hm).2 ⟨q, hq, hF, h3⟩, h4⟩
theorem mv_seqB {K R : Lg} {xs : List Int} {F G H : List Bool} (h1 : MvR true R xs F G) (h2 : MvR true K xs G H) : MvR true (seqG K R) xs F H := by
 refine ⟨h2.1, fun p hp => (h2.2 p hp).trans ⟨?_, ?_⟩⟩
 ·rintro ⟨m, hm, hG, hs⟩
  obtain ⟨q, hq, hF, hs2⟩ := (h1.2 m hm).1 hG
  exact ⟨q, hq, hF, (stG_seqB xs K R q p hq hp).2 ⟨m, hm, hs2, hs⟩⟩
 ·rintro ⟨q, hq, hF, hs⟩
  obtain ⟨m, hm, h3, h4⟩ := (stG_seqB xs K R q p hq hp).1 hs
  exact ⟨m, hm, (h1.2 m hm).2 ⟨q, hq, hF, h3⟩, h4⟩
theorem mv_or {back : Bool} {K R : Lg} {xs : List Int} {F G H : List Bool} (h1 : MvR back K xs F G) (h2 : MvR back R xs F H) : MvR back (fun w => K w ∨ R w) xs F (orB G H) := by
 have hl : G.length = H.length := by rw [h1.1, h2.1]
 refine ⟨by rw [orB_len _ _ hl, h1.1], fun p hp => ?_⟩
 rw [orB_get _ _ _ hl, h1.2 p hp, h2.2 p hp]
 have hs : ∀ q, StG back (fun w => K w ∨ R w) xs q p ↔ StG back K xs q p ∨ StG back R xs q p := by
  intro q
  unfold StG
  cases back <;> simp only [Bool.false_eq_true, if_false, if_true] <;> constructor
  ·rintro ⟨a, b | b⟩
   ·exact .inl ⟨a, b⟩
   ·exact .inr ⟨a, b⟩
  ·rintro (⟨a, b⟩ | ⟨a, b⟩)
   ·exact ⟨a, .inl b⟩
   ·exact ⟨a, .inr b⟩
  ·rintro ⟨a, b | b⟩
   ·exact .inl ⟨a, b⟩
   ·exact .inr ⟨a, b⟩
  ·rintro (⟨a, b⟩ | ⟨a, b⟩)
   ·exact ⟨a, .inl b⟩
   ·exact ⟨a, .inr b⟩
 simp only [hs]
 constructor
 ·rintro (⟨q, a, b, c⟩ | ⟨q, a, b, c⟩)
  ·exact ⟨q, a, b, .inl c⟩
  ·exact ⟨q, a, b, .inr c⟩
 ·rintro ⟨q, a, b, c | c⟩
  ·exact .inl ⟨q, a, b, c⟩
  ·exact .inr ⟨q, a, b, c⟩
theorem mv_false (back : Bool) (xs : List Int) (F : List Bool) : MvR back (fun _ => False) xs F (List.replicate (xs.length + 1) false) := by
 refine ⟨by simp, fun p hp => ⟨fun h => ?_, ?_⟩⟩
 ·rw [List.getElem?_replicate] at h
  split at h <;> simp at h
 ·rintro ⟨q, _, _, h⟩
  unfold StG at h
  split at h
  ·exact h.2.elim
  ·exact h.2.elim
def setBb (cl xs : List Int) (F : List Bool) : List Bool := (List.range xs.length).map (fun i => decide (xs.getD i 0 ∈ cl) && F.getD (i + 1) false) ++ [false]
def setBf (back : Bool) (cl xs : List Int) (F : List Bool) : List Bool := if back then setBb cl xs F else setB cl xs F
theorem setBf_len (back : Bool) (cl xs : List Int) (F : List Bool) : (setBf back cl xs F).length = xs.length + 1 := by
 unfold setBf; cases back <;> simp [setBb, setB]
theorem setBb_at (cl xs : List Int) (F : List Bool) (i : Nat) (hi : i < xs.length) : (setBb cl xs F)[i]? = some (decide (xs.getD i 0 ∈ cl) && F.getD (i + 1) false) := by
 unfold setBb
 rw [List.getElem?_append_left (by simp; exact hi), List.getElem?_map, List.getElem?_range hi]
 rfl
theorem setBb_last (cl xs : List Int) (F : List Bool) : (setBb cl xs F)[xs.length]? = some false := by
 unfold setBb
 rw [List.getElem?_append_right (by simp)]
 simp
theorem mv_set (back : Bool) (cl xs : List Int) (F : List Bool) (hF : F.length = xs.length + 1) : MvR back (fun w => ∃ c, c ∈ cl ∧ w = [c]) xs F (setBf back cl xs F) := by
 cases back with
 | false =>
   have h := ends_set cl xs F
   refine ⟨h.1, fun p hp => (h.2 p hp).trans ?_⟩
   unfold EndsAt StG
   simp only [Bool.false_eq_true, if_false]
   constructor
   ·rintro ⟨i, h1, h2, h3⟩; exact ⟨i, by omega, h2, h1, h3⟩
   ·rintro ⟨i, _, h2, h1, h3⟩; exact ⟨i, h1, h2, h3⟩
 | true =>
   refine ⟨setBf_len true cl xs F, fun p hp => ?_⟩
   show (setBb cl xs F)[p]? = some true ↔ _
   unfold StG
   simp only [if_true]
   rcases Nat.lt_or_ge p xs.length with hlt | hge
   ·rw [setBb_at cl xs F p hlt]
    have hx : xs.getD p 0 = xs[p] := by simp [hlt]
    have hf : F[p + 1]? = some (F.getD (p + 1) false) := by
     rw [List.getD_eq_getElem?_getD, List.getElem?_eq_getElem (by omega)]; rfl
    rw [hx, Option.some.injEq, Bool.and_eq_true, decide_eq_true_eq]
    constructor
    ·rintro ⟨h1, h2⟩
     exact ⟨p + 1, by omega, by rw [hf, h2], by omega, xs[p], h1, sg_one xs p hlt⟩
    ·rintro ⟨q, hq, h1, h2, c, hc, h3⟩
     have h4 := sg_len xs p q h2 hq
     rw [h3] at h4
     have : q = p + 1 := by simp at h4; omega
     subst this
     rw [sg_one xs p hlt] at h3
     have h5 : xs[p] = c := by simpa using h3
     rw [hf] at h1
     exact ⟨by rw [h5]; exact hc, by simpa using h1⟩
   ·have : p = xs.length := by omega
    subst this
    rw [setBb_last]
    constructor
    ·intro h; cases h
    ·rintro ⟨q, hq, h1, h2, c, hc, h3⟩
     have h4 := sg_len xs xs.length q h2 hq
     rw [h3] at h4
     simp at h4
     omega
/-! Any number, in no more rounds than there are characters. -/
theorem pow_short (L : Lg) : (n : Nat) → (w : List Int) → powL L n w → ∃ j, j ≤ w.length ∧ powL L j w
 | 0, w, h => ⟨0, by omega, h⟩
 | n + 1, w, ⟨u, v, e, h1, h2⟩ => by
   obtain ⟨j, hj, h3⟩ := pow_short L n v h2
   cases u with
   | nil => exact ⟨j, by rw [e]; simpa using hj, by rw [e]; exact h3⟩
   | cons c u => exact ⟨j + 1, by rw [e]; simp; omega, ⟨c :: u, v, e, h1, h3⟩⟩
theorem stG_pow (back : Bool) (L : Lg) (n : Nat) (xs : List Int) (q p : Nat) (hq : q ≤ xs.length) (hp : p ≤ xs.length) : StG back (powL L (n + 1)) xs q p ↔ ∃ m, m ≤ xs.length ∧ StG back (powL L n) xs q m ∧ StG back L xs m p := by
 cases back with
 | false =>
   rw [← stG_seq xs (powL L n) L q p hq hp]
   exact StG.congr (fun w => pow_end L n w) xs q p
 | true =>
   rw [← stG_seqB xs L (powL L n) q p hq hp]
   exact StG.congr (fun w => Iff.rfl) xs q p
theorem stG_star (back : Bool) (L : Lg) (xs : List Int) (q p : Nat) (hq : q ≤ xs.length) (hp : p ≤ xs.length) : StG back (starG L) xs q p ↔ ∃ i, i ≤ xs.length ∧ StG back (powL L i) xs q p := by
 unfold StG starG
 cases back with
 | false =>
   simp only [Bool.false_eq_true, if_false]
   constructor
   ·rintro ⟨h1, n, h2⟩
    obtain ⟨j, hj, h3⟩ := pow_short L n _ h2
    rw [sg_len xs q p h1 hp] at hj
    exact ⟨j, by omega, h1, h3⟩
   ·rintro ⟨i, _, h1, h2⟩; exact ⟨h1, i, h2⟩
 | true =>
   simp only [if_true]
   constructor
   ·rintro ⟨h1, n, h2⟩
    obtain ⟨j, hj, h3⟩ := pow_short L n _ h2
    rw [sg_len xs p q h1 hq] at hj
    exact ⟨j, by omega, h1, h3⟩
   ·rintro ⟨i, _, h1, h2⟩; exact ⟨h1, i, h2⟩
def RoS (back : Bool) (L : Lg) (xs : List Int) (F O : List Bool) (k : Nat) : Prop :=
 O.length = xs.length + 1 ∧ (∀ p, p ≤ xs.length → O[p]? = some true → ∃ q i, q ≤ xs.length ∧ F[q]? = some true ∧ StG back (powL L i) xs q p) ∧ ∀ p q i, p ≤ xs.length → q ≤ xs.length → i ≤ k → F[q]? = some true → StG back (powL L i) xs q p → O[p]? = some true
theorem ro_begin (back : Bool) (L : Lg) (xs : List Int) (F : List Bool) (hF : F.length = xs.length + 1) : RoS back L xs F F 0 := by
 refine ⟨hF, fun p hp h => ⟨p, 0, hp, h, (stG_nil back xs p p hp hp).2 rfl⟩, fun p q i hp hq hi hf hs => ?_⟩
 obtain rfl : i = 0 := by omega
 rw [← (stG_nil back xs q p hq hp).1 hs]; exact hf
theorem ro_round {back : Bool} {L : Lg} {xs : List Int} {F O G : List Bool} {k : Nat} (h : RoS back L xs F O k) (hG : MvR back L xs O G) : RoS back L xs F (orB O G) (k + 1) := by
 have hl : O.length = G.length := by rw [h.1, hG.1]
 refine ⟨by rw [orB_len _ _ hl, h.1], fun p hp ho => ?_, fun p q i hp hq hi hf hs => ?_⟩
 ·rcases (orB_get _ _ _ hl).1 ho with ho | ho
  ·exact h.2.1 p hp ho
  ·obtain ⟨m, hm, hO, hs⟩ := (hG.2 p hp).1 ho
   obtain ⟨q, i, hq, hF, hi⟩ := h.2.1 m hm hO
   exact ⟨q, i + 1, hq, hF, (stG_pow back L i xs q p hq hp).2 ⟨m, hm, hi, hs⟩⟩
 ·rw [orB_get _ _ _ hl]
  cases i with
  | zero => exact .inl (h.2.2 p q 0 hp hq (by omega) hf hs)
  | succ i =>
    obtain ⟨m, hm, h1, h2⟩ := (stG_pow back L i xs q p hq hp).1 hs
    exact .inr ((hG.2 p hp).2 ⟨m, hm, h.2.2 m q i hm hq (by omega) hf h1, h2⟩)
theorem ro_all {back : Bool} {L : Lg} {xs : List Int} {F O : List Bool} (h : RoS back L xs F O xs.length) : MvR back (starG L) xs F O := by
 refine ⟨h.1, fun p hp => ⟨fun ho => ?_, ?_⟩⟩
 ·obtain ⟨q, i, hq, hF, hs⟩ := h.2.1 p hp ho
  refine ⟨q, hq, hF, ?_⟩
  unfold StG starG at *
  split
  ·rename_i hb; rw [if_pos hb] at hs; exact ⟨hs.1, i, hs.2⟩
  ·rename_i hb; rw [if_neg hb] at hs; exact ⟨hs.1, i, hs.2⟩
 ·rintro ⟨q, hq, hF, hs⟩
  obtain ⟨i, hi, hs2⟩ := (stG_star back L xs q p hq hp).1 hs
  exact h.2.2 p q i hp hq hi hF hs2
theorem ro_closed {back : Bool} {L : Lg} {xs : List Int} {F O G : List Bool} {k : Nat} (h : RoS back L xs F O k) (hG : MvR back L xs O G) (hc : orB O G = O) : RoS back L xs F O xs.length := by
 have hl : O.length = G.length := by rw [h.1, hG.1]
 refine ⟨h.1, h.2.1, ?_⟩
 have key : ∀ i p q, p ≤ xs.length → q ≤ xs.length → F[q]? = some true → StG back (powL L i) xs q p → O[p]? = some true := by
  intro i
  induction i with
  | zero => intro p q hp hq hf hs; exact h.2.2 p q 0 hp hq (by omega) hf hs
  | succ i ih =>
    intro p q hp hq hf hs
    obtain ⟨m, hm, h1, h2⟩ := (stG_pow back L i xs q p hq hp).1 hs
    have h3 : G[p]? = some true := (hG.2 p hp).2 ⟨m, hm, ih m q hm hq hf h1, h2⟩
    rw [← hc, orB_get _ _ _ hl]
    exact .inr h3
 exact fun p q i hp hq _ hf hs => key i p q hp hq hf hs
/-! What an expression means, by its kind. -/
theorem lg_0 (n : Nd) (h : n.op = 0) (w : List Int) : n.lg w ↔ w = [] := by rw [lg_eq, h]; simp [nodeG]
theorem lg_1 (n : Nd) (h : n.op = 1) (w : List Int) : n.lg w ↔ ∃ c, c ∈ n.cl ∧ w = [c] := by rw [lg_eq, h]; simp [nodeG]
theorem lg_2 (n : Nd) (h : n.op = 2) (w : List Int) : n.lg w ↔ seqL ((toL n.kids).map Nd.lg) w := by rw [lg_eq, h]; simp [nodeG]
theorem lg_3 (n : Nd) (h : n.op = 3) (w : List Int) : n.lg w ↔ altL ((toL n.kids).map Nd.lg) w := by rw [lg_eq, h]; simp [nodeG]
theorem lg_4 (n : Nd) (h : n.op = 4) (x : Nd) (hk : toL n.kids = [x]) (w : List Int) : n.lg w ↔ starG x.lg w := by rw [lg_eq, h, hk]; simp [nodeG]
theorem lg_5 (n : Nd) (h : n.op = 5) (x : Nd) (hk : toL n.kids = [x]) (w : List Int) : n.lg w ↔ w = [] ∨ x.lg w := by rw [lg_eq, h, hk]; simp [nodeG]
theorem lg_no (n : Nd) (h0 : n.op ≠ 0) (h1 : n.op ≠ 1) (h2 : n.op ≠ 2) (h3 : n.op ≠ 3) (h : (n.op = 4 ∨ n.op = 5) → (toL n.kids).length ≠ 1) (w : List Int) : n.lg w ↔ False := by
 rw [lg_eq]
 unfold nodeG
 rw [if_neg h0, if_neg h1, if_neg h2, if_neg h3]
 have no : ∀ k : Lg, (n.op = 4 ∨ n.op = 5) → ¬ (toL n.kids).map Nd.lg = [k] := fun k hh e => h hh (by have := congrArg List.length e; simpa using this)
 split
 ·rename_i h4
  constructor
  ·rintro ⟨k, e, _⟩; exact no k (.inl h4) e
  ·exact False.elim
 ·split
  ·rename_i h5
   constructor
   ·rintro ⟨k, e, _⟩; exact no k (.inr h5) e
   ·exact False.elim
  ·exact Iff.rfl
/-! Where a rule fits. -/
def fromS (start : Bool) (n : Nat) : List Bool := true :: List.replicate n (!start)
theorem where_fit (r : Rl) (xs : List Int) (A B : List Bool) (hA : MvR false r.left.lg xs (fromS r.start xs.length) A) (hB : MvR true r.right.lg xs (List.replicate (xs.length + 1) true) B) (p : Nat) (hp : p ≤ xs.length) : (A.getD p false && B.getD p false) = r.fit xs p := by
 have ga : A.getD p false = true ↔ A[p]? = some true := by rw [List.getD_eq_getElem?_getD]; cases A[p]? <;> simp
 have gb : B.getD p false = true ↔ B[p]? = some true := by rw [List.getD_eq_getElem?_getD]; cases B[p]? <;> simp
 rw [Bool.eq_iff_iff, Bool.and_eq_true, ga, gb, fit_iff r xs p hp, hA.2 p hp, hB.2 p hp]
 unfold FitP StG
 simp only [Bool.false_eq_true, if_false, if_true]
 refine and_congr ⟨?_, ?_⟩ ⟨?_, ?_⟩
 ·rintro ⟨q, hq, hF, h1, h2⟩
  refine ⟨q, h1, fun hs => ?_, h2⟩
  cases q with
  | zero => rfl
  | succ q =>
    unfold fromS at hF
    rw [hs, List.getElem?_cons_succ, List.getElem?_replicate] at hF
    split at hF <;> simp at hF
 ·rintro ⟨i, hi, hs, h⟩
  refine ⟨i, by omega, ?_, hi, h⟩
  unfold fromS
  cases i with
  | zero => rfl
  | succ i =>
    rw [List.getElem?_cons_succ, List.getElem?_replicate, if_pos (by omega)]
    cases hst : r.start with
    | true => exact absurd (hs hst) (by omega)
    | false => rfl
 ·rintro ⟨q, hq, _, h1, h2⟩; exact ⟨q, h1, hq, h2⟩
 ·rintro ⟨j, h1, h2, h3⟩
  exact ⟨j, h2, by rw [List.getElem?_replicate, if_pos (by omega)], h1, h3⟩
end Go.Proofs.YtcafffohnokjgaaDoor

/- Boundaries by machines are those of the rules, read word by word: mathematics. -/
namespace Go.Proofs.YtcafffohnokjgaaDoor
open Go.RowKit
set_option linter.unusedVariables false
set_option linter.unusedSimpArgs false

theorem rcS_cases {op : Int} {k : Nat} (h : rcB op k = true) : (op = 0 ∧ k = 0) ∨ (op = 1 ∧ k = 0) ∨ op = 2 ∨ op = 3 ∨ (op = 4 ∧ k = 1) ∨ (op = 5 ∧ k = 1) := by
 unfold rcB at h
 split at h
 ·rename_i h1; simp at h; rcases h1 with rfl | rfl <;> simp [h]
 ·split at h
  ·rename_i _ h1; rcases h1 with rfl | rfl <;> simp
  ·split at h
   ·rename_i _ _ h1; simp at h; rcases h1 with rfl | rfl <;> simp [h]
   ·cases h
theorem seq_iff {as' bs : List (List Int → Prop)} (hl : as'.length = bs.length) (h : ∀ i (hi : i < as'.length) (hj : i < bs.length) w, as'[i] w ↔ bs[i] w) : ∀ w, seqL as' w ↔ seqL bs w := by
 induction as' generalizing bs with
 | nil =>
   cases bs with
   | nil => intro w; exact Iff.rfl
   | cons b r => simp at hl
 | cons a s ih =>
   cases bs with
   | nil => simp at hl
   | cons b r =>
     intro w
     have h0 := h 0 (by simp) (by simp)
     have ih' := ih (bs := r) (by simpa using hl) fun i hi hj w => h (i + 1) (by simpa using hi) (by simpa using hj) w
     simp only [seqL]
     constructor
     ·rintro ⟨u, v, e, h1, h2⟩; exact ⟨u, v, e, (h0 u).1 h1, (ih' v).1 h2⟩
     ·rintro ⟨u, v, e, h1, h2⟩; exact ⟨u, v, e, (h0 u).2 h1, (ih' v).2 h2⟩
theorem pow_iff {a b : List Int → Prop} (h : ∀ w, a w ↔ b w) : (n : Nat) → ∀ w, powL a n w ↔ powL b n w
 | 0, w => Iff.rfl
 | n + 1, w => by
   simp only [powL]
   constructor
   ·rintro ⟨u, v, e, h1, h2⟩; exact ⟨u, v, e, (h u).1 h1, (pow_iff h n v).1 h2⟩
   ·rintro ⟨u, v, e, h1, h2⟩; exact ⟨u, v, e, (h u).2 h1, (pow_iff h n v).2 h2⟩
theorem lg_fits : (d : Nat) → (n : Nd) → okN d n = true → ∀ w, n.lg w ↔ n.fits w
 | 0, n, h => by simp [okN] at h
 | d + 1, n, h => by
   intro w
   simp only [okN, Bool.and_eq_true, List.all_eq_true] at h
   obtain ⟨⟨hr, hc⟩, hk⟩ := h
   have ih : ∀ x, x ∈ toL n.kids → ∀ w, x.lg w ↔ x.fits w := fun x hx => lg_fits d x (hk x hx)
   rw [lg_eq]
   have e : n.fits w ↔ nodeL n.op n.cl ((toL n.kids).map Nd.fits) w := by rw [← fitF_map]; exact Iff.rfl
   rw [e]
   obtain ⟨ks, hks⟩ : ∃ ks, ks = toL n.kids := ⟨_, rfl⟩
   rw [← hks] at hr ih ⊢
   have hrc := rcS_cases hr
   have hsq : seqL (ks.map Nd.lg) w ↔ seqL (ks.map Nd.fits) w := seq_iff (by simp) (fun i hi hj w => by
    rw [List.getElem_map, List.getElem_map]
    exact ih _ (List.getElem_mem _) w) w
   unfold nodeG nodeL
   by_cases h0 : n.op = 0
   ·have : ks = [] := List.eq_nil_of_length_eq_zero (by omega)
    rw [if_pos h0, if_neg (by omega), if_neg (by omega), if_neg (by omega), if_neg (by omega), this]
    exact Iff.rfl
   ·rw [if_neg h0]
    by_cases h1 : n.op = 1
    ·rw [if_pos h1, if_pos h1]
    ·rw [if_neg h1, if_neg h1]
     by_cases h2 : n.op = 2
     ·rw [if_pos h2, if_neg (by omega), if_neg (by omega), if_neg (by omega)]
      exact hsq
     ·rw [if_neg h2]
      by_cases h3 : n.op = 3
      ·rw [if_pos h3, if_pos h3]
       unfold altL
       constructor
       ·rintro ⟨k, hk, hw⟩
        obtain ⟨x, hx, rfl⟩ := List.mem_map.1 hk
        exact ⟨_, List.mem_map.2 ⟨x, hx, rfl⟩, (ih x hx w).1 hw⟩
       ·rintro ⟨k, hk, hw⟩
        obtain ⟨x, hx, rfl⟩ := List.mem_map.1 hk
        exact ⟨_, List.mem_map.2 ⟨x, hx, rfl⟩, (ih x hx w).2 hw⟩
      ·rw [if_neg h3, if_neg h3]
       obtain ⟨x, hx⟩ : ∃ x, ks = [x] := List.length_eq_one_iff.1 (by omega)
       have hx1 := ih x (by rw [hx]; simp)
       rw [hx]
       by_cases h4 : n.op = 4
       ·rw [if_pos h4, if_pos h4]
        unfold starG
        simp only [List.map_cons, List.map_nil, List.headD_cons]
        constructor
        ·rintro ⟨k, e, m, hm⟩
         obtain rfl := (List.cons.inj e).1
         exact ⟨m, (pow_iff hx1 m w).1 hm⟩
        ·rintro ⟨m, hm⟩
         exact ⟨_, rfl, m, (pow_iff hx1 m w).2 hm⟩
       ·rw [if_neg h4, if_neg h4, if_pos (by omega), if_pos (by omega)]
        simp only [List.map_cons, List.map_nil, List.headD_cons]
        constructor
        ·rintro ⟨k, e, hm⟩
         obtain rfl := (List.cons.inj e).1
         exact hm.imp id (hx1 w).1
        ·intro hm
         exact ⟨_, rfl, hm.imp id (hx1 w).2⟩
theorem fit_bits {K : Nat} {l : List Rl} {nxA : List (List Nat)} {ouA : List Nat} {nxB : List (List Nat)} {ouB : List Nat} (hA : LeastOf K (xsL l) nxA ouA) (hB : LeastOf K (xsR l) nxB ouB) {row : List Int} (hc : Cls K row) {k : Nat} (hk : k < l.length) (hok : okN 32 l[k].left = true ∧ okN 32 l[k].right = true) {p : Nat} (hp : p ≤ row.length) :
 (ouR nxA ouA row p &&& ouR nxB ouB row.reverse (row.length - p)).testBit k = l[k].fit row p := by
 have hxA : (xsL l)[k]? = some (l[k].left, l[k].start) := by simp [xsL, hk]
 have hxB : (xsR l)[k]? = some (l[k].right.rev, false) := by simp [xsR, hk]
 rw [Nat.testBit_and, Bool.eq_iff_iff, Bool.and_eq_true, ou_bit hA hc, ou_bit hB (cls_rev hc), fit_iff _ _ _ hp]
 unfold FitP
 refine and_congr ?_ ?_
 ·cases hs : l[k].start with
  | true =>
    rw [hs] at hxA
    rw [out_whole hc hxA rfl p]
    constructor
    ·intro h; exact ⟨0, Nat.zero_le _, fun _ => rfl, (lg_fits 32 _ hok.1 _).2 (by rw [sg_take]; exact h)⟩
    ·rintro ⟨i, _, hi, h⟩
     obtain rfl := hi rfl
     have := (lg_fits 32 _ hok.1 _).1 h
     rw [sg_take] at this
     exact this
  | false =>
    rw [hs] at hxA
    rw [out_some hc hxA rfl p hp]
    constructor
    ·rintro ⟨j, hj, h⟩; exact ⟨j, hj, (fun h => by cases h), (lg_fits 32 _ hok.1 _).2 h⟩
    ·rintro ⟨i, hi, _, h⟩; exact ⟨i, hi, (lg_fits 32 _ hok.1 _).1 h⟩
 ·rw [out_some (cls_rev hc) hxB rfl (row.length - p) (by rw [List.length_reverse]; omega)]
  constructor
  ·rintro ⟨j, hj, h⟩
   rw [rev_fits 32 _ hok.2, sg_rev9 row j (row.length - p) hj (by omega)] at h
   refine ⟨row.length - j, by omega, by omega, (lg_fits 32 _ hok.2 _).2 ?_⟩
   rw [show row.length - (row.length - p) = p by omega] at h
   exact h
  ·rintro ⟨j, hj, hj2, h⟩
   refine ⟨row.length - j, by omega, ?_⟩
   rw [rev_fits 32 _ hok.2, sg_rev9 row _ (row.length - p) (by omega) (by omega), show row.length - (row.length - p) = p by omega, show row.length - (row.length - j) = j by omega]
   exact (lg_fits 32 _ hok.2 _).1 h
theorem dc_says (l : List Rl) (f : Rl → Bool) (x : Nat) (hx : ∀ k (hk : k < l.length), x.testBit k = f l[k]) : (n i : Nat) → i + n = l.length → dcB (brkN l) x n i = saysB f (l.drop i)
 | 0, i, h => by rw [List.drop_eq_nil_of_le (by omega)]; rfl
 | n + 1, i, h => by
   have hi : i < l.length := by omega
   rw [List.drop_eq_getElem_cons hi, dcB, hx i hi, saysB, brkN_bit, List.getElem?_eq_getElem hi, dc_says l f x hx n (i + 1) (by omega)]
   rfl
theorem IsBd.bound {K : Nat} {l : List Rl} {n : Nat} {row : List Int} {L : List Nat} (h : IsBd K l n row L) (hn : row.length = n) (hc : Cls K row) (hok : ∀ r, r ∈ l → okN 32 r.left = true ∧ okN 32 r.right = true) {p : Nat} (hp : p ≤ n) : decide (p ∈ L) = boundAt l row p := by
 subst hn
 obtain ⟨nxA, ouA, nxB, ouB, rfl, hA, hB⟩ := h
 rw [Bool.eq_iff_iff, decide_eq_true_eq, mem_allB]
 unfold boundAt isB
 by_cases he : p = 0 ∨ p = row.length
 ·rw [if_pos he, decide_eq_true_eq]
  have h2 : (decide (p = 0) || decide (p = row.length)) = true := by rcases he with rfl | rfl <;> simp
  rw [h2, Bool.true_or]
  exact ⟨fun h => Nat.pos_of_ne_zero h.1, fun h => ⟨by omega, hp, rfl⟩⟩
 ·rw [if_neg he]
  have h1 : decide (p = 0) = false := decide_eq_false fun e => he (.inl e)
  have h2 : decide (p = row.length) = false := decide_eq_false fun e => he (.inr e)
  rw [h1, h2, Bool.false_or, Bool.false_or, dc_says l (fun r => r.fit row p) _ (fun k hk => fit_bits hA hB hc hk (hok _ (List.getElem_mem hk)) hp) l.length 0 (by omega), List.drop_zero]
  exact ⟨fun h => h.2.2, fun h => ⟨by omega, hp, h⟩⟩
theorem IsBd.list {K : Nat} {l : List Rl} {n : Nat} {row : List Int} {L : List Nat} (h : IsBd K l n row L) (hn : row.length = n) (hc : Cls K row) (hok : ∀ r, r ∈ l → okN 32 r.left = true ∧ okN 32 r.right = true) : boundL l row = (List.range (n + 1)).map fun q => decide (q ∈ L) := by
 unfold boundL
 rw [hn]
 refine List.map_congr_left fun q hq => ?_
 rw [h.bound hn hc hok (by have := List.mem_range.1 hq; omega)]
def NxV (f : Nat → Bool) (n a v : Nat) : Prop := (∀ i, a < i → i < v → f i = false) ∧ ((a < v ∧ v ≤ n ∧ f v = true) ∨ (v = n ∧ ∀ i, a < i → i ≤ n → f i = false))
def PvV (f : Nat → Bool) (a v : Nat) : Prop := (∀ i, v < i → i < a → f i = false) ∧ ((0 < v ∧ v < a ∧ f v = true) ∨ v = 0)
theorem nxV_next {L : List Nat} {n a v : Nat} (hs : L.Pairwise (· < ·)) (hn : 0 < n → n ∈ L) (hle : ∀ x, x ∈ L → x ≤ n) (ha : a ≤ n) (h : NxV (fun q => decide (q ∈ L)) n a v) : v = nextL L n a := by
 obtain ⟨h1, h2⟩ := h
 rcases Nat.lt_or_ge a n with hlt | hge
 ·obtain ⟨q1, q2, q3⟩ := next_mem hs (hn (by omega)) hlt
  rcases h2 with ⟨h3, h4, h5⟩ | ⟨h3, h4⟩
  ·have h6 := q3 v (by simpa using h5) h3
   rcases Nat.lt_or_ge (nextL L n a) v with h7 | h7
   ·have := h1 _ q2 h7
    simp [q1] at this
   ·omega
  ·have := h4 n hlt (Nat.le_refl _)
   simp [hn (by omega)] at this
 ·have : a = n := by omega
  subst this
  rcases h2 with ⟨h3, h4, _⟩ | ⟨h3, _⟩
  ·omega
  ·rw [h3, find_none (fun y hy => by have := hle y hy; omega)]
theorem pvV_prev {L : List Nat} {n a v : Nat} (hs : L.Pairwise (· < ·)) (hz : n = 0 → L = []) (h0 : 0 < n → 0 ∈ L) (ha : a ≤ n) (h : PvV (fun q => decide (q ∈ L)) a v) : v = prevL L n a := by
 obtain ⟨h1, h2⟩ := h
 rcases Nat.eq_zero_or_pos a with rfl | hpos
 ·have : v = 0 := by omega
  subst this
  unfold prevL
  have : L.takeWhile (fun x => decide (x < 0)) = [] := by
   cases L with
   | nil => rfl
   | cons x r => simp
  rw [this]; rfl
 ·obtain ⟨q1, q2, q3⟩ := prev_mem (n := n) hs (h0 (by omega)) hpos
  rcases h2 with ⟨h3, h4, h5⟩ | h3
  ·have h6 := q3 v (by simpa using h5) h4
   rcases Nat.lt_or_ge v (prevL L n a) with h7 | h7
   ·have := h1 _ h7 q2
    simp [q1] at this
   ·omega
  ·subst h3
   rcases Nat.eq_zero_or_pos (prevL L n a) with h7 | h7
   ·exact h7.symm
   ·have := h1 _ h7 q2
    simp [q1] at this
end Go.Proofs.YtcafffohnokjgaaDoor

/- The walks of in, all, either and Same of the reference of reading. -/
namespace Go.Proofs.YtcafffohnokjgaaDoor
open Go.RowKit
set_option linter.unusedVariables false
set_option linter.unusedSimpArgs false

set_option maxHeartbeats 1000000 in
theorem inI_any (xs : List Int) (c : Int) (a : Option Addr) (len cap : Nat) (w : World) (hrd : Rd .i64 w a len xs) (hm : len ≤ 9223372036854775806) :
 Calls Tryd.prog 75 #[.slice a len cap, .int .i64 c] w fun e w' => e = .returned (.bool (decide (c ∈ xs))) ∧ w' = w := by
 have HD : Hid (Rd .i64 w a len xs) := hrd
 have HL : Hid (xs.length = len) := hrd.1
 obtain ⟨R, hR⟩ : ∃ R, R = decide (c ∈ xs) := ⟨_, rfl⟩
 rw [← hR]
 have HR : Hid (R = decide (c ∈ xs)) := hR
 clear hrd hR
 go_enter Tryd.func75, Tryd.ntmps75
 go_wp2
 go_loop [5] (fun x8 => ∃ k : Nat, k ≤ len ∧ x8 = .int .i64 k ∧ ∀ j (hj : j < xs.length), j < k → (xs[j] == c) = false) (fun x8 => len - (intOf x8).toNat)
 case atStart => exact ⟨0, by omega, rfl, fun j _ hj => absurd hj (by omega)⟩
 case round =>
  obtain ⟨k, hk, hx8, hat⟩ := hrel
  subst hx8
  have HA : Hid (∀ j (hj : j < xs.length), j < k → (xs[j] == c) = false) := hat
  clear hat
  by_cases hlt : k < len
  ·obtain ⟨b, off, rfl, hcl⟩ := HD.out.2 (by omega)
   have hcc := hcl k hlt
   have hkl : k < xs.length := by rw [HL.out]; exact hlt
   obtain ⟨x, hx⟩ : ∃ x, x = xs.getD k 0 := ⟨_, rfl⟩
   have HX : Hid (x = xs[k]) := by show x = xs[k]; rw [hx]; simp [hkl]
   rw [← hx] at hcc
   clear hcl hx
   by_cases he : (x == c) = true
   ·have hR : R = true := by
     rw [HR.out, decide_eq_true_eq, ← beq_iff_eq.1 he, HX.out]
     exact List.getElem_mem hkl
    subst hR
    go_wp2
    go_ret
    exact ⟨rfl, rfl⟩
   ·rw [Bool.not_eq_true] at he
    have HE : Hid ((x == c) = false) := he
    go_wp2
    go_round
    case rel =>
     refine ⟨k + 1, by omega, by go_num, fun j hj hj2 => ?_⟩
     rcases Nat.lt_or_ge j k with h | h
     ·exact HA.out j hj h
     ·obtain rfl : j = k := by omega
      rw [← HX.out]; exact HE.out
    case measure => simp [intOf]; omega
  ·have hR : R = false := by
    rw [HR.out, decide_eq_false_iff_not]
    intro hm
    obtain ⟨j, hj, e⟩ := List.mem_iff_getElem.1 hm
    have := HA.out j hj (by rw [HL.out] at hj; omega)
    rw [e] at this
    simp at this
   subst hR
   go_wp2
   go_ret
   exact ⟨rfl, rfl⟩
def BoPost (bs : List Bool) (m : Nat) (w : World) (e : Ending) (w' : World) : Prop := ∃ v, e = .returned v ∧ w'.ownsRow w.heap.size 4 1 v m (bs.map Value.bool) ∧ Below w.heap.size w w'
theorem info_bo : (Tryd.prog.info? 4).map (fun i => (i.zero, i.size, i.bytes)) = some (some (.bool false), 1, 1) := by kernel_rfl
theorem snoc_own {w w5 w6 : World} {B : Nat} {v : Value} {n : Nat} {bs : List Bool} {b : Bool} (h : w5.ownsRow B 4 1 v n (bs.map Value.bool)) (hb : Below B w w5) (g cp : Nat) (q1 : w6.ownsRow B 4 1 (.slice (some ⟨g, 0, none⟩) (n + 1) cp) (n + 1) (bs.map Value.bool ++ [.bool b])) (q2 : (w5.alloc (.cells #[.bool b] 4)).grownBy w6 v.ownBlock) (hB : w.heap.size = B) : w6.ownsRow B 4 1 (.slice (some ⟨g, 0, none⟩) (n + 1) cp) (n + 1) ((bs ++ [b]).map Value.bool) ∧ Below B w w6 := by
 subst hB
 refine ⟨by rw [List.map_append]; exact q1, ?_⟩
 have hb1 : Below w.heap.size w (w5.alloc (.cells #[.bool b] 4)) := hb.alloc hb.size _
 exact hb1.grown q2 hb1.size (fun y hy => (h.lt y hy).1)
set_option maxHeartbeats 4000000 in
theorem all_any (n : Nat) (b : Bool) (w : World) (hn : n ≤ 1000) : Calls Tryd.prog 38 #[.int .i64 (n : Int), .bool b] w (BoPost (List.replicate (n + 1) b) (n + 1) w) := by
 obtain ⟨j0, ji, jz0, jz1, jz2⟩ := info_parts info_bo
 have HJ : Hid (Tryd.prog.info? 4 = some j0 ∧ j0.zero = some (.bool false) ∧ j0.size = 1 ∧ j0.bytes = 1) := ⟨ji, jz0, jz1, jz2⟩
 have hni : (n : Int) ≤ 1000 := by omega
 clear ji jz0 jz1 jz2
 go_enter Tryd.func38, Tryd.ntmps38
 go_wp2
 go_loopw [5, 6] (fun x5 x6 wr => ∃ k : Nat, k ≤ n + 1 ∧ x6 = .int .i64 k ∧ wr.ownsRow w.heap.size 4 1 x5 k ((List.replicate k b).map Value.bool) ∧ Below w.heap.size w wr) (fun _ x6 _ => n + 1 - (intOf x6).toNat)
 case atStart => exact ⟨0, by omega, rfl, World.ownsRow_nil _ _ _ _, Below.refl _ _⟩
 case round =>
  obtain ⟨k, hk, hx6, ho, hbl⟩ := hrel
  subst hx6
  obtain ⟨av, cv, rfl⟩ := own_sl1 ho
  have HO : Hid (wr.ownsRow w.heap.size 4 1 (.slice av k cv) k ((List.replicate k b).map Value.bool)) := ho
  have HBL : Hid (Below w.heap.size w wr) := hbl
  clear ho hbl
  by_cases hlt : k ≤ n
  ·have hki : (k : Int) ≤ (n : Int) := by omega
   have HSZ : Hid (w.heap.size ≤ wr.heap.size) := HBL.out.size
   go_wp2_with (at_builtin; refine wpList_append_lies _ rfl _ _ 33 rfl w.heap.size 4 j0 _ 1 1 Tryd.underlying33 HJ.out.1 HJ.out.2.1 HJ.out.2.2.1 HJ.out.2.2.2 rfl (by decide) (.slice av k cv) k ((List.replicate k b).map Value.bool) rfl (own_alloc HO.out _) ⟨wr.heap.size, 0, none⟩ 1 1 [.bool b] rfl rfl (World.news_of_block (cs := #[.bool b]) (t := 4) (fr := (0, 0)) (heap_alloc_new wr _)) (by simp [Value.oneCell']) (by omega) (by unfold maxLen; omega) (by omega) (by have := HSZ.out; simp; omega) _ rfl (fun g cp w6 q1 q2 q3 q4 => ?_); have HN := snoc_own HO.out HBL.out g cp q1 q2 rfl; have HNN : Hid (w6.ownsRow w.heap.size 4 1 (.slice (some ⟨g, 0, none⟩) (k + 1) cp) (k + 1) ((List.replicate k b ++ [b]).map Value.bool) ∧ Below w.heap.size w w6) := HN; clear HN q1 q2 q3 q4)
   go_roundw
   case rel => exact ⟨k + 1, by omega, by go_num, by rw [List.replicate_succ']; exact HNN.out.1, HNN.out.2⟩
   case measure => simp [intOf]; omega
  ·obtain rfl : k = n + 1 := by omega
   have hki : ¬ ((n + 1 : Nat) : Int) ≤ (n : Int) := by omega
   go_wp2
   go_ret
   exact ⟨_, rfl, HO.out, HBL.out⟩
theorem orB_take (a b : List Bool) (hl : a.length = b.length) (k : Nat) (hk : k < a.length) : (orB a b).take (k + 1) = (orB a b).take k ++ [a.getD k false || b.getD k false] := by
 have hol := orB_len a b hl
 have hko : k < (orB a b).length := by omega
 have hg : (orB a b)[k] = (a.getD k false || b.getD k false) := by
  have h1 := orB_at a b k hk (by omega)
  rw [List.getElem?_eq_getElem hko] at h1
  rw [Option.some.inj h1]
  simp [hk, show k < b.length by omega]
 rw [List.take_succ_eq_append_getElem hko, hg]
set_option maxHeartbeats 4000000 in
theorem either_any (ys bs : List Bool) (a1 a2 : Option Addr) (len c1 c2 : Nat) (w : World) (h1 : RdT w a1 len ys) (h2 : RdT w a2 len bs) (hm : len ≤ 1000) :
 Calls Tryd.prog 76 #[.slice a1 len c1, .slice a2 len c2] w (BoPost (orB ys bs) len w) := by
 obtain ⟨j0, ji, jz0, jz1, jz2⟩ := info_parts info_bo
 have HJ : Hid (Tryd.prog.info? 4 = some j0 ∧ j0.zero = some (.bool false) ∧ j0.size = 1 ∧ j0.bytes = 1) := ⟨ji, jz0, jz1, jz2⟩
 have HL : Hid (ys.length = len ∧ bs.length = len) := ⟨h1.1, h2.1⟩
 have HA : Hid (RdT w a1 len ys) := h1
 have HB : Hid (RdT w a2 len bs) := h2
 have hni : (len : Int) ≤ 1000 := by omega
 clear ji jz0 jz1 jz2 h1 h2
 go_enter Tryd.func76, Tryd.ntmps76
 go_wp2
 go_loopw [5, 6] (fun x5 x6 wr => ∃ k : Nat, k ≤ len ∧ x6 = .int .i64 k ∧ wr.ownsRow w.heap.size 4 1 x5 k (((orB ys bs).take k).map Value.bool) ∧ Below w.heap.size w wr) (fun _ x6 _ => len - (intOf x6).toNat)
 case atStart => exact ⟨0, by omega, rfl, World.ownsRow_nil _ _ _ _, Below.refl _ _⟩
 case round =>
  obtain ⟨k, hk, hx6, ho, hbl⟩ := hrel
  subst hx6
  obtain ⟨av, cv, rfl⟩ := own_sl1 ho
  obtain ⟨P, hP⟩ : ∃ P, P = (orB ys bs).take k := ⟨_, rfl⟩
  rw [← hP] at ho
  have HO : Hid (wr.ownsRow w.heap.size 4 1 (.slice av k cv) k (P.map Value.bool)) := ho
  have HBL : Hid (Below w.heap.size w wr) := hbl
  have HP : Hid (P = (orB ys bs).take k) := hP
  clear ho hbl hP
  by_cases hlt : k < len
  ·have hki : (k : Int) < (len : Int) := by omega
   have HSZ : Hid (w.heap.size ≤ wr.heap.size) := HBL.out.size
   obtain ⟨b1, o1, rfl, e1⟩ := (HA.out.later HBL.out).2 (by omega)
   obtain ⟨b2, o2, rfl, e2⟩ := (HB.out.later HBL.out).2 (by omega)
   have t1 := e1 k hlt
   have t2 := e2 k hlt
   obtain ⟨x, hx⟩ : ∃ x, x = ys.getD k false := ⟨_, rfl⟩
   obtain ⟨y, hy⟩ : ∃ y, y = bs.getD k false := ⟨_, rfl⟩
   have HTK : Hid (P ++ [x || y] = (orB ys bs).take (k + 1)) := by
    show _ = _
    rw [orB_take ys bs (by rw [HL.out.1, HL.out.2]) k (by rw [HL.out.1]; exact hlt), HP.out, hx, hy]
   rw [← hx] at t1
   rw [← hy] at t2
   obtain ⟨z, hz⟩ : ∃ z, z = (x || y) := ⟨_, rfl⟩
   rw [← hz] at HTK
   clear e1 e2 hx hy
   cases x
   ·have hzy : z = y := by rw [hz]; simp
    subst hzy
    clear hz
    go_wp2_with (at_builtin; refine wpList_append_lies _ rfl _ _ 33 rfl w.heap.size 4 j0 _ 1 1 Tryd.underlying33 HJ.out.1 HJ.out.2.1 HJ.out.2.2.1 HJ.out.2.2.2 rfl (by decide) (.slice av k cv) k (P.map Value.bool) rfl (own_alloc HO.out _) ⟨wr.heap.size, 0, none⟩ 1 1 [.bool z] rfl rfl (World.news_of_block (cs := #[.bool z]) (t := 4) (fr := (0, 0)) (heap_alloc_new wr _)) (by simp [Value.oneCell']) (by omega) (by unfold maxLen; omega) (by omega) (by have := HSZ.out; simp; omega) _ rfl (fun g cp w6 q1 q2 q3 q4 => ?_); have HN := snoc_own HO.out HBL.out g cp q1 q2 rfl; have HNN : Hid (w6.ownsRow w.heap.size 4 1 (.slice (some ⟨g, 0, none⟩) (k + 1) cp) (k + 1) ((P ++ [z]).map Value.bool) ∧ Below w.heap.size w w6) := HN; clear HN q1 q2 q3 q4)
    go_roundw
    case rel => exact ⟨k + 1, by omega, by go_num, by rw [← HTK.out]; exact HNN.out.1, HNN.out.2⟩
    case measure => simp [intOf]; omega
   ·have hzy : z = true := by rw [hz]; simp
    subst hzy
    clear hz
    go_wp2_with (at_builtin; refine wpList_append_lies _ rfl _ _ 33 rfl w.heap.size 4 j0 _ 1 1 Tryd.underlying33 HJ.out.1 HJ.out.2.1 HJ.out.2.2.1 HJ.out.2.2.2 rfl (by decide) (.slice av k cv) k (P.map Value.bool) rfl (own_alloc HO.out _) ⟨wr.heap.size, 0, none⟩ 1 1 [.bool true] rfl rfl (World.news_of_block (cs := #[.bool true]) (t := 4) (fr := (0, 0)) (heap_alloc_new wr _)) (by simp [Value.oneCell']) (by omega) (by unfold maxLen; omega) (by omega) (by have := HSZ.out; simp; omega) _ rfl (fun g cp w6 q1 q2 q3 q4 => ?_); have HN := snoc_own HO.out HBL.out g cp q1 q2 rfl; have HNN : Hid (w6.ownsRow w.heap.size 4 1 (.slice (some ⟨g, 0, none⟩) (k + 1) cp) (k + 1) ((P ++ [true]).map Value.bool) ∧ Below w.heap.size w w6) := HN; clear HN q1 q2 q3 q4)
    go_roundw
    case rel => exact ⟨k + 1, by omega, by go_num, by rw [← HTK.out]; exact HNN.out.1, HNN.out.2⟩
    case measure => simp [intOf]; omega
  ·obtain rfl : k = len := by omega
   have HF : Hid (wr.ownsRow w.heap.size 4 1 (.slice av k cv) k ((orB ys bs).map Value.bool)) := by
    have h1 := HO.out
    rw [HP.out, List.take_of_length_le (by rw [orB_len _ _ (by rw [HL.out.1, HL.out.2]), HL.out.1]; exact Nat.le_refl _)] at h1
    exact h1
   go_wp2
   go_ret
   exact ⟨_, rfl, HF.out, HBL.out⟩
end Go.Proofs.YtcafffohnokjgaaDoor
