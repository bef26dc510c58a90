/- In one text: SegH, SegG, ReaSm, TabH, TabK, TablesDecideW, TabO, DfaFr. -/
import Derived.Test.YtcafffohnokjgaaDoorJ26
import Derived.Test.YtcafffohnokjgaaDoorJ27
import Derived.Test.YtcafffohnokjgaaDoorJ01
import Derived.Maps.AppendAt
import Derived.Laws.AppendOwnNone
import Derived.BigQuiet
import Derived.Test.YtcafffohnokjgaaDoorJ23
import Derived.Test.YtcafffohnokjgaaDoorJ21
import Derived.Test.YtcafffohnokjgaaDoorCards
import Derived.Test.YtcafffohnokjgaaDoorTie
import Derived.Test.YtcafffohnokjgaaDoorJ04
import Derived.ProofKit
import Derived.OpenShut
import Derived.ShutString
import Derived.ChangeOld
import Derived.ChangeVars
import Derived.JoinedOf
import Derived.LaidLaws
import Derived.LaidHandle
import Derived.Lay
import Derived.Below
import Derived.HandedShaped
import Derived.Shelf.Vars
import Derived.Lib.LaidTab
import Derived.Stop.LaidErr
/- The walk of the statements' shown. -/
namespace Go.Proofs.YtcafffohnokjgaaDoor
open Go.RowKit Go.Shelf
set_option linter.unusedVariables false
set_option linter.unusedSimpArgs false

theorem allB_zero (br n : Nat) (OA OB : Nat → Nat) (hn : n ≠ 0) : allB br 0 n OA OB = List.range (n + 1) := by
 unfold allB bndL
 rw [if_neg hn, List.filter_eq_self]
 intro p _
 unfold isB
 rw [dcB]
 simp
theorem TabAt.later {w w' : World} {K : Nat} {l : List Rl} {tb : Nat} (h : TabAt w K l tb) (hV : Below w.heap.size w w') : TabAt w' K l tb := by
 obtain ⟨la, lb, nxA, ouA, nxB, ouB, q1, q2, q3, q4, q5, q6, q7⟩ := h
 exact ⟨la, lb, nxA, ouA, nxB, ouB, (hV.block tb (Array.getElem?_eq_some_iff.1 q1).1).trans q1, q2.later hV, q3, q4, q5.later hV, q6, q7⟩
theorem rdI_two (V : World) (a b : Int) : Rd .i64 (V.alloc (.cells #[.int .i64 a, .int .i64 b] 3)) (some ⟨V.heap.size, 0, none⟩) 2 [a, b] := ⟨rfl, fun _ => ⟨V.heap.size, 0, rfl, fun i hi => by
 rw [cell_of_row _ V.heap.size (0 + i) _ _ _ (heap_alloc_new V _)]
 match i, hi with
 | 0, _ => rfl
 | 1, _ => rfl⟩⟩
theorem rdI_one (V : World) (a : Int) : Rd .i64 (V.alloc (.cells #[.int .i64 a] 3)) (some ⟨V.heap.size, 0, none⟩) 1 [a] := ⟨rfl, fun _ => ⟨V.heap.size, 0, rfl, fun i hi => by
 rw [cell_of_row _ V.heap.size (0 + i) _ _ _ (heap_alloc_new V _)]
 match i, hi with
 | 0, _ => rfl⟩⟩
theorem cls01 : Cls 2 [0, 1] := fun c hc => by
 rcases List.mem_cons.1 hc with rfl | hc
 ·exact ⟨by decide, by decide⟩
 ·rw [List.mem_singleton.1 hc]; exact ⟨by decide, by decide⟩
theorem cls2 : ¬ Cls 2 [2] := fun h => by have := (h 2 (by simp)).2; omega
set_option maxRecDepth 100000 in
set_option maxHeartbeats 8000000 in
theorem shown10_any (w : World) (hT : TabD w) : Calls Tryd.prog 10 #[] w fun e w' => e = .returned (.bool true) ∧ Below w.heap.size w w' := by
 have HTD : Hid (TabD w) := hT
 clear hT
 obtain ⟨w1, hw1⟩ : ∃ w1, w1 = w.alloc (.cells #[.string ⟨#[97]⟩, .string ⟨#[98]⟩] 9) := ⟨_, rfl⟩
 obtain ⟨H, hH⟩ : ∃ H, H = w.heap.size := ⟨_, rfl⟩
 have HB1 : Hid (Below w.heap.size w w1) := by rw [hw1]; exact (Below.refl _ w).alloc (Nat.le_refl _) _
 have HC1 : Hid (Calls Tryd.prog 12 #[.agg #[.slice (some ⟨H, 0, none⟩) 2 2, .slice none 0 0]] w1 (CmpP 2 [] w1)) := compile_any 0 2 [] (some ⟨H, 0, none⟩) none 2 0 w1 (HTD.out.later HB1.out) ⟨rfl, fun i hi => absurd hi (by simp)⟩ (by simp)
 go_enter Tryd.func10, Tryd.ntmps10
 go_wp2_with fail
 rw [← hH, ← hw1]
 clear hH hw1
 refine HC1.out.mono ?_
 rintro e w2 ⟨hb2, hor⟩
 have HB2 : Hid (Below w.heap.size w w2) := HB1.out.trans (hb2.mono HB1.out.size)
 have hnb : ¬ BigC 2 (xsL []) ∧ ¬ BigC 2 (xsR []) := ⟨many_not_big 2 0 (by decide), many_not_big 2 0 (by decide)⟩
 obtain ⟨tb, rfl, hta⟩ : ∃ tb, e = .returned (.tuple #[.pointer (some ⟨tb, 0, none⟩), .int .i64 0]) ∧ TabAt w2 2 [] tb := by
  rcases hor with ⟨hal, _⟩ | ⟨_, ⟨_, htb | htb⟩ | ⟨tb, he, _, hta, _⟩⟩
  ·exact absurd hal (by decide)
  ·exact absurd htb hnb.1
  ·exact absurd htb hnb.2
  ·exact ⟨tb, he, hta⟩
 have HTA : Hid (∀ V : World, Below w2.heap.size w2 V → TabAt V 2 [] tb) := fun V hV => hta.later hV
 clear hb2 hor hnb hta HC1
 obtain ⟨W3, hW3⟩ : ∃ W3, W3 = w2.alloc (.cells #[.int .i64 0, .int .i64 1] 3) := ⟨_, rfl⟩
 obtain ⟨g3, hg3⟩ : ∃ g, g = w2.heap.size := ⟨_, rfl⟩
 have HC3 : Hid (Below w2.heap.size w2 W3) := by rw [hW3]; exact (Below.refl _ w2).alloc (Nat.le_refl _) _
 have HX3 : Hid (Calls Tryd.prog 18 #[.pointer (some ⟨tb, 0, none⟩), .slice (some ⟨g3, 0, none⟩) 2 2] W3 (BdsP 2 [] 2 [0, 1] W3)) := segBounds_any 2 tb 2 2 [] [0, 1] (some ⟨g3, 0, none⟩) W3 (HTA.out W3 HC3.out) (by simp) (by rw [hW3, hg3]; exact rdI_two w2 0 1) (fun h => by cases h) (by decide)
 go_wp2_with fail
 rw [← hg3, ← hW3]
 clear hg3 hW3
 refine HX3.out.mono ?_
 rintro e w4 ⟨hb4, hor⟩
 have HC4 : Hid (Below w2.heap.size w2 w4) := HC3.out.trans (hb4.mono HC3.out.size)
 obtain ⟨g, rfl, hg⟩ : ∃ g, e = .returned (.tuple #[.slice (some ⟨g, 0, none⟩) 3 3, .int .i64 0]) ∧ w4.heap[g]? = some (.cells (bArr 2 (List.range 3)) 4) := by
  rcases hor with ⟨h, _⟩ | ⟨_, nxA, ouA, nxB, ouB, g, he, hg, _⟩
  ·exact absurd cls01 h
  ·refine ⟨g, he, ?_⟩
   rw [show ([] : List Rl).length = 0 from rfl, allB_zero _ _ _ _ (by decide)] at hg
   exact hg
 have HG : Hid (∀ V : World, Below w4.heap.size w4 V → V.cell? ⟨g, 0, none⟩ = some (.bool true) ∧ V.cell? ⟨g, 1, none⟩ = some (.bool true) ∧ V.cell? ⟨g, 2, none⟩ = some (.bool true)) := fun V hV => by
  have h := (hV.block g (Array.getElem?_eq_some_iff.1 hg).1).trans hg
  refine ⟨?_, ?_, ?_⟩
  ·rw [cell_of_row V g 0 _ _ _ h, bArr_get 2 _ (by decide)]; rfl
  ·rw [cell_of_row V g 1 _ _ _ h, bArr_get 2 _ (by decide)]; rfl
  ·rw [cell_of_row V g 2 _ _ _ h, bArr_get 2 _ (by decide)]; rfl
 clear hb4 hor hg HX3 HC3
 obtain ⟨W5, hW5⟩ : ∃ W5, W5 = w4.alloc (.cells #[.int .i64 2] 3) := ⟨_, rfl⟩
 obtain ⟨g5, hg5⟩ : ∃ g, g = w4.heap.size := ⟨_, rfl⟩
 have HD5 : Hid (Below w4.heap.size w4 W5) := by rw [hW5]; exact (Below.refl _ w4).alloc (Nat.le_refl _) _
 have HX5 : Hid (Calls Tryd.prog 18 #[.pointer (some ⟨tb, 0, none⟩), .slice (some ⟨g5, 0, none⟩) 1 1] W5 (BdsP 2 [] 1 [2] W5)) := segBounds_any 2 tb 1 1 [] [2] (some ⟨g5, 0, none⟩) W5 (HTA.out W5 (HC4.out.trans (HD5.out.mono HC4.out.size))) (by simp) (by rw [hW5, hg5]; exact rdI_one w4 2) (fun h => by cases h) (by decide)
 go_wp2_with fail
 rw [← hg5, ← hW5]
 clear hg5 hW5
 refine HX5.out.mono ?_
 rintro e w6 ⟨hb6, hor⟩
 have HD6 : Hid (Below w4.heap.size w4 w6) := HD5.out.trans (hb6.mono HD5.out.size)
 obtain rfl : e = .returned (.tuple #[.slice none 0 0, .int .i64 1]) := by
  rcases hor with ⟨_, h⟩ | ⟨h, _⟩
  ·exact h
  ·exact absurd h cls2
 clear hb6 hor HX5 HD5
 obtain ⟨W7, hW7⟩ : ∃ W7, W7 = w6.alloc (.cells #[.int .i64 0, .int .i64 1] 3) := ⟨_, rfl⟩
 obtain ⟨g7, hg7⟩ : ∃ g, g = w6.heap.size := ⟨_, rfl⟩
 have HD7 : Hid (Below w4.heap.size w4 W7) := by rw [hW7]; exact HD6.out.alloc HD6.out.size _
 have HX7 : Hid (Calls Tryd.prog 14 #[.pointer (some ⟨tb, 0, none⟩), .slice (some ⟨g7, 0, none⟩) 2 2, .int .i64 0] W7 (StpP nextL 2 [] 2 [0, 1] 0 W7)) := segNext_any 2 tb 2 2 [] [0, 1] (some ⟨g7, 0, none⟩) 0 W7 (HTA.out W7 (HC4.out.trans (HD7.out.mono HC4.out.size))) (by simp) (by rw [hW7, hg7]; exact rdI_two w6 0 1) (fun h => by cases h) (by decide)
 go_wp2_with fail
 rw [← hg7, ← hW7]
 clear hg7 hW7
 refine HX7.out.mono ?_
 rintro e w8 ⟨hb8, hor⟩
 have HD8 : Hid (Below w4.heap.size w4 w8) := HD7.out.trans (hb8.mono HD7.out.size)
 obtain rfl : e = .returned (.tuple #[.int .i64 1, .int .i64 0]) := by
  rcases hor with ⟨h, _⟩ | ⟨_, h, _⟩ | ⟨_, _, _, nxA, ouA, nxB, ouB, he, _⟩
  ·exact absurd cls01 h
  ·omega
  ·rw [he, show ([] : List Rl).length = 0 from rfl, allB_zero _ _ _ _ (by decide)]; rfl
 clear hb8 hor HX7 HD7 HD6
 obtain ⟨W9, hW9⟩ : ∃ W9, W9 = w8.alloc (.cells #[.int .i64 0, .int .i64 1] 3) := ⟨_, rfl⟩
 obtain ⟨g9, hg9⟩ : ∃ g, g = w8.heap.size := ⟨_, rfl⟩
 have HD9 : Hid (Below w4.heap.size w4 W9) := by rw [hW9]; exact HD8.out.alloc HD8.out.size _
 have HX9 : Hid (Calls Tryd.prog 15 #[.pointer (some ⟨tb, 0, none⟩), .slice (some ⟨g9, 0, none⟩) 2 2, .int .i64 3] W9 (StpP prevL 2 [] 2 [0, 1] 3 W9)) := segPrev_any 2 tb 2 2 [] [0, 1] (some ⟨g9, 0, none⟩) 3 W9 (HTA.out W9 (HC4.out.trans (HD9.out.mono HC4.out.size))) (by simp) (by rw [hW9, hg9]; exact rdI_two w8 0 1) (fun h => by cases h) (by decide)
 go_wp2_with fail
 rw [← hg9, ← hW9]
 clear hg9 hW9
 refine HX9.out.mono ?_
 rintro e wA ⟨hbA, hor⟩
 have HDA : Hid (Below w4.heap.size w4 wA) := HD9.out.trans (hbA.mono HD9.out.size)
 obtain rfl : e = .returned (.tuple #[.int .i64 0, .int .i64 3]) := by
  rcases hor with ⟨h, _⟩ | ⟨_, _, h⟩ | ⟨_, _, h, _⟩
  ·exact absurd cls01 h
  ·exact h
  ·omega
 obtain ⟨c0, c1, c2⟩ := HG.out wA HDA.out
 have HBZ : Hid (Below w.heap.size w wA) := HB2.out.trans ((HC4.out.trans (HDA.out.mono HC4.out.size)).mono HB2.out.size)
 clear hbA hor HX9 HD9 HD8 HG
 go_wp2_with fail
 go_ret
 exact ⟨rfl, HBZ.out⟩
end Go.Proofs.YtcafffohnokjgaaDoor

/- Two rulesets that grow, rule by rule. -/
namespace Go.Proofs.YtcafffohnokjgaaDoor
open Go.RowKit
set_option linter.unusedVariables false
set_option linter.unusedSimpArgs false

def Gr1 (B O : Nat) (cv v : Value) (ps : List (Rl × RlP)) (V : World) : Prop :=
 B ≤ O ∧ V.heap[O]? = some (.cells #[cv, v] 25) ∧ V.ownsRow B 48 8 v ps.length (flR ps)
theorem Gr1.later {B O : Nat} {cv v : Value} {ps : List (Rl × RlP)} {V V' : World} (h : Gr1 B O cv v ps V) (hb : Below V.heap.size V V') : Gr1 B O cv v ps V' :=
 ⟨h.1, (hb.block O (Array.getElem?_eq_some_iff.1 h.2.1).1).trans h.2.1, own_later5 h.2.2 hb⟩
theorem Gr1.keep {B O : Nat} {cv v : Value} {ps : List (Rl × RlP)} {V V' : World} {row : Option Nat} (h : Gr1 B O cv v ps V) (hg : V.grownBy V' row) (h1 : row ≠ some O) (h2 : v.ownBlock = none ∨ v.ownBlock ≠ row) : Gr1 B O cv v ps V' :=
 ⟨h.1, (hg.block O (Array.getElem?_eq_some_iff.1 h.2.1).1 (fun e => h1 e.symm)).trans h.2.1, h.2.2.kept hg h2⟩
theorem Gr1.cells {B O : Nat} {cv v : Value} {ps : List (Rl × RlP)} {V : World} (h : Gr1 B O cv v ps V) : V.cell? ⟨O, 0, none⟩ = some cv ∧ V.cell? ⟨O, 1, none⟩ = some v ∧ V.frozen? ⟨O, 1, none⟩ = false :=
 ⟨cell_of_row V O 0 _ _ _ h.2.1, cell_of_row V O 1 _ _ _ h.2.1, Lib.frozen_of_heap h.2.1 1⟩
theorem Gr1.ne {B O : Nat} {cv v : Value} {ps : List (Rl × RlP)} {V : World} (h : Gr1 B O cv v ps V) {g : Nat} (hv : v.ownBlock = some g) : B ≤ g ∧ g < V.heap.size ∧ g ≠ O := by
 obtain ⟨h1, h2, cur, hc⟩ := own_lt h.2.2 hv
 refine ⟨h1, h2, fun e => ?_⟩
 subst e
 exact ne_ty hc h.2.1 (by decide) rfl
def Gr2 (B Y O : Nat) (cv v u : Value) (ps qs : List (Rl × RlP)) (V : World) : Prop :=
 Gr1 B Y cv v ps V ∧ Gr1 B O cv u qs V ∧ Y ≠ O ∧ (v.ownBlock = none ∨ v.ownBlock ≠ u.ownBlock)
theorem Gr2.later {B Y O : Nat} {cv v u : Value} {ps qs : List (Rl × RlP)} {V V' : World} (h : Gr2 B Y O cv v u ps qs V) (hb : Below V.heap.size V V') : Gr2 B Y O cv v u ps qs V' := ⟨h.1.later hb, h.2.1.later hb, h.2.2⟩
theorem Gr2.swap {B Y O : Nat} {cv v u : Value} {ps qs : List (Rl × RlP)} {V : World} (h : Gr2 B Y O cv v u ps qs V) : Gr2 B O Y cv u v qs ps V :=
 ⟨h.2.1, h.1, fun e => h.2.2.1 e.symm, by
  rcases h.2.2.2 with e | e
  ·rcases hu : u.ownBlock with _ | g
   ·exact .inl rfl
   ·exact .inr (by rw [e]; exact fun e => by cases e)
  ·exact .inr fun e' => e e'.symm⟩
theorem Gr2.more {B Y O : Nat} {cv u : Value} {av : Option Addr} {N cn g cp : Nat} {ps qs : List (Rl × RlP)} {V w1 : World} {x : Rl × RlP} (h : Gr2 B Y O cv (.slice av N cn) u ps qs V) (hN : N = ps.length)
 (o1 : w1.ownsRow B 48 8 (.slice (some ⟨g, 0, none⟩) (N + 1) cp) (N + 1) (flR ps ++ (x.1.vals x.2).toList)) (gr : V.grownBy w1 (Value.slice av N cn).ownBlock) (hg : (Value.slice av N cn).ownBlock = some g ∨ g = V.heap.size) :
 (w1.cell? ⟨Y, 1, none⟩ = some (.slice av N cn) ∧ w1.frozen? ⟨Y, 1, none⟩ = false) ∧ Gr2 B Y O cv (.slice (some ⟨g, 0, none⟩) (N + 1) cp) u (ps ++ [x]) qs (w1.setCell ⟨Y, 1, none⟩ (.slice (some ⟨g, 0, none⟩) (N + 1) cp)) := by
 obtain ⟨h1, h2, h3, h4⟩ := h
 have ky : w1.heap[Y]? = some (.cells #[cv, .slice av N cn] 25) := (gr.block Y (Array.getElem?_eq_some_iff.1 h1.2.1).1 (fun e => (h1.ne e.symm).2.2 rfl)).trans h1.2.1
 have k2 : Gr1 B O cv u qs w1 := by
  refine h2.keep gr (fun e => ?_) ?_
  ·obtain ⟨_, _, cur, hc⟩ := own_lt h1.2.2 e
   exact ne_ty hc h2.2.1 (by decide) rfl
  ·rcases h4 with e | e
   ·rcases hu : u.ownBlock with _ | g
    ·exact .inl rfl
    ·exact .inr (by rw [e]; exact fun e => by cases e)
   ·exact .inr fun e' => e e'.symm
 have hgc := grown_cell w1 Y 1 (Value.slice (some ⟨g, 0, none⟩) (N + 1) cp)
 have hug : u.ownBlock ≠ some g := fun e => by
  rcases hg with hg | hg
  ·rcases h4 with e4 | e4
   ·rw [e4] at hg; cases hg
   ·exact e4 (hg.trans e.symm)
  ·have := (h2.ne e).2.1
   omega
 have hY : (Value.slice (some ⟨g, 0, none⟩) (N + 1) cp).ownBlock ≠ some Y := fun e => by
  obtain ⟨_, _, cur, hc⟩ := own_lt o1 e
  exact ne_ty hc ky (by decide) rfl
 refine ⟨⟨cell_of_row _ _ 1 _ _ _ ky, Lib.frozen_of_heap ky 1⟩, ⟨h1.1, heap_setCell_same _ _ 1 _ _ _ ky, ?_⟩, k2.keep hgc (fun e => h3 (Option.some.inj e)) (.inr fun e => ?_), h3, .inr fun e => hug e.symm⟩
 ·rw [show (ps ++ [x]).length = N + 1 by simp [hN], show flR (ps ++ [x]) = flR ps ++ (x.1.vals x.2).toList by simp [flR]]
  exact o1.kept hgc (.inr hY)
 ·obtain ⟨_, _, cur, hc⟩ := own_lt k2.2.2 e
  exact ne_ty hc ky (by decide) rfl
theorem Gr2.other {B Y O X : Nat} {cv u : Value} {av : Option Addr} {N cn g cp : Nat} {ps qs : List (Rl × RlP)} {V w1 : World} {cs : Array Value} {t : TypeId} (h : Gr2 B Y O cv (.slice av N cn) u ps qs V) (hX : V.heap[X]? = some (.cells cs t)) (hXY : X ≠ Y) (hXo : (Value.slice av N cn).ownBlock ≠ some X) (gr : V.grownBy w1 (Value.slice av N cn).ownBlock) (z : Value) :
 (w1.setCell ⟨Y, 1, none⟩ z).heap[X]? = some (.cells cs t) :=
 (heap_setCell_other w1 ⟨Y, 1, none⟩ X z hXY).trans ((gr.block X (Array.getElem?_eq_some_iff.1 hX).1 (fun e => hXo e.symm)).trans hX)
theorem step_append_at {P : Program} {ops : Array Oper} {o : Oper} {a : Act} {w : World} {K : Act → World → Prop} {Q : Exit → Act → World → Prop} {E : Prop}
 (hg : o.guard = none) (s x : Operand) (t : TypeId) (hop : o.op = Op.call { callee := Callee.builtin Builtin.append, args := #[s, x], argTypes := #[t, t] })
 (base : Nat) (e : TypeId) (i : TypeInfo) (z : Value) (size bytes : Nat) (h1 : P.underlying t = some (.slice e)) (h2 : P.info? e = some i) (h3 : i.zero = some z) (h4 : i.size = size) (h5 : i.bytes = bytes) (h6 : z.cells.size = size) (h7 : 0 < size)
 (v : Value) (n : Nat) (xs : List Value) (hs : a.eval s = v) (hown : w.ownsRow base e size v n xs)
 (ad : Option Addr) (m c : Nat) (news : List Value) (hx : a.eval x = .slice ad m c) (hsrc : SrcAt w ad m c size news)
 (b1 : n + m ≤ maxLen) (b2 : (n + m) * bytes ≤ 140737488355328) (hb : base ≤ w.heap.size)
 (hK : ∀ v' w', w'.ownsRow base e size v' (n + m) (xs ++ news) → w.grownBy w' v.ownBlock → (v'.ownBlock = v.ownBlock ∨ v'.ownBlock = some w.heap.size) → K (a.put o.dst v') w') :
 if Region.wanted o (yielded ops a.tmps) = true then Oper.wp P o a w K Q else E := by
 have hw : Region.wanted o (yielded ops a.tmps) = true := by simp [Region.wanted, hg]
 rw [if_pos hw]
 obtain ⟨s1, s2, s3, s4⟩ := hsrc
 cases ad with
 | some b =>
   obtain ⟨v', w', hrun, r1, r2, _, r3⟩ := run_append_own_at (P := P) w base t o.type e i z size bytes h1 h2 h3 h4 h5 h6 h7 v n xs hown b m c news s1 (s3 b rfl) s4 b1 b2 hb
   unfold Oper.wp
   simp [execOp, hop, resolve, invoke, builtin, hs, hx, hrun, Result.andThen]
   exact hK v' w' r1 r2 r3
 | none =>
   obtain ⟨rfl, rfl⟩ := s2 rfl
   obtain rfl : news = [] := List.eq_nil_of_length_eq_zero (by simpa using s1)
   have hrun := run_append_owned_none (P := P) (w := w) base t o.type e i size h1 h2 v n xs hown
   unfold Oper.wp
   simp [execOp, hop, resolve, invoke, builtin, hs, hx, hrun, Result.andThen]
   exact hK v w (by simpa using hown) ⟨rfl, rfl, rfl, Nat.le_refl _, fun _ _ _ => rfl⟩ (.inl rfl)
def LtS (W : World) (O : Nat) (cv v : Value) (n : Nat) (fl : List Value) (V : World) : Prop :=
 Below W.heap.size W V ∧ W.heap.size ≤ O ∧ V.heap[O]? = some (.cells #[cv, v] 25) ∧ V.ownsRow W.heap.size 48 8 v n fl
theorem LtS.later {W V V' : World} {O n : Nat} {cv v : Value} {fl : List Value} (h : LtS W O cv v n fl V) (hb : Below V.heap.size V V') : LtS W O cv v n fl V' :=
 ⟨h.1.trans (hb.mono h.1.size), h.2.1, (hb.block O (Array.getElem?_eq_some_iff.1 h.2.2.1).1).trans h.2.2.1, own_later5 h.2.2.2 hb⟩
theorem lt_fin {W V : World} {O n : Nat} {cv v : Value} {fl : List Value} (hb : Below W.heap.size W V) (hO : W.heap.size ≤ O) (hx : V.heap[O]? = some (.cells #[.slice none 0 0, .slice none 0 0] 25)) (ho : V.ownsRow W.heap.size 48 8 v n fl) :
 LtS W O cv v n fl ((V.setCell ⟨O, 0, none⟩ cv).setCell ⟨O, 1, none⟩ v) := by
 have hg := grown_all (grown_cell V O 0 cv) (grown_cell _ O 1 v)
 refine ⟨hb.grown hg hb.size (fun k hk => by cases hk; exact hO), hO, heap_setCell_same _ O 1 _ _ _ (heap_setCell_same _ O 0 _ _ _ hx), ho.kept hg (.inr fun e => ?_)⟩
 obtain ⟨_, _, cur, hc⟩ := own_lt ho e
 exact ne_ty hc hx (by decide) rfl
theorem own_nil8 (V : World) (B : Nat) (hB : B ≤ V.heap.size) : (V.alloc (.cells #[] 48)).ownsRow B 48 8 (.slice (some ⟨V.heap.size, 0, none⟩) 0 0) 0 [] :=
 ⟨rfl, .inr ⟨V.heap.size, 0, #[], rfl, hB, heap_alloc_new V _, Nat.le_refl _, by simp [maxLen], rfl, rfl⟩⟩
theorem own_one8 (V : World) (B : Nat) (hB : B ≤ V.heap.size) (a0 a1 a2 a3 a4 a5 a6 a7 : Value) : (V.alloc (.cells #[a0, a1, a2, a3, a4, a5, a6, a7] 48)).ownsRow B 48 8 (.slice (some ⟨V.heap.size, 0, none⟩) 1 1) 1 [a0, a1, a2, a3, a4, a5, a6, a7] :=
 ⟨rfl, .inr ⟨V.heap.size, 1, #[a0, a1, a2, a3, a4, a5, a6, a7], rfl, hB, heap_alloc_new V _, Nat.le_refl _, by simp [maxLen], rfl, rfl⟩⟩
theorem src_one8 {V : World} {g : Nat} {a0 a1 a2 a3 a4 a5 a6 a7 : Value} (h : V.heap[g]? = some (.cells #[a0, a1, a2, a3, a4, a5, a6, a7] 48)) (h1 : ∀ u ∈ [a0, a1, a2, a3, a4, a5, a6, a7], u.oneCell' = true) : SrcAt V (some ⟨g, 0, none⟩) 1 1 8 [a0, a1, a2, a3, a4, a5, a6, a7] :=
 ⟨rfl, (fun h => by cases h), (fun a ha => by cases ha; exact World.news_of_block (fr := (0, 0)) h), h1⟩
end Go.Proofs.YtcafffohnokjgaaDoor

/- The walk of Same of the reference of reading. -/
namespace Go.Proofs.YtcafffohnokjgaaDoor
open Go.RowKit
set_option linter.unusedVariables false
set_option linter.unusedSimpArgs false

theorem below_dN {B : Nat} {w w' : World} (h : Below B w w') (n : Nat) : Below B w (w'.drewN n) := ⟨h.os, h.tape, h.output, h.size, h.block⟩
theorem bools_eq {as' bs : List Bool} {n : Nat} (h1 : as'.length = n) (h2 : bs.length = n) (h : ∀ j, j < n → as'.getD j false = bs.getD j false) : as' = bs := by
 apply List.ext_getElem (by omega)
 intro i h3 h4
 have := h i (by omega)
 simpa [h3, h4] using this
set_option maxHeartbeats 4000000 in
theorem sameQ_any (ys bs : List Bool) (a1 a2 : Option Addr) (n c1 c2 : Nat) (w : World) (h1 : RdT w a1 n ys) (h2 : RdT w a2 n bs) (hn : n ≤ 1000) :
 Calls Tryd.prog 19 #[.slice a1 n c1, .slice a2 n c2] w fun e w' => e = .returned (.bool (decide (ys = bs))) ∧ ∃ m, w' = w.drewN m := by
 have HL : Hid (ys.length = n ∧ bs.length = n) := ⟨h1.1, h2.1⟩
 have HA : Hid (RdT w a1 n ys) := h1
 have HB : Hid (RdT w a2 n bs) := h2
 have hni : (n : Int) ≤ 1000 := by omega
 obtain ⟨R, hR⟩ : ∃ R, R = decide (ys = bs) := ⟨_, rfl⟩
 rw [← hR]
 have HR : Hid (R = decide (ys = bs)) := hR
 clear h1 h2 hR
 go_enter Tryd.func19, Tryd.ntmps19
 go_wp2
 go_loopw [5] (fun x5 wr => ∃ k : Nat, k ≤ n ∧ x5 = .int .i64 k ∧ (∀ j, j < k → ys.getD j false = bs.getD j false) ∧ ∃ m, wr = w.drewN m) (fun x5 _ => n - (intOf x5).toNat)
 case atStart => exact ⟨0, by omega, rfl, fun j hj => absurd hj (by omega), 0, rfl⟩
 case round =>
  obtain ⟨k, hk, hx5, hat, hbl⟩ := hrel
  subst hx5
  have HBL : Hid (Below w.heap.size w wr) := by obtain ⟨m0, rfl⟩ := hbl; exact below_dN (Below.refl _ _) _
  have HMM : Hid (∃ m, wr = w.drewN m) := hbl
  have HMN : Hid (∀ n, ∃ m, wr.drewN n = w.drewN m) := fun n => by obtain ⟨m0, rfl⟩ := hbl; exact ⟨m0 + n, World.drewN_drewN _ _ _⟩
  clear hbl
  have HAT : Hid (∀ j, j < k → ys.getD j false = bs.getD j false) := hat
  clear hat
  by_cases hlt : k < n
  ·obtain ⟨b1, o1, rfl, e1⟩ := (HA.out.later HBL.out).2 (by omega)
   obtain ⟨b2, o2, rfl, e2⟩ := (HB.out.later HBL.out).2 (by omega)
   have t1 := e1 k hlt
   have t2 := e2 k hlt
   obtain ⟨x, hx⟩ : ∃ x, x = ys.getD k false := ⟨_, rfl⟩
   obtain ⟨y, hy⟩ : ∃ y, y = bs.getD k false := ⟨_, rfl⟩
   have HXY : Hid (x = ys.getD k false ∧ y = bs.getD k false) := ⟨hx, hy⟩
   rw [← hx] at t1
   rw [← hy] at t2
   have hki : (k : Int) < (n : Int) := by omega
   have hk0 : (0 : Int) ≤ (k : Int) := by omega
   clear e1 e2 hx hy
   by_cases hxy : x = y
   ·subst hxy
    have hbb : (x != x) = false := by simp
    go_wp2_with fail
    go_quiet (fail)
    go_wp2
    go_roundw
    case rel =>
     refine ⟨k + 1, by omega, by go_num, fun j hj => ?_, HMN.out nq⟩
     rcases Nat.lt_or_ge j k with h | h
     ·exact HAT.out j h
     ·obtain rfl : j = k := by omega
      rw [← HXY.out.1, ← HXY.out.2]
    case measure => first | (simp [intOf]; done) | (simp [intOf]; omega)
   ·have hRf : R = false := by
     rw [HR.out, decide_eq_false_iff_not]
     intro e
     apply hxy
     rw [HXY.out.1, HXY.out.2, e]
    subst hRf
    have hbb : (x == y) = false := by cases x <;> cases y <;> simp_all
    have hbc : (x != y) = true := by cases x <;> cases y <;> simp_all
    go_wp2_with fail
    go_quiet (fail)
    go_wp2
    go_ret
    exact ⟨rfl, HMN.out nq⟩
  ·obtain rfl : k = n := by omega
   have hRt : R = true := by
    rw [HR.out, decide_eq_true_eq]
    exact bools_eq HL.out.1 HL.out.2 HAT.out
   subst hRt
   go_wp2
   go_ret
   exact ⟨rfl, HMM.out⟩
theorem sameL_any (ys bs : List Bool) (a1 a2 : Option Addr) (n c1 c2 : Nat) (w : World) (h1 : RdT w a1 n ys) (h2 : RdT w a2 n bs) (hn : n ≤ 1000) :
 Calls Tryd.prog 19 #[.slice a1 n c1, .slice a2 n c2] w fun e w' => e = .returned (.bool (decide (ys = bs))) ∧ Below w.heap.size w w' :=
 (sameQ_any ys bs a1 a2 n c1 c2 w h1 h2 hn).mono fun e w' ⟨he, m, hm⟩ => ⟨he, by rw [hm]; exact below_dN (Below.refl _ _) m⟩
end Go.Proofs.YtcafffohnokjgaaDoor

/- The walk of shown. -/
namespace Go.Proofs.YtcafffohnokjgaaDoor
open Go.RowKit Go.Shelf Go.Maps
set_option linter.unusedVariables false
set_option linter.unusedSimpArgs false

end Go.Proofs.YtcafffohnokjgaaDoor

/- The walk of the reference's Decide. -/
namespace Go.Proofs.YtcafffohnokjgaaDoor
open Go.RowKit Go.Shelf
set_option linter.unusedVariables false
set_option linter.unusedSimpArgs false

end Go.Proofs.YtcafffohnokjgaaDoor

/- The walk of TablesDecide. -/
namespace Go.Proofs.YtcafffohnokjgaaDoor
open Go.RowKit Go.Shelf Go.Maps
set_option linter.unusedVariables false
set_option linter.unusedSimpArgs false

theorem box2 {w : World} {B : Nat} {a b : Value} {t : TypeId} (hh : w.heap[B]? = some (.cells #[a, b] t)) : (w.cell? ⟨B, 0, none⟩ = some a ∧ w.cell? ⟨B, 1, none⟩ = some b) ∧ w.frozen? ⟨B, 0, none⟩ = false ∧ w.frozen? ⟨B, 1, none⟩ = false :=
 ⟨⟨cell_of_row w B 0 _ _ _ hh, cell_of_row w B 1 _ _ _ hh⟩, Lib.frozen_of_heap hh 0, Lib.frozen_of_heap hh 1⟩
end Go.Proofs.YtcafffohnokjgaaDoor

/- A ruleset that comes in. -/
namespace Go.Proofs.YtcafffohnokjgaaDoor
open Go.ChangeShapes Go.WideShapes Go.ChangeAt Go.RowKit
set_option linter.unusedVariables false
set_option linter.unusedSimpArgs false

set_option maxRecDepth 100000 in
theorem wRs {H : Type} (d0 d1 : DataW H) (h : ((DataW.agg [d0, d1]).weights Tryd.prog 25).all (· ≤ reachBytes) = true) : (d0.weights Tryd.prog 22).all (· ≤ reachBytes) = true ∧ (d1.weights Tryd.prog 23).all (· ≤ reachBytes) = true := by
 simp only [DataW.weights, Tryd.underlying25, DataW.weightsEach, List.map_cons, List.map_nil, List.all_append, Bool.and_eq_true] at h
 exact ⟨h.1, h.2.1⟩
set_option maxRecDepth 100000 in
theorem open_ruleset {H : Type} {enc : TypeId × Value → H} {W : World} {base : Nat} {v : Value} {d : DataW H} {p : List MemPlace} (hval : Value.okWide Tryd.prog W .any base 25 v) (h : DataW.Trod enc Tryd.prog W 0 (fun _ => true) true 25 v d p) (hw : (d.weights Tryd.prog 25).all (· ≤ reachBytes) = true) :
 ∃ D K l ca cc ra rc, v = .agg #[.slice ca K cc, .slice ra l.length rc] ∧ RowR W D ra l.length l ∧ l.length ≤ 140737488355328 ∧ l.length ≤ rc ∧ K ≤ cc ∧ K ≤ 140737488355328 := by
 obtain ⟨cs, rfl, _⟩ := okWide_struct Tryd.underlying25 hval
 obtain ⟨fuel, hf⟩ := h
 obtain ⟨xs, k, rfl, hxy, hlen, hxl, hfl⟩ := DataW.trod_struct Tryd.underlying25 hf
 have c0 : Tryd.prog.cellsOf 22 = 1 := by kernel_rfl
 have c1 : Tryd.prog.cellsOf 23 = 1 := by kernel_rfl
 have cr : Tryd.prog.cellsOf 25 = 2 := by kernel_rfl
 have bs : Tryd.prog.bytesOf 9 = 16 := by kernel_rfl
 rw [cr] at hlen
 have hlen2 : cs.toList.length = 2 := hlen
 have hx2 : xs.length = 2 := hxl
 obtain ⟨v0, v1, rfl⟩ : ∃ v0 v1, cs = #[v0, v1] := by
  obtain ⟨l⟩ := cs
  rcases l with _ | ⟨v0, _ | ⟨v1, _ | ⟨v2, r⟩⟩⟩
  all_goals first | exact ⟨_, _, rfl⟩ | (simp at hlen2)
 obtain ⟨y0, y1, rfl⟩ : ∃ y0 y1, xs = [y0, y1] := by
  rcases xs with _ | ⟨v0, _ | ⟨v1, _ | ⟨v2, r⟩⟩⟩
  all_goals first | exact ⟨_, _, rfl⟩ | (simp at hx2)
 have g0 := hfl 0 _ rfl
 have g1 := hfl 1 _ rfl
 simp [c0, c1, Value.cells] at g0 g1
 have hd : d = .agg [y0.1, y1.1] := congrArg Prod.fst hxy
 rw [hd] at hw
 obtain ⟨hw0, hw1⟩ := wRs y0.1 y1.1 hw
 have hs : ∃ ca K cc, v0 = .slice ca K cc ∧ K ≤ cc ∧ K ≤ 140737488355328 := by
  rcases DataW.trod_slice Tryd.underlying22 g0 with ⟨hcs, _⟩ | ⟨x, l, c, elems, rest, n, hn, hcs, hyy, _, hl, hm, hel, hat, hsp, _⟩
  ·simp at hcs
   exact ⟨none, 0, 0, hcs, by omega, by omega⟩
  ·simp at hcs
   have hd0 : y0.1 = .slice (elems.map (·.1)) (rest.map (·.1)) := congrArg Prod.fst hyy
   rw [hd0] at hw0
   simp only [DataW.weights, Tryd.underlying22, List.all_cons, List.all_append, Bool.and_eq_true, decide_eq_true_eq, List.length_map, bs, reachBytes] at hw0
   obtain ⟨hw3, _⟩ := hw0
   have hw5 : (elems.length + rest.length) * 16 ≤ 140737488351232 := of_decide_eq_true hw3
   exact ⟨some x, l, c, hcs, hl, by omega⟩
 have hs1 : ∃ ra n rc, v1 = .slice ra n rc := by
  rcases DataW.trod_slice Tryd.underlying23 g1 with ⟨hcs, _⟩ | ⟨x, l, c, elems, rest, n, hn, hcs, _⟩
  ·simp at hcs; exact ⟨_, _, _, hcs⟩
  ·simp at hcs; exact ⟨_, _, _, hcs⟩
 obtain ⟨ca, K, cc, rfl, hK, hK2⟩ := hs
 obtain ⟨ra, n, rc, rfl⟩ := hs1
 obtain ⟨D, l, hr, hn, hnc⟩ := open_rules (d := y1.1) (p := y1.2) ⟨k, g1⟩ hw1
 obtain ⟨rfl⟩ : n = l.length := hr.1.symm
 exact ⟨D, K, l, ca, cc, ra, rc, rfl, hr, hn, hnc, hK, hK2⟩
end Go.Proofs.YtcafffohnokjgaaDoor

/- The frame that every statement of this layer stands in: what the listed variables give a walk; a world in which they are laid. -/
namespace Go.Proofs.YtcafffohnokjgaaDoor
open Go.ChangeShapes Go.WideShapes Go.ChangeAt Go.RowKit
set_option linter.unusedVariables false

theorem own : ownKnob Tryd.prog.godebug = none := by kernel_rfl
theorem laidOut : laidOutB Tryd.prog = true := by kernel_rfl
theorem returns_sized {H : Type} {enc : TypeId × Value → H} {a : Assume} {C : Checked} {os : Os} {f : FuncId} {fn : Func} {s : ChangeSpec} {conds : List PathCond} {apart fresh handsOn again : Bool} {X : World → Array Value → Prop}
 (hX : ∀ (w w' : World) (args : Array Value), w.heap = w'.heap → X w args → X w' args)
 (own : ownKnob C.prog.godebug = none) (started : os.Started) (noInit : C.prog.inits.idxOf? f = none) (hfn : C.prog.funcs[f]? = some fn)
 (witness : ∃ (w : World) (tape : Tape) (i : Input), w.os = os ∧ (w.forCall tape i).Shaped C.prog ∧ i.vars = [] ∧ Input.okWide C.prog (w.forCall tape i) .any w.heap.size f i ∧
  ((s.pre enc C.prog fn conds apart (w.forCall tape i).memory i.args ∧ X (w.forCall tape i).memory i.args) ∧ sizedMet enc C.prog fn (OpenSpec.ofChange s) apart (w.forCall tape i).memory i.args) ∧ a.holds C.prog (lone (Frame.enter C.prog f i.args .normal) [] (w.forCall tape i)))
 (contract : ∀ (W : World) (base : Nat) (args : Array Value) (ds gs : List (DataW H)) (before : List MemPlace),
  (∀ (j : Nat) t v, fn.params[j]? = some t → args[j]? = some v → Value.okWide C.prog W .any base t v) →
  DataW.Whole enc C.prog fn.params.toList s.vars apart W args.toList ds gs before → X W args →
  (DataW.weightsEach C.prog (fn.params.toList ++ (OpenSpec.ofChange s).bare.plain.varTypes C.prog) (ds ++ gs)).all (· ≤ reachBytes) = true →
  Calls C.prog f args W fun e W' => ∃ v, e = .returned v ∧ s.post enc C.prog fn apart fresh handsOn again W args v W') :
 ReturnsInHanded a C os f .any (fun w args => (s.pre enc C.prog fn conds apart w args ∧ X w args) ∧ sizedMet enc C.prog fn (OpenSpec.ofChange s) apart w args) (s.post enc C.prog fn apart fresh handsOn again) := by
 refine returnsInHanded_of_calls own started noInit witness ?_
 intro w tape i _ hsh _ hok hpre _
 obtain ⟨_, _, _, fn', hfn', _, _, _, _, hval⟩ := hok
 have e : fn' = fn := Option.some.inj (hfn'.symm.trans hfn)
 subst e
 obtain ⟨⟨⟨ds, gs, before, hw, hc⟩, hx⟩, hz⟩ := hpre
 have hw' := DataW.Whole.of_heap (w' := w.forCall tape i) (by rfl) hw
 refine (contract (w.forCall tape i) w.heap.size i.args ds gs before hval hw' (hX _ _ _ (by rfl) hx) (hz.weights hw)).mono fun e W' ⟨v, he, hp⟩ => ?_
 subst he
 exact ChangeSpec.post_blind hp
def listD : List (String × DataW Unit) := Rows.segStepsRow.laid
def laidWorldD (P : Program) (os : Os) : World := (World.holding P os ⟨#[], #[], []⟩).layVars P listD
theorem laidWorldD_data (os : Os) : laidMet Tryd.prog listD (laidWorldD Tryd.prog os) := by
 have e1 : (listD.filter fun x => (listD.map (·.1)).contains x.1) = listD := List.filter_eq_self.2 fun x hx => List.contains_iff_mem.2 (List.mem_map.2 ⟨x, hx, rfl⟩)
 have e2 : (listD.filter fun x => !(listD.map (·.1)).contains x.1) = [] := List.filter_eq_nil_iff.2 fun x hx => by rw [List.contains_iff_mem.2 (List.mem_map.2 ⟨x, hx, rfl⟩)]; simp
 exact laidMet_layVars (w0 := World.holding Tryd.prog os ⟨#[], #[], []⟩) (listD.map (·.1)) [] (by rw [e1]; rfl) (by rw [e1]; kernel_rfl) (by rw [e1]; kernel_rfl) (by rw [e2]; exact LaidIn.none)
theorem laidWorldD_met (os : Os) (args : Array Value) (l : List (String × DataW Unit)) (hl : l = listD) :
 laidMetH Tryd.prog l ((laidWorldD Tryd.prog os).forCall (fun _ _ => 0) ⟨#[], args, []⟩).memory := by
 subst hl
 refine laidMetH_of_parts ?_ (by kernel_rfl)
 exact (laidWorldD_data os).of_heap (by simp [World.memory, World.forCall, Input.heap])
theorem tabD_data : Rows.laid_math_bits_deBruijn64tab = (Lib.tabData .u8 (Lib.deBruijn64tab.map Int.ofNat) : DataW Unit) := by kernel_rfl
theorem globD : Tryd.prog.globalNamed "math/bits.deBruijn64tab" = some 0 := by kernel_rfl
theorem tab_head {W : World} {rest : List (String × DataW Unit)} (h3 : laidMet Tryd.prog (("math/bits.deBruijn64tab", Rows.laid_math_bits_deBruijn64tab) :: rest) W) : TabD W := by
 rw [tabD_data] at h3
 have h4 := Lib.tabIs_of_head (g := 0) (t := 151) (e := 5) (n := 64) globD (by kernel_rfl) Tryd.underlying151 Tryd.underlying5 (by kernel_rfl) (by kernel_rfl) h3
 intro j hj
 have h5 := World.var?_cell globD h4 j
 rw [h5]
 have hl : j < Lib.deBruijn64tab.length := by have : Lib.deBruijn64tab.length = 64 := by decide
                                              omega
 simp [List.getD_eq_getElem?_getD, hl]
theorem tabD_of {W : World} {l : List (String × DataW Unit)} (hl : l = listD) (h : laidMetH Tryd.prog l W) : TabD W := by
 subst hl
 have h3 : laidMet Tryd.prog listD W := h
 first | exact tab_head h3 | exact tab_head (laidMet.tail h3) | exact tab_head (laidMet.tail (laidMet.tail h3))
end Go.Proofs.YtcafffohnokjgaaDoor
