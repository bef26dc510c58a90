/- A window's memory: what changes of it, and what is left. -/
import Derived.Test.YtclogekfdmikpaaDoorJ32
import Derived.Test.YtclogekfdmikpaaDoorJ34
namespace Go.Proofs.YtclogekfdmikpaaDoor
open Go.RowKit
set_option linter.unusedVariables false
set_option linter.unusedSimpArgs false

def ChgW (w w' : World) (Q : Nat → Prop) : Prop := w'.os = w.os ∧ w'.tape = w.tape ∧ w'.output = w.output ∧ w.heap.size ≤ w'.heap.size ∧ ∀ k, k < w.heap.size → ¬ Q k → w'.heap[k]? = w.heap[k]?
theorem chg_refl (w : World) (Q : Nat → Prop) : ChgW w w Q := ⟨rfl, rfl, rfl, Nat.le_refl _, fun _ _ _ => rfl⟩
theorem chg_trans {a b c : World} {Q R : Nat → Prop} (h1 : ChgW a b Q) (h2 : ChgW b c R) (hr : ∀ k, k < a.heap.size → R k → Q k) : ChgW a c Q :=
 ⟨h2.1.trans h1.1, h2.2.1.trans h1.2.1, h2.2.2.1.trans h1.2.2.1, Nat.le_trans h1.2.2.2.1 h2.2.2.2.1, fun k hk hq => (h2.2.2.2.2 k (Nat.lt_of_lt_of_le hk h1.2.2.2.1) (fun r => hq (hr k hk r))).trans (h1.2.2.2.2 k hk hq)⟩
theorem chg_below {w w' : World} (h : Below w.heap.size w w') (Q : Nat → Prop) : ChgW w w' Q := ⟨h.os, h.tape, h.output, h.size, fun k hk _ => h.block k hk⟩
theorem chg_gb {w w' : World} {row : Option Nat} (h : w.grownBy w' row) : ChgW w w' (fun k => row = some k) := ⟨h.os, h.tape, h.output, h.size, fun k hk hq => h.block k hk (fun e => hq e.symm)⟩
theorem chg_set (W : World) (P o : Nat) (v : Value) : ChgW W (W.setCell ⟨P, o, none⟩ v) (fun k => k = P) :=
 have h := size_setCells P [v] o W
 ⟨h.2.1, h.2.2.1, h.2.2.2, Nat.le_of_eq h.1.symm, fun k _ hq => heap_setCells_other P k hq [v] o W⟩
theorem chg_own {w W : World} {Q : Nat → Prop} {B n s : Nat} {e : TypeId} {v : Value} {xs : List Value} (h : ChgW w W Q) (ho : w.ownsRow B e s v n xs) (hq : ∀ k, v.ownBlock = some k → ¬ Q k) : W.ownsRow B e s v n xs := by
 obtain ⟨hl, h1 | ⟨g, cap, cur, rfl, h1, h2, h3⟩⟩ := ho
 ·exact ⟨hl, .inl h1⟩
 ·exact ⟨hl, .inr ⟨g, cap, cur, rfl, h1, (h.2.2.2.2 g (Array.getElem?_eq_some_iff.1 h2).1 (hq g rfl)).trans h2, h3⟩⟩
theorem chg_heap {w W : World} {Q : Nat → Prop} {b : Nat} {o : Obj} (h : ChgW w W Q) (ho : w.heap[b]? = some o) (hq : ¬ Q b) : W.heap[b]? = some o := (h.2.2.2.2 b (Array.getElem?_eq_some_iff.1 ho).1 hq).trans ho
theorem own_lt' {w : World} {B n : Nat} {e : TypeId} {s : Nat} {v : Value} {xs : List Value} (h : w.ownsRow B e s v n xs) (k : Nat) (hk : v.ownBlock = some k) : k < w.heap.size := (h.lt k hk).2
def ApW (P : Nat) (tv av bv : Value) : Prop := tv.ownBlock ≠ some P ∧ av.ownBlock ≠ some P ∧ bv.ownBlock ≠ some P ∧ (∀ k, tv.ownBlock = some k → av.ownBlock ≠ some k ∧ bv.ownBlock ≠ some k) ∧ ∀ k, av.ownBlock = some k → bv.ownBlock ≠ some k
def WinX (W : World) (P tb B : Nat) (xs : List Int) (tv av bv : Value) (nA : Nat) (fA : Nat → Int) (nB : Nat) (fB : Nat → Int) (tc : Int) : Prop :=
 W.heap[P]? = some (.cells (WCells tb tv av bv tc) 72) ∧ W.ownsRow B 3 1 tv xs.length (jv xs) ∧ W.ownsRow B 3 1 av nA (jv (rowF nA fA)) ∧ W.ownsRow B 3 1 bv nB (jv (rowF nB fB)) ∧ ApW P tv av bv ∧ B ≤ P
def OwnW (P : Nat) (tv av bv : Value) (k : Nat) : Prop := k = P ∨ tv.ownBlock = some k ∨ av.ownBlock = some k ∨ bv.ownBlock = some k
theorem WinX.keep {w W : World} {Q : Nat → Prop} {P tb B : Nat} {xs : List Int} {tv av bv : Value} {nA : Nat} {fA : Nat → Int} {nB : Nat} {fB : Nat → Int} {tc : Int} (h : WinX w P tb B xs tv av bv nA fA nB fB tc) (hc : ChgW w W Q) (hq : ∀ k, OwnW P tv av bv k → ¬ Q k) : WinX W P tb B xs tv av bv nA fA nB fB tc :=
 ⟨chg_heap hc h.1 (hq P (.inl rfl)), chg_own hc h.2.1 (fun k hk => hq k (.inr (.inl hk))), chg_own hc h.2.2.1 (fun k hk => hq k (.inr (.inr (.inl hk)))), chg_own hc h.2.2.2.1 (fun k hk => hq k (.inr (.inr (.inr hk)))), h.2.2.2.2⟩
theorem win_text {w W : World} {P tb B : Nat} {xs xs' : List Int} {tv tv' av bv : Value} {nA : Nat} {fA : Nat → Int} {nB : Nat} {fB : Nat → Int} {tc : Int} (h : WinX w P tb B xs tv av bv nA fA nB fB tc) (hg : w.grownBy W tv.ownBlock) (ho : W.ownsRow B 3 1 tv' xs'.length (jv xs')) (ha : AtB w tv.ownBlock tv') :
 WinX (W.setCell ⟨P, 1, none⟩ tv') P tb B xs' tv' av bv nA fA nB fB tc ∧ ChgW w (W.setCell ⟨P, 1, none⟩ tv') (fun k => k = P ∨ tv.ownBlock = some k) := by
 obtain ⟨hP, ht, hA, hB, ⟨p1, p2, p3, p4, p5⟩, hBP⟩ := h
 have hPl : P < w.heap.size := (Array.getElem?_eq_some_iff.1 hP).1
 have hc : ChgW w (W.setCell ⟨P, 1, none⟩ tv') (fun k => k = P ∨ tv.ownBlock = some k) := chg_trans (chg_trans (Q := fun k => k = P ∨ tv.ownBlock = some k) (chg_refl w _) (chg_gb hg) (fun k _ r => .inr r)) (chg_set W P 1 tv') (fun k _ r => .inl r)
 have hnP : tv'.ownBlock ≠ some P := fun e => by
  rcases ha P e with h | h
  ·exact p1 h
  ·omega
 refine ⟨⟨?_, chg_own (chg_set W P 1 tv') ho (fun k hk e => hnP (e ▸ hk)), chg_own hc hA (fun k hk e => ?_), chg_own hc hB (fun k hk e => ?_), ⟨hnP, p2, p3, fun k hk => ?_, p5⟩, hBP⟩, hc⟩
 ·exact heap_setCellX W P 1 tv' _ _ _ ((hg.block P hPl (fun e => p1 e.symm)).trans hP)
 ·rcases e with rfl | e
  ·exact p2 hk
  ·exact (p4 k e).1 hk
 ·rcases e with rfl | e
  ·exact p3 hk
  ·exact (p4 k e).2 hk
 ·rcases ha k hk with h | h
  ·exact p4 k h
  ·exact ⟨fun e => by have := own_lt' hA k e; omega, fun e => by have := own_lt' hB k e; omega⟩
theorem win_ahead {w W : World} {P tb B : Nat} {xs : List Int} {tv av av' bv : Value} {nA nA' : Nat} {fA fA' : Nat → Int} {nB : Nat} {fB : Nat → Int} {tc : Int} (h : WinX w P tb B xs tv av bv nA fA nB fB tc) (hg : w.grownBy W av.ownBlock) (ho : W.ownsRow B 3 1 av' nA' (jv (rowF nA' fA'))) (ha : AtB w av.ownBlock av') :
 WinX (W.setCell ⟨P, 2, none⟩ av') P tb B xs tv av' bv nA' fA' nB fB tc ∧ ChgW w (W.setCell ⟨P, 2, none⟩ av') (fun k => k = P ∨ av.ownBlock = some k) := by
 obtain ⟨hP, ht, hA, hB, ⟨p1, p2, p3, p4, p5⟩, hBP⟩ := h
 have hPl : P < w.heap.size := (Array.getElem?_eq_some_iff.1 hP).1
 have hc : ChgW w (W.setCell ⟨P, 2, none⟩ av') (fun k => k = P ∨ av.ownBlock = some k) := chg_trans (chg_trans (Q := fun k => k = P ∨ av.ownBlock = some k) (chg_refl w _) (chg_gb hg) (fun k _ r => .inr r)) (chg_set W P 2 av') (fun k _ r => .inl r)
 have hnP : av'.ownBlock ≠ some P := fun e => by
  rcases ha P e with h | h
  ·exact p2 h
  ·omega
 refine ⟨⟨?_, chg_own hc ht (fun k hk e => ?_), chg_own (chg_set W P 2 av') ho (fun k hk e => hnP (e ▸ hk)), chg_own hc hB (fun k hk e => ?_), ⟨p1, hnP, p3, fun k hk => ⟨fun e => ?_, (p4 k hk).2⟩, fun k hk => ?_⟩, hBP⟩, hc⟩
 ·exact heap_setCellX W P 2 av' _ _ _ ((hg.block P hPl (fun e => p2 e.symm)).trans hP)
 ·rcases e with rfl | e
  ·exact p1 hk
  ·exact (p4 k hk).1 e
 ·rcases e with rfl | e
  ·exact p3 hk
  ·exact p5 k e hk
 ·rcases ha k e with h | h
  ·exact (p4 k hk).1 h
  ·have := own_lt' ht k hk; omega
 ·rcases ha k hk with h | h
  ·exact p5 k h
  ·exact fun e => by have := own_lt' hB k e; omega
theorem win_behind {w W : World} {P tb B : Nat} {xs : List Int} {tv av bv bv' : Value} {nA : Nat} {fA : Nat → Int} {nB nB' : Nat} {fB fB' : Nat → Int} {tc : Int} (h : WinX w P tb B xs tv av bv nA fA nB fB tc) (hg : w.grownBy W bv.ownBlock) (ho : W.ownsRow B 3 1 bv' nB' (jv (rowF nB' fB'))) (ha : AtB w bv.ownBlock bv') :
 WinX (W.setCell ⟨P, 3, none⟩ bv') P tb B xs tv av bv' nA fA nB' fB' tc ∧ ChgW w (W.setCell ⟨P, 3, none⟩ bv') (fun k => k = P ∨ bv.ownBlock = some k) := by
 obtain ⟨hP, ht, hA, hB, ⟨p1, p2, p3, p4, p5⟩, hBP⟩ := h
 have hPl : P < w.heap.size := (Array.getElem?_eq_some_iff.1 hP).1
 have hc : ChgW w (W.setCell ⟨P, 3, none⟩ bv') (fun k => k = P ∨ bv.ownBlock = some k) := chg_trans (chg_trans (Q := fun k => k = P ∨ bv.ownBlock = some k) (chg_refl w _) (chg_gb hg) (fun k _ r => .inr r)) (chg_set W P 3 bv') (fun k _ r => .inl r)
 have hnP : bv'.ownBlock ≠ some P := fun e => by
  rcases ha P e with h | h
  ·exact p3 h
  ·omega
 refine ⟨⟨?_, chg_own hc ht (fun k hk e => ?_), chg_own hc hA (fun k hk e => ?_), chg_own (chg_set W P 3 bv') ho (fun k hk e => hnP (e ▸ hk)), ⟨p1, p2, hnP, fun k hk => ⟨(p4 k hk).1, fun e => ?_⟩, fun k hk e => ?_⟩, hBP⟩, hc⟩
 ·exact heap_setCellX W P 3 bv' _ _ _ ((hg.block P hPl (fun e => p3 e.symm)).trans hP)
 ·rcases e with rfl | e
  ·exact p1 hk
  ·exact (p4 k hk).2 e
 ·rcases e with rfl | e
  ·exact p2 hk
  ·exact p5 k hk e
 ·rcases ha k e with h | h
  ·exact (p4 k hk).2 h
  ·have := own_lt' ht k hk; omega
 ·rcases ha k e with h | h
  ·exact p5 k hk h
  ·have := own_lt' hA k hk; omega
theorem win_touch {W : World} {P tb B : Nat} {xs : List Int} {tv av bv : Value} {nA : Nat} {fA : Nat → Int} {nB : Nat} {fB : Nat → Int} {tc : Int} (h : WinX W P tb B xs tv av bv nA fA nB fB tc) (tc' : Int) :
 WinX (W.setCell ⟨P, 4, none⟩ (.int .i64 tc')) P tb B xs tv av bv nA fA nB fB tc' := by
 obtain ⟨hP, ht, hA, hB, hp, hBP⟩ := h
 have hc := chg_set W P 4 (.int .i64 tc')
 exact ⟨heap_setCellX W P 4 _ _ _ _ hP, chg_own hc ht (fun k hk e => hp.1 (e ▸ hk)), chg_own hc hA (fun k hk e => hp.2.1 (e ▸ hk)), chg_own hc hB (fun k hk e => hp.2.2.1 (e ▸ hk)), hp, hBP⟩
theorem own_rdS {w : World} {B n cap : Nat} {a : Option Addr} {xs : List Int} (h : w.ownsRow B 3 1 (.slice a n cap) n (jv xs)) : Rd .i64 w a n xs := by
 obtain ⟨a', c', he, q1, q2, q3, q4⟩ := own_rdI h
 injection he with e1 e2 e3
 rw [e1]
 exact q3
theorem set3 {W W0 : World} {b B0 : Nat} {x y z : Value} {t : TypeId} (h : W.heap[b]? = some (.cells #[x, y, z] t)) (hb : Below B0 W0 W) (hB : B0 ≤ b) (p q r : Value) :
 (((W.setCell ⟨b, 0, none⟩ p).setCell ⟨b, 1, none⟩ q).setCell ⟨b, 2, none⟩ r).heap[b]? = some (.cells #[p, q, r] t) ∧ (∀ k, k ≠ b → (((W.setCell ⟨b, 0, none⟩ p).setCell ⟨b, 1, none⟩ q).setCell ⟨b, 2, none⟩ r).heap[k]? = W.heap[k]?) ∧ Below B0 W0 (((W.setCell ⟨b, 0, none⟩ p).setCell ⟨b, 1, none⟩ q).setCell ⟨b, 2, none⟩ r) := by
 refine ⟨?_, fun k hk => ?_, ((hb.setCell (p := ⟨b, 0, none⟩) hB p).setCell (p := ⟨b, 1, none⟩) hB q).setCell (p := ⟨b, 2, none⟩) hB r⟩
 ·exact heap_setCellX _ b 2 r _ _ _ (heap_setCellX _ b 1 q _ _ _ (heap_setCellX _ b 0 p _ _ _ h))
 ·exact (heap_setCells_other b k hk [r] 2 _).trans ((heap_setCells_other b k hk [q] 1 _).trans (heap_setCells_other b k hk [p] 0 _))
theorem spl_rev (xs cls : List Int) (p gone : Nat) (h : p + gone ≤ xs.length) : (spl xs p gone cls).reverse = spl xs.reverse (xs.length - p - gone) gone cls.reverse := by
 unfold spl
 rw [List.reverse_append, List.reverse_append, List.take_reverse, List.drop_reverse, List.append_assoc]
 congr 2
 ·congr 1; omega
 ·congr 2; omega
end Go.Proofs.YtclogekfdmikpaaDoor
