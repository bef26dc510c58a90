/- Nodes that are new: the memory that turned leaves. -/
import Derived.Test.YtcafffohnokjgaaDoorJ18
namespace Go.Proofs.YtcafffohnokjgaaDoor
open Go.RowKit
set_option linter.unusedVariables false
set_option linter.unusedSimpArgs false

def NwV (A : Nat) (w : World) : Nat → Nd → List Value → Prop
 | 0, _, _ => False
 | d + 1, n, vs => ∃ ca cc pa pc, vs = [.int .i64 n.op, .slice ca n.cl.length cc, .slice pa (toL n.kids).length pc] ∧ Rd .i64 w ca n.cl.length n.cl ∧ (0 < n.cl.length → ∀ x, ca = some x → A ≤ x.block) ∧ (n.cl.length ≤ 24 ∧ (ca = none → cc = 0)) ∧ (toL n.kids).length ≤ 400 ∧
     (0 < (toL n.kids).length → ∃ b off, pa = some ⟨b, off, none⟩ ∧ A ≤ b ∧ ∀ i (hi : i < (toL n.kids).length), ∃ us, NwV A w d (toL n.kids)[i] us ∧ ∀ j v, us[j]? = some v → w.cell? ⟨b, off + i * 3 + j, none⟩ = some v)
theorem NwV.in {A : Nat} {w : World} : (d : Nat) → {n : Nd} → {vs : List Value} → NwV A w d n vs → InV w.heap.size w d n vs
 | 0, _, _, h => h.elim
 | d + 1, n, vs, h => by
   obtain ⟨ca, cc, pa, pc, h1, h2, h3, h4, h5, h6⟩ := h
   refine ⟨ca, cc, pa, pc, h1, h2, h2.lt, ⟨by omega, h4.2⟩, by omega, fun hp => ?_⟩
   obtain ⟨b, off, e, _, hk⟩ := h6 hp
   refine ⟨b, off, e, fun i hi => ?_⟩
   obtain ⟨us, k1, k2⟩ := hk i hi
   exact ⟨us, k1.in d, k2⟩
theorem cell_grown {w w' : World} {row : Option Nat} (hg : w.grownBy w' row) {a : Addr} {v : Value} (h : w.cell? a = some v) (hne : some a.block ≠ row) : w'.cell? a = some v :=
 (hg.cell_far a (World.block_lt_of_cell? w _ h) hne).trans h
theorem NwV.grown {A : Nat} {w w' : World} {row : Option Nat} (hg : w.grownBy w' row) (hr : ∀ g, row = some g → g < A) : (d : Nat) → {n : Nd} → {vs : List Value} → NwV A w d n vs → NwV A w' d n vs
 | 0, _, _, h => h.elim
 | d + 1, n, vs, h => by
   obtain ⟨ca, cc, pa, pc, h1, h2, h3, h4, h5, h6⟩ := h
   refine ⟨ca, cc, pa, pc, h1, ⟨h2.1, fun hp => ?_⟩, h3, h4, h5, fun hp => ?_⟩
   ·obtain ⟨b, off, e, hc⟩ := h2.2 hp
    refine ⟨b, off, e, fun t ht => cell_grown hg (hc t ht) (fun e' => ?_)⟩
    have := h3 hp _ e
    have := hr b e'.symm
    simp at *
    omega
   ·obtain ⟨b, off, e, hb, hk⟩ := h6 hp
    refine ⟨b, off, e, hb, fun i hi => ?_⟩
    obtain ⟨us, k1, k2⟩ := hk i hi
    refine ⟨us, k1.grown hg hr d, fun j v hv => cell_grown hg (k2 j v hv) (fun e' => ?_)⟩
    have := hr b e'.symm
    omega
theorem grown_below {w w' : World} (hb : Below w.heap.size w w') (row : Option Nat) : w.grownBy w' row := ⟨hb.os, hb.tape, hb.output, hb.size, fun k hk _ => hb.block k hk⟩
theorem NwV.later {A : Nat} {w w' : World} (hb : Below w.heap.size w w') (d : Nat) {n : Nd} {vs : List Value} (h : NwV A w d n vs) : NwV A w' d n vs := h.grown (row := none) (grown_below hb none) (fun g hg => by cases hg) d
theorem NwV.mono {A A' : Nat} {w : World} (hA : A' ≤ A) : (d : Nat) → {n : Nd} → {vs : List Value} → NwV A w d n vs → NwV A' w d n vs
 | 0, _, _, h => h.elim
 | d + 1, n, vs, h => by
   obtain ⟨ca, cc, pa, pc, h1, h2, h3, h4, h5, h6⟩ := h
   refine ⟨ca, cc, pa, pc, h1, h2, fun hp x hx => Nat.le_trans hA (h3 hp x hx), h4, h5, fun hp => ?_⟩
   obtain ⟨b, off, e, hb, hk⟩ := h6 hp
   refine ⟨b, off, e, Nat.le_trans hA hb, fun i hi => ?_⟩
   obtain ⟨us, k1, k2⟩ := hk i hi
   exact ⟨us, k1.mono hA d, k2⟩
theorem list_of {α : Type} (K : Nat) (P : (i : Nat) → i < K → α → Prop) (h : ∀ i (hi : i < K), ∃ x, P i hi x) : ∃ xs : List α, ∃ hl : xs.length = K, ∀ i (hi : i < K), P i hi (xs[i]'(by omega)) := by
 refine ⟨List.ofFn (fun i : Fin K => Classical.choose (h i.1 i.2)), by simp, fun i hi => ?_⟩
 rw [List.getElem_ofFn]
 exact Classical.choose_spec (h i hi)
theorem InV.parts {B : Nat} {w : World} {d : Nat} {n : Nd} {ca pa : Option Addr} {cn cc kn pc : Nat} {op : Int} (h : InV B w d n [.int .i64 op, .slice ca cn cc, .slice pa kn pc]) :
 ∃ xs : List Nk, ∃ hl : xs.length = (toL n.kids).length, (∀ i (hi : i < (toL n.kids).length), ∃ d', InV B w d' (toL n.kids)[i] (xs[i]'(by omega)).vals) ∧ (pa = none → (toL n.kids).length = 0) ∧ ∀ b, pa = some b → ∀ j u, (flatN xs)[j]? = some u → w.cell? (b.add j) = some u := by
 obtain ⟨xs, hl, hx⟩ := list_of (α := Nk) (toL n.kids).length (fun i hi x => ∃ b off d', pa = some ⟨b, off, none⟩ ∧ InV B w d' (toL n.kids)[i] x.vals ∧ w.cell? ⟨b, off + i * 3, none⟩ = some (.int .i64 x.op) ∧ w.cell? ⟨b, off + i * 3 + 1, none⟩ = some (.slice x.ca x.cn x.cc) ∧ w.cell? ⟨b, off + i * 3 + 2, none⟩ = some (.slice x.pa x.pn x.pc)) (fun i hi => by
  obtain ⟨b, off, x, c, y, e, d', hpa, hk, _, c0, c1, c2⟩ := h.kid i hi
  exact ⟨⟨(toL n.kids)[i].op, x, (toL n.kids)[i].cl.length, c, y, (toL (toL n.kids)[i].kids).length, e⟩, b, off, d', hpa, hk, c0, c1, c2⟩)
 refine ⟨xs, hl, fun i hi => ?_, fun hn => ?_, fun a ha j u hu => ?_⟩
 ·obtain ⟨b, off, d', _, hk, _⟩ := hx i hi
  exact ⟨d', hk⟩
 ·rcases Nat.eq_zero_or_pos (toL n.kids).length with h0 | h0
  ·exact h0
  ·obtain ⟨b, off, d', hpa, _⟩ := hx 0 h0
   rw [hn] at hpa
   cases hpa
 ·have hj : j < xs.length * 3 := by
   have := (List.getElem?_eq_some_iff.1 hu).1
   rw [flatN_len] at this
   exact this
  obtain ⟨p, q, hq, rfl⟩ : ∃ p q, q < 3 ∧ j = p * 3 + q := ⟨j / 3, j % 3, Nat.mod_lt _ (by omega), by omega⟩
  have hp : p < (toL n.kids).length := by omega
  obtain ⟨b, off, d', hpa, _, c0, c1, c2⟩ := hx p hp
  rw [ha] at hpa
  cases hpa
  rw [flatN_get xs p q hq, List.getElem?_eq_getElem (by omega)] at hu
  have hadd : (⟨b, off, none⟩ : Addr).add (p * 3 + q) = ⟨b, off + p * 3 + q, none⟩ := by rw [show off + p * 3 + q = off + (p * 3 + q) by omega]; unfold Addr.add; split <;> simp_all
  rw [hadd]
  rcases (by omega : q = 0 ∨ q = 1 ∨ q = 2) with rfl | rfl | rfl
  ·rw [← hu]; exact c0
  ·rw [← hu]; exact c1
  ·rw [← hu]; exact c2
def TuAt (A0 A1 T d : Nat) (n : Nd) (a1 a2 : Option Addr) (cn c1 K c2 : Nat) (xs : List Nk) (k : Nat) (ys : List Nk) (w : World) : Prop :=
 ∃ hl : ys.length = (toL n.kids).length, w.ownsRow A0 46 3 (.slice a2 K c2) K (flatN ys) ∧ w.ownsRow A0 3 1 (.slice a1 cn c1) cn (n.cl.map (Value.int .i64)) ∧ w.heap[T]? = some (.cells #[.int .i64 n.op, .slice a1 cn c1, .slice a2 K c2] 46) ∧ (∀ i (hi : i < (toL n.kids).length), i < k → NwV A1 w d (toL n.kids)[i].rev (ys[i]'(by omega)).vals) ∧ (∀ i, k ≤ i → ys[i]? = xs[i]?) ∧ A1 ≤ w.heap.size ∧ T < A1 ∧ (∀ g, (Value.slice a2 K c2).ownBlock = some g → g ≠ T ∧ g < A1)
theorem TuAt.later {A0 A1 T d : Nat} {n : Nd} {a1 a2 : Option Addr} {cn c1 K c2 : Nat} {xs : List Nk} {k : Nat} {ys : List Nk} {w w' : World} (h : TuAt A0 A1 T d n a1 a2 cn c1 K c2 xs k ys w) (hb : Below w.heap.size w w') : TuAt A0 A1 T d n a1 a2 cn c1 K c2 xs k ys w' := by
 obtain ⟨hl, h1, h2, h3, h4, h5, h6, h7, h8⟩ := h
 exact ⟨hl, own_later5 h1 hb, own_later5 h2 hb, (hb.block T (Array.getElem?_eq_some_iff.1 h3).1).trans h3, fun i hi hk => (h4 i hi hk).later hb d, h5, Nat.le_trans h6 hb.size, h7, h8⟩
theorem TuAt.step {A0 A1 T d : Nat} {n : Nd} {a1 : Option Addr} {g cn c1 K c2 : Nat} {xs : List Nk} {k : Nat} {ys : List Nk} {w : World} {x : Nk} (h : TuAt A0 A1 T d n a1 (some ⟨g, 0, none⟩) cn c1 K c2 xs k ys w) (hk : k < (toL n.kids).length) (hx : NwV A1 w d (toL n.kids)[k].rev x.vals) : TuAt A0 A1 T d n a1 (some ⟨g, 0, none⟩) cn c1 K c2 xs (k + 1) (ys.set k x) (F3 w g (k * 3) x) := by
 obtain ⟨hl, h1, h2, h3, h4, h5, h6, h7, h8⟩ := h
 have hg := f3_grown w g (k * 3) x
 have hgT := h8 g rfl
 have hr : ∀ q, some g = some q → q < A1 := fun q hq => by cases hq; exact hgT.2
 refine ⟨by rw [List.length_set]; exact hl, own_set3 h1 k (by omega) x, h2.kept hg ?_, (hg.block T (Array.getElem?_eq_some_iff.1 h3).1 (fun e => hgT.1 (Option.some.inj e).symm)).trans h3, fun i hi hik => ?_, fun i hi => ?_, Nat.le_trans h6 hg.size, h7, h8⟩
 ·have := own_ne2 h2 h1 (by decide)
  exact this
 ·rcases Nat.lt_or_ge i k with h0 | h0
  ·rw [List.getElem_set_ne (by omega)]
   exact (h4 i hi h0).grown hg hr d
  ·obtain rfl : i = k := by omega
   rw [List.getElem_set_self]
   exact hx.grown hg hr d
 ·rw [List.getElem?_set_ne (by omega)]
  exact h5 i (by omega)
theorem TuAt.fin {A0 A1 T d : Nat} {n : Nd} {a1 a2 : Option Addr} {cn c1 K c2 : Nat} {xs ys : List Nk} {w w' : World} (h : TuAt A0 A1 T d n a1 a2 cn c1 K c2 xs K ys w) (hK : K = (toL n.kids).length) (hcn : cn = n.cl.length) (hc : cn ≤ 24) (hk : K ≤ 400) (hg : w.grownBy w' (Value.slice a2 K c2).ownBlock) (ho : w'.ownsRow A0 46 3 (.slice a2 K c2) K (flatN (turnK n.op ys))) (hA : A0 ≤ A1) :
 NwV A0 w' (d + 1) n.rev [.int .i64 n.op, .slice a1 cn c1, .slice a2 K c2] ∧ w'.heap[T]? = some (.cells #[.int .i64 n.op, .slice a1 cn c1, .slice a2 K c2] 46) := by
 obtain ⟨hl, h1, h2, h3, h4, h5, h6, h7, h8⟩ := h
 have hT : w'.heap[T]? = some (.cells #[.int .i64 n.op, .slice a1 cn c1, .slice a2 K c2] 46) := (hg.block T (Array.getElem?_eq_some_iff.1 h3).1 (fun e => (h8 T e.symm).1 rfl)).trans h3
 have h2' : w'.ownsRow A0 3 1 (.slice a1 cn c1) cn (n.cl.map (Value.int .i64)) := h2.kept hg (own_ne2 h2 h1 (by decide))
 refine ⟨?_, hT⟩
 have hlen : (toL n.rev.kids).length = K := by rw [tuN_len, hK]
 obtain ⟨a', c', e', _, _, hr, hn⟩ := rd_own2 h2'
 cases e'
 refine ⟨a1, c1, a2, c2, by rw [hlen, hcn]; rfl, by show Rd .i64 w' a1 n.cl.length n.cl; rw [← hcn]; exact hr, fun hp x hx => ?_, ⟨by show n.cl.length ≤ 24; omega, hn⟩, by omega, fun hp => ?_⟩
 ·subst hx
  have hp' : 0 < cn := by rw [hcn]; exact hp
  obtain ⟨y, hy, hby, _⟩ := own_cells1 h2' hp'
  cases hy
  exact hby
 ·have hp' : 0 < K := by omega
  obtain ⟨g, rfl, hbg, cur, _, _, _, hcs⟩ := own_cells3 ho hp'
  refine ⟨g, 0, rfl, hbg, fun i hi => ?_⟩
  have hi' : i < (turnK n.op ys).length := by rw [turnK_len, hl]; omega
  have hgl : ∀ q, (Value.slice (some ⟨g, 0, none⟩) K c2).ownBlock = some q → q < A1 := fun q hq => (h8 q hq).2
  have hkids : toL n.rev.kids = turnK n.op ((toL n.kids).map Nd.rev) := rev_kids n
  have hnw : NwV A1 w' d (toL n.rev.kids)[i] (turnK n.op ys)[i].vals := by
   unfold turnK at hkids hi' ⊢
   by_cases h2p : n.op = 2
   ·simp only [h2p, if_true] at hkids hi' ⊢
    simp only [hkids, List.getElem_reverse, List.getElem_map, List.length_map]
    have := (h4 ((toL n.kids).length - 1 - i) (by omega) (by omega)).grown hg hgl d
    simp only [hl]
    exact this
   ·simp only [h2p, if_false] at hkids hi' ⊢
    simp only [hkids, List.getElem_map]
    exact (h4 i (by omega) (by omega)).grown hg hgl d
  refine ⟨(turnK n.op ys)[i].vals, hnw.mono hA d, fun j v hv => ?_⟩
  obtain ⟨q0, q1, q2⟩ := hcs i hi'
  rw [Nat.zero_add]
  match j, hv with
  | 0, hv => rw [← hv]; exact q0
  | 1, hv => rw [← hv]; exact q1
  | 2, hv => rw [← hv]; exact q2
end Go.Proofs.YtcafffohnokjgaaDoor
