/- In one text: DfaRj, TabL, TabF, TabG, TabM, TabS, SegM. -/
import Derived.Test.YtcafffohnokjgaaDoorJ25
import Derived.Test.YtcafffohnokjgaaDoorJ26
import Derived.Test.YtcafffohnokjgaaDoorJ22
import Derived.Test.YtcafffohnokjgaaDoorJ23
/- Expressions kept in rows; the walk of few. -/
namespace Go.Proofs.YtcafffohnokjgaaDoor
open Go.RowKit Go.Shelf Go.Maps
set_option linter.unusedVariables false
set_option linter.unusedSimpArgs false

def FlX (B : Nat) (w : World) (D : Nat) (xs : List (Nd × Bool)) (fl : List Value) : Prop :=
 fl.length = xs.length * 4 ∧ ∀ i (hi : i < xs.length), ∃ us, InV B w D xs[i].1 us ∧ (∀ j v, us[j]? = some v → fl[i * 4 + j]? = some v) ∧ fl[i * 4 + 3]? = some (.bool xs[i].2)
theorem FlX.nil (B : Nat) (w : World) (D : Nat) : FlX B w D [] [] := ⟨rfl, fun i hi => by simp at hi⟩
theorem FlX.later {B : Nat} {w w' : World} {D : Nat} {xs : List (Nd × Bool)} {fl : List Value} (h : FlX B w D xs fl) (hb : ∀ n us, InV B w D n us → InV B w' D n us) : FlX B w' D xs fl :=
 ⟨h.1, fun i hi => by obtain ⟨us, h1, h2, h3⟩ := h.2 i hi; exact ⟨us, hb _ _ h1, h2, h3⟩⟩
theorem FlX.snoc {B : Nat} {w : World} {D : Nat} {xs : List (Nd × Bool)} {fl : List Value} (h : FlX B w D xs fl) {x : Nd × Bool} {u0 u1 u2 : Value} (hx : InV B w D x.1 [u0, u1, u2]) : FlX B w D (xs ++ [x]) (fl ++ [u0, u1, u2, .bool x.2]) := by
 refine ⟨by simp [h.1]; omega, fun i hi => ?_⟩
 rcases Nat.lt_or_ge i xs.length with hl | hl
 ·obtain ⟨us, h1, h2, h3⟩ := h.2 i hl
  rw [List.getElem_append_left hl]
  refine ⟨us, h1, fun j v hv => ?_, ?_⟩
  ·have := h2 j v hv
   rw [List.getElem?_append_left (List.getElem?_eq_some_iff.1 this).1]; exact this
  ·rw [List.getElem?_append_left (List.getElem?_eq_some_iff.1 h3).1]; exact h3
 ·obtain rfl : i = xs.length := by simp at hi; omega
  rw [List.getElem_append_right (Nat.le_refl _)]
  simp only [Nat.sub_self, List.getElem_cons_zero]
  refine ⟨[u0, u1, u2], hx, fun j v hv => ?_, ?_⟩
  ·rw [List.getElem?_append_right (by rw [h.1]; omega), h.1, show xs.length * 4 + j - xs.length * 4 = j by omega]
   match j, hv with
   | 0, hv => exact hv
   | 1, hv => exact hv
   | 2, hv => exact hv
   | j + 3, hv => simp at hv
  ·rw [List.getElem?_append_right (by rw [h.1]; omega), h.1, show xs.length * 4 + 3 - xs.length * 4 = 3 by omega]
   rfl
theorem own_cellsN {w : World} {B : Nat} {e : TypeId} {s n : Nat} {a : Option Addr} {cap : Nat} {vs : List Value} (h : w.ownsRow B e s (.slice a n cap) n vs) (hn : 0 < n) : ∃ g, a = some ⟨g, 0, none⟩ ∧ ∀ i, i < n * s → w.cell? ⟨g, i, none⟩ = vs[i]? := by
 rcases h.2 with ⟨hv, h0⟩ | ⟨g, cap', cur, hv, hb, hg, hnc, hm, hs, ht⟩
 ·omega
 ·cases hv
  refine ⟨g, rfl, fun i hi => ?_⟩
  rw [cell_of_row w g i _ _ _ hg, ← ht, List.getElem?_take, if_pos (by omega)]
  simp
theorem FlX.row {B B0 : Nat} {w : World} {D : Nat} {xs : List (Nd × Bool)} {fl : List Value} {e : TypeId} {a : Option Addr} {cap : Nat} (h : FlX B w D xs fl) (ho : w.ownsRow B0 e 4 (.slice a xs.length cap) xs.length fl) : XRow B w D a xs := by
 intro hp
 obtain ⟨g, rfl, hc⟩ := own_cellsN ho hp
 refine ⟨g, 0, rfl, fun i hi => ?_⟩
 obtain ⟨us, h1, h2, h3⟩ := h.2 i hi
 refine ⟨us, h1, fun j v hv => ?_, ?_⟩
 ·have := h2 j v hv
  have hlt := (List.getElem?_eq_some_iff.1 this).1
  rw [h.1] at hlt
  rw [Nat.zero_add, hc _ hlt]; exact this
 ·have hlt := (List.getElem?_eq_some_iff.1 h3).1
  rw [h.1] at hlt
  rw [Nat.zero_add, hc _ hlt]; exact h3
end Go.Proofs.YtcafffohnokjgaaDoor

/- What few keeps is a row of rules. -/
namespace Go.Proofs.YtcafffohnokjgaaDoor
open Go.RowKit Go.Shelf Go.Maps
set_option linter.unusedVariables false
set_option linter.unusedSimpArgs false

theorem flR_get : (ps : List (Rl × RlP)) → (i : Nat) → (hi : i < ps.length) → (j : Nat) → j < 8 → (flR ps)[i * 8 + j]? = (ps[i].1.vals ps[i].2)[j]?
 | x :: r, 0, hi, j, hj => by
   show ((x.1.vals x.2).toList ++ flR r)[0 * 8 + j]? = _
   rw [List.getElem?_append_left (by simp; omega)]
   simp
 | x :: r, i + 1, hi, j, hj => by
   show ((x.1.vals x.2).toList ++ flR r)[(i + 1) * 8 + j]? = _
   rw [List.getElem?_append_right (by simp; omega)]
   have h := flR_get r i (by simpa using hi) j hj
   rw [show (i + 1) * 8 + j - (x.1.vals x.2).toList.length = i * 8 + j by simp; omega]
   exact h
theorem kept_row {w w' : World} {D B : Nat} {l : List Rl} {ps : List (Rl × RlP)} {a : Option Addr} {c : Nat} (hk : KeptR w D l ps) (hb : Below w.heap.size w w') (ho : w'.ownsRow B 48 8 (.slice a ps.length c) ps.length (flR ps)) : RowR w' D a (ps.map fun x => x.1).length (ps.map fun x => x.1) := by
 refine ⟨rfl, fun i hi => ?_⟩
 have hi' : i < ps.length := by simpa using hi
 obtain ⟨g, rfl, hc⟩ := own_cellsN ho (by omega)
 have e : (ps.map fun x => x.1)[i] = ps[i].1 := by simp
 refine ⟨g, 0, ps[i].2, rfl, by rw [e]; exact ((hk ps[i] (List.getElem_mem hi')).1).later hb, fun j v hv => ?_⟩
 rw [e] at hv
 have hj : j < 8 := by
  rcases Nat.lt_or_ge j 8 with h | h
  ·exact h
  ·rw [Array.getElem?_eq_none (by simpa using h)] at hv; cases hv
 rw [Nat.zero_add, hc _ (by omega), flR_get ps i hi' j hj]
 exact hv
end Go.Proofs.YtcafffohnokjgaaDoor

/- The walk of tables' Equal. -/
namespace Go.Proofs.YtcafffohnokjgaaDoor
open Go.RowKit Go.Shelf
set_option linter.unusedVariables false
set_option linter.unusedSimpArgs false

end Go.Proofs.YtcafffohnokjgaaDoor

/- The machines of one character; set, and shown. -/
namespace Go.Proofs.YtcafffohnokjgaaDoor
open Go.RowKit Go.Shelf Go.Maps
set_option linter.unusedVariables false
set_option linter.unusedSimpArgs false

end Go.Proofs.YtcafffohnokjgaaDoor

/- Expressions of few situations are not too big; many times one character. -/
namespace Go.Proofs.YtcafffohnokjgaaDoor
open Go.RowKit Go.Shelf Go.Maps
set_option linter.unusedVariables false
set_option linter.unusedSimpArgs false

theorem sit_at (xs : List (Nd × Bool)) (w : List Nat) (i : Nat) : (sitC xs w)[i]? = xs[i]?.map fun x => w.foldl (stO x) (fiO x) := by
 unfold sitC; simp
theorem sit_spot (x : Nd × Bool) (w : List Nat) : w.foldl (stO x) (fiO x) = x.1.spot x.2 (w.map Int.ofNat) := by
 unfold Nd.spot
 rw [List.foldl_map]
 rfl
theorem out_sit {xs : List (Nd × Bool)} (hr : ∀ x, x ∈ xs → x.1.right) (w : List Nat) (i : Nat) : outC xs w i ↔ ∃ y, (sitC xs w)[i]? = some y ∧ y.2 = true := by
 unfold outC
 rw [sit_at]
 constructor
 ·rintro ⟨x, hx, h⟩
  exact ⟨w.foldl (stO x) (fiO x), by rw [hx]; rfl, by rw [sit_spot]; exact (spot_fits x.1 (hr x (List.mem_of_getElem? hx)) x.2 _).2 h⟩
 ·rintro ⟨y, hy, h2⟩
  obtain ⟨x, hx, rfl⟩ := Option.map_eq_some_iff.1 hy
  rw [sit_spot] at h2
  exact ⟨x, hx, (spot_fits x.1 (hr x (List.mem_of_getElem? hx)) x.2 _).1 h2⟩
theorem sit_app {xs : List (Nd × Bool)} {a b : List Nat} (h : sitC xs a = sitC xs b) (v : List Nat) : sitC xs (a ++ v) = sitC xs (b ++ v) := by
 refine List.ext_getElem? fun i => ?_
 have h1 : (sitC xs a)[i]? = (sitC xs b)[i]? := by rw [h]
 rw [sit_at, sit_at] at h1 ⊢
 cases hx : xs[i]? with
 | none => rfl
 | some x =>
   rw [hx] at h1
   simp only [Option.map_some, Option.some.injEq] at h1 ⊢
   rw [List.foldl_append, List.foldl_append, h1]
theorem big_few {K n : Nat} {xs : List (Nd × Bool)} (hr : ∀ x, x ∈ xs → x.1.right) (g : List Nat → Nat) (hn : n ≤ 400) (hg : ∀ w, Wd K w → g w < n) (hs : ∀ a b, Wd K a → Wd K b → g a = g b → sitC xs a = sitC xs b) : ¬ BigC K xs := by
 rintro (⟨L, l1, l2, l3⟩ | ⟨L, l1, l2, l3⟩)
 ·have := pair_few g n (fun w hw => hg w (l2 w hw)) (fun a b ha hb hne e => hne (hs a b (l2 a ha) (l2 b hb) e)) l3
  omega
 ·have := pair_few g n (fun w hw => hg w (l2 w hw)) (fun a b ha hb hne e => by
   obtain ⟨v, _, i, hi⟩ := hne
   refine hi ?_
   rw [out_sit hr, out_sit hr, sit_app (hs a b (l2 a ha) (l2 b hb) e)]) l3
  omega
theorem one_all : ∀ c, c < 24 → stO oneX oneA c = (if c = 0 then oneB else oneA) ∧ stO oneX oneB c = (if c = 0 then oneB else oneA) := by decide
theorem one_in {K : Nat} (hK : K ≤ 24) (w : List Nat) (hw : Wd K w) : w.foldl (stO oneX) (fiO oneX) = oneA ∨ w.foldl (stO oneX) (fiO oneX) = oneB := by
 have : ∀ (w : List Nat) (y : Nat × Bool), (y = oneA ∨ y = oneB) → Wd K w → w.foldl (stO oneX) y = oneA ∨ w.foldl (stO oneX) y = oneB := by
  intro w
  induction w with
  | nil => exact fun y hy _ => hy
  | cons c r ih =>
    intro y hy hc
    have h24 : c < 24 := Nat.lt_of_lt_of_le (hc c List.mem_cons_self) hK
    obtain ⟨s1, s2⟩ := one_all c h24
    refine ih _ ?_ (fun d hd => hc d (List.mem_cons_of_mem _ hd))
    rcases hy with rfl | rfl
    ·rw [s1]; split <;> simp
    ·rw [s2]; split <;> simp
 exact this w _ (.inl rfl) hw
theorem many_not_big (K N : Nat) (hK : K ≤ 24) : ¬ BigC K (List.replicate N oneX) := by
 have hr : ∀ x, x ∈ List.replicate N oneX → x.1.right := fun x hx => by
  rw [List.eq_of_mem_replicate hx]
  exact (Nd.ok_right (n := oneX.1) (by decide)).1
 refine big_few (n := 2) hr (fun w => if w.foldl (stO oneX) (fiO oneX) = oneB then 1 else 0) (by omega) (fun w _ => by split <;> omega) (fun a b ha hb e => ?_)
 have hab : a.foldl (stO oneX) (fiO oneX) = b.foldl (stO oneX) (fiO oneX) := by
  have hne := one_steps.1
  rcases one_in hK a ha with h1 | h1 <;> rcases one_in hK b hb with h2 | h2
  ·rw [h1, h2]
  ·simp only [h1, h2, if_neg hne] at e; simp at e
  ·simp only [h1, h2, if_neg hne] at e; simp at e
  ·rw [h1, h2]
 unfold sitC
 rw [List.map_replicate, List.map_replicate, hab]
end Go.Proofs.YtcafffohnokjgaaDoor

/- Two neighbouring rules change about: mathematics, and rows of rules in memory that are written. -/
namespace Go.Proofs.YtcafffohnokjgaaDoor
open Go.RowKit
set_option linter.unusedVariables false
set_option linter.unusedSimpArgs false

def swp (k i : Nat) : Nat := if i = k then k + 1 else if i = k + 1 then k else i
theorem swp_swp (k i : Nat) : swp k (swp k i) = i := by
 unfold swp
 by_cases h1 : i = k
 ·rw [if_pos h1, if_neg (by omega), if_pos rfl, h1]
 ·rw [if_neg h1]
  by_cases h2 : i = k + 1
  ·rw [if_pos h2, if_pos rfl, h2]
  ·rw [if_neg h2, if_neg h1, if_neg h2]
def Swp {α : Type} (k : Nat) (xs ys : List α) : Prop := ys.length = xs.length ∧ ∀ i, ys[i]? = xs[swp k i]?
theorem Swp.symm {α : Type} {k : Nat} {xs ys : List α} (h : Swp k xs ys) : Swp k ys xs := ⟨h.1.symm, fun i => by rw [h.2, swp_swp]⟩
theorem Swp.map {α β : Type} {k : Nat} {xs ys : List α} (h : Swp k xs ys) (f : α → β) : Swp k (xs.map f) (ys.map f) := ⟨by simp [h.1], fun i => by rw [List.getElem?_map, List.getElem?_map, h.2]⟩
theorem Swp.mem {α : Type} {k : Nat} {xs ys : List α} (h : Swp k xs ys) {x : α} (hx : x ∈ ys) : x ∈ xs := by
 obtain ⟨i, hi, rfl⟩ := List.mem_iff_getElem.1 hx
 have := h.2 i
 rw [List.getElem?_eq_getElem hi] at this
 exact List.mem_of_getElem? this.symm
theorem Swp.all {α : Type} {k : Nat} {xs ys : List α} (h : Swp k xs ys) (p : α → Bool) : ys.all p = xs.all p := by
 rw [Bool.eq_iff_iff, List.all_eq_true, List.all_eq_true]
 exact ⟨fun hh x hx => hh x (h.symm.mem hx), fun hh x hx => hh x (h.mem hx)⟩
theorem Swp.made {α : Type} {k : Nat} {xs : List α} {a b : α} (ha : xs[k]? = some a) (hb : xs[k + 1]? = some b) : Swp k xs ((xs.set k b).set (k + 1) a) := by
 refine ⟨by simp, fun i => ?_⟩
 have hkl := (List.getElem?_eq_some_iff.1 ha).1
 have hkl2 := (List.getElem?_eq_some_iff.1 hb).1
 unfold swp
 by_cases h2 : i = k + 1
 ·rw [h2, List.getElem?_set_self (by simp; omega), if_neg (by omega), if_pos rfl, ha]
 ·rw [List.getElem?_set_ne (Ne.symm h2)]
  by_cases h1 : i = k
  ·rw [h1, List.getElem?_set_self hkl, if_pos rfl, hb]
  ·rw [List.getElem?_set_ne (Ne.symm h1), if_neg h1, if_neg h2]
theorem dc_same {br br' x y : Nat} : (n i : Nat) → (∀ j, i ≤ j → j < i + n → x.testBit j = y.testBit j ∧ br.testBit j = br'.testBit j) → dcB br x n i = dcB br' y n i
 | 0, _, _ => rfl
 | n + 1, i, h => by
   obtain ⟨h1, h2⟩ := h i (Nat.le_refl _) (by omega)
   rw [dcB, dcB, h1, h2, dc_same n (i + 1) fun j hj hj2 => h j (by omega) (by omega)]
theorem flR_one (ps : List (Rl × RlP)) : ∀ u, u ∈ flR ps → u.oneCell' = true := by
 intro u hu
 obtain ⟨x, _, hx⟩ := List.mem_flatMap.1 hu
 simp [Rl.vals] at hx
 rcases hx with rfl | rfl | rfl | rfl | rfl | rfl | rfl | rfl <;> rfl
def wordR (x : Rl × RlP) (b : Bool) : Rl × RlP := (⟨x.1.left, x.1.right, b, x.1.start⟩, x.2)
end Go.Proofs.YtcafffohnokjgaaDoor

/- Boundaries: mathematics for the statements. -/
namespace Go.Proofs.YtcafffohnokjgaaDoor
open Go.RowKit
set_option linter.unusedVariables false
set_option linter.unusedSimpArgs false

theorem mem_allB {br N n : Nat} {OA OB : Nat → Nat} {p : Nat} : p ∈ allB br N n OA OB ↔ n ≠ 0 ∧ p ≤ n ∧ isB br N n OA OB p = true := by
 unfold allB bndL
 by_cases h : n = 0
 ·rw [if_pos h]; simp [h]
 ·rw [if_neg h, List.mem_filter, List.mem_range]
  constructor
  ·rintro ⟨h1, h2⟩; exact ⟨h, by omega, h2⟩
  ·rintro ⟨_, h1, h2⟩; exact ⟨by omega, h2⟩
theorem zero_mem {br N n : Nat} {OA OB : Nat → Nat} (h : 0 < n) : 0 ∈ allB br N n OA OB := mem_allB.2 ⟨by omega, by omega, by simp [isB]⟩
theorem end_mem {br N n : Nat} {OA OB : Nat → Nat} (h : 0 < n) : n ∈ allB br N n OA OB := mem_allB.2 ⟨by omega, by omega, by simp [isB]⟩
theorem allB_le {br N n : Nat} {OA OB : Nat → Nat} {p : Nat} (h : p ∈ allB br N n OA OB) : p ≤ n := (mem_allB.1 h).2.1
theorem allB_sorted (br N n : Nat) (OA OB : Nat → Nat) : (allB br N n OA OB).Pairwise (· < ·) := by
 unfold allB bndL
 by_cases h : n = 0
 ·rw [if_pos h]; exact List.Pairwise.nil
 ·rw [if_neg h]; exact List.Pairwise.filter _ List.pairwise_lt_range
theorem next_mem {L : List Nat} {n a : Nat} (hs : L.Pairwise (· < ·)) (hn : n ∈ L) (ha : a < n) : nextL L n a ∈ L ∧ a < nextL L n a ∧ ∀ x, x ∈ L → a < x → nextL L n a ≤ x := by
 unfold nextL
 cases h : L.find? (fun x => decide (a < x)) with
 | none =>
   have := List.find?_eq_none.1 h n hn
   simp [ha] at this
 | some y =>
   have h1 := List.find?_some h
   have h2 := List.mem_of_find?_eq_some h
   refine ⟨h2, by simpa using h1, fun x hx hax => ?_⟩
   obtain ⟨_, us, vs, rfl, hlt⟩ := List.find?_eq_some_iff_append.1 h
   show y ≤ x
   rcases List.mem_append.1 hx with hx | hx
   ·have := hlt x hx; simp [hax] at this
   ·rcases List.mem_cons.1 hx with rfl | hx
    ·exact Nat.le_refl _
    ·have := (List.pairwise_append.1 hs).2.1
     exact Nat.le_of_lt ((List.pairwise_cons.1 this).1 x hx)
theorem last_le {L : List Nat} (hs : L.Pairwise (· < ·)) {x : Nat} (hx : x ∈ L) : x ≤ lastN L := by
 unfold lastN
 have hne : L ≠ [] := fun e => by rw [e] at hx; cases hx
 rw [List.getLast?_eq_some_getLast hne, Option.getD_some]
 obtain ⟨i, hi, rfl⟩ := List.mem_iff_getElem.1 hx
 rw [List.getLast_eq_getElem]
 rcases Nat.lt_or_ge i (L.length - 1) with h | h
 ·exact Nat.le_of_lt (List.pairwise_iff_getElem.1 hs i (L.length - 1) hi (by omega) h)
 ·have : i = L.length - 1 := by omega
  subst this; exact Nat.le_refl _
theorem last_mem {L : List Nat} (h : L ≠ []) : lastN L ∈ L := by
 unfold lastN
 rw [List.getLast?_eq_some_getLast h, Option.getD_some]
 exact List.getLast_mem h
theorem take_lt {L : List Nat} (hs : L.Pairwise (· < ·)) (a x : Nat) : x ∈ L.takeWhile (fun x => decide (x < a)) ↔ x ∈ L ∧ x < a := by
 induction L with
 | nil => simp
 | cons y r ih =>
   have hs2 := List.pairwise_cons.1 hs
   by_cases h : y < a
   ·rw [List.takeWhile_cons_of_pos (by simp [h]), List.mem_cons, List.mem_cons, ih hs2.2]
    constructor
    ·rintro (rfl | ⟨h1, h2⟩)
     ·exact ⟨.inl rfl, h⟩
     ·exact ⟨.inr h1, h2⟩
    ·rintro ⟨rfl | h1, h2⟩
     ·exact .inl rfl
     ·exact .inr ⟨h1, h2⟩
   ·rw [List.takeWhile_cons_of_neg (by simp [h])]
    constructor
    ·intro hh; cases hh
    ·rintro ⟨h1, h2⟩
     rcases List.mem_cons.1 h1 with rfl | h1
     ·exact absurd h2 h
     ·have := hs2.1 x h1; omega
theorem take_sorted {L : List Nat} (hs : L.Pairwise (· < ·)) (a : Nat) : (L.takeWhile (fun x => decide (x < a))).Pairwise (· < ·) := List.Pairwise.sublist (List.takeWhile_sublist _) hs
theorem prev_mem {L : List Nat} {n a : Nat} (hs : L.Pairwise (· < ·)) (h0 : 0 ∈ L) (ha : 0 < a) : prevL L n a ∈ L ∧ prevL L n a < a ∧ ∀ x, x ∈ L → x < a → x ≤ prevL L n a := by
 have hm : 0 ∈ L.takeWhile (fun x => decide (x < a)) := (take_lt hs a 0).2 ⟨h0, ha⟩
 have hne : L.takeWhile (fun x => decide (x < a)) ≠ [] := fun e => by rw [e] at hm; cases hm
 have h1 : prevL L n a = lastN (L.takeWhile (fun x => decide (x < a))) := rfl
 have h2 := (take_lt hs a _).1 (last_mem hne)
 rw [h1]
 exact ⟨h2.1, h2.2, fun x hx hxa => last_le (take_sorted hs a) ((take_lt hs a x).2 ⟨hx, hxa⟩)⟩
def bFun (n : Nat) (f : Nat → Bool) : Array Value := ((List.range (n + 1)).map fun q => Value.bool (f q)).toArray
theorem bFun_get (n : Nat) (f : Nat → Bool) {i : Nat} (hi : i < n + 1) : (bFun n f)[i]? = some (.bool (f i)) := by simp [bFun, hi]
theorem bFun_ext {n : Nat} {f g : Nat → Bool} (h : ∀ q, q ≤ n → f q = g q) : bFun n f = bFun n g := by
 unfold bFun
 congr 1
 refine List.map_congr_left fun q hq => ?_
 rw [h q (by have := List.mem_range.1 hq; omega)]
theorem bFun_set (n : Nat) (f : Nat → Bool) (x : Nat) : (bFun n f).setIfInBounds x (.bool true) = bFun n (fun q => decide (q = x) || f q) := by
 apply Array.ext'
 rw [Array.toList_setIfInBounds]
 refine List.ext_getElem (by simp [bFun]) fun i h1 h2 => ?_
 have hi : i < n + 1 := by simpa [bFun] using h2
 by_cases hx : x = i
 ·subst hx
  rw [List.getElem_set_self]
  simp [bFun]
 ·rw [List.getElem_set_ne hx]
  have : i ≠ x := fun e => hx e.symm
  simp [bFun, this]
theorem bFun_none (n : Nat) : (bFun n (fun _ => false)).toList = (List.replicate (n + 1) false).map Value.bool := by
 refine List.ext_getElem (by simp [bFun]) fun i h1 h2 => ?_
 simp [bFun]
def metU (L : List Nat) (a : Nat) (q : Nat) : Bool := decide (q ∈ L) && decide (q ≤ a)
def metD (L : List Nat) (a : Nat) (q : Nat) : Bool := decide (q ∈ L) && decide (a ≤ q)
theorem metU_next {L : List Nat} {n a : Nat} (hs : L.Pairwise (· < ·)) (hn : n ∈ L) (ha : a < n) (q : Nat) : (decide (q = nextL L n a) || metU L a q) = metU L (nextL L n a) q := by
 obtain ⟨h1, h2, h3⟩ := next_mem hs hn ha
 unfold metU
 rw [Bool.eq_iff_iff]
 simp only [Bool.or_eq_true, Bool.and_eq_true, decide_eq_true_eq]
 constructor
 ·rintro (rfl | ⟨h4, h5⟩)
  ·exact ⟨h1, Nat.le_refl _⟩
  ·exact ⟨h4, by omega⟩
 ·rintro ⟨h4, h5⟩
  by_cases h6 : q ≤ a
  ·exact .inr ⟨h4, h6⟩
  ·exact .inl (Nat.le_antisymm h5 (h3 q h4 (by omega)))
theorem metD_prev {L : List Nat} {n a : Nat} (hs : L.Pairwise (· < ·)) (h0 : 0 ∈ L) (ha : 0 < a) (q : Nat) : (decide (q = prevL L n a) || metD L a q) = metD L (prevL L n a) q := by
 obtain ⟨h1, h2, h3⟩ := prev_mem (n := n) hs h0 ha
 unfold metD
 rw [Bool.eq_iff_iff]
 simp only [Bool.or_eq_true, Bool.and_eq_true, decide_eq_true_eq]
 constructor
 ·rintro (rfl | ⟨h4, h5⟩)
  ·exact ⟨h1, Nat.le_refl _⟩
  ·exact ⟨h4, by omega⟩
 ·rintro ⟨h4, h5⟩
  by_cases h6 : a ≤ q
  ·exact .inr ⟨h4, h6⟩
  ·exact .inl (Nat.le_antisymm (h3 q h4 (by omega)) h5)
def WkU (L : List Nat) (a : Nat) (f : Nat → Bool) : Prop := (a = 0 ∧ f = fun _ => false) ∨ (a ∈ L ∧ f = metU L a)
def WkD (L : List Nat) (n a : Nat) (f : Nat → Bool) : Prop := (a = n ∧ f = fun _ => false) ∨ (a ∈ L ∧ f = metD L a)
theorem wkU_step {L : List Nat} {n a : Nat} {f : Nat → Bool} (hs : L.Pairwise (· < ·)) (h0 : 0 ∈ L) (hn : n ∈ L) (ha : a < n) (hle : ∀ x, x ∈ L → x ≤ n) (h : WkU L a f) : (a < nextL L n a ∧ nextL L n a ≤ n) ∧ WkU L (nextL L n a) (fun q => decide (q = nextL L n a) || (decide (q = a) || f q)) := by
 obtain ⟨h1, h2, h3⟩ := next_mem hs hn ha
 refine ⟨⟨h2, hle _ h1⟩, .inr ⟨h1, ?_⟩⟩
 have hf : ∀ q, (decide (q = a) || f q) = metU L a q := by
  intro q
  rcases h with ⟨rfl, rfl⟩ | ⟨hm, rfl⟩
  ·unfold metU
   rw [Bool.eq_iff_iff]
   simp only [Bool.or_eq_true, Bool.and_eq_true, decide_eq_true_eq, Bool.false_eq_true, or_false]
   exact ⟨fun e => by rw [e]; exact ⟨h0, Nat.le_refl _⟩, fun e => by omega⟩
  ·unfold metU
   rw [Bool.eq_iff_iff]
   simp only [Bool.or_eq_true, Bool.and_eq_true, decide_eq_true_eq]
   exact ⟨fun e => e.elim (fun e => by rw [e]; exact ⟨hm, Nat.le_refl _⟩) id, fun e => .inr e⟩
 funext q
 rw [hf, metU_next hs hn ha]
theorem wkD_step2 {L : List Nat} {n a : Nat} {f : Nat → Bool} (hs : L.Pairwise (· < ·)) (h0 : 0 ∈ L) (hn : n ∈ L) (ha : 0 < a) (hle : ∀ x, x ∈ L → x ≤ n) (h : WkD L n a f) : prevL L n a < a ∧ prevL L n a ∈ L ∧ ∀ q, q ≤ n → (decide (q = prevL L n a) || (decide (q = a) || f q)) = metD L (prevL L n a) q := by
 obtain ⟨h1, h2, h3⟩ := prev_mem (n := n) hs h0 ha
 refine ⟨h2, h1, fun q hq => ?_⟩
 have hf : (decide (q = a) || f q) = metD L a q := by
  rcases h with ⟨rfl, rfl⟩ | ⟨hm, rfl⟩
  ·unfold metD
   rw [Bool.eq_iff_iff]
   simp only [Bool.or_eq_true, Bool.and_eq_true, decide_eq_true_eq, Bool.false_eq_true, or_false]
   exact ⟨fun e => by rw [e]; exact ⟨hn, Nat.le_refl _⟩, fun e => by omega⟩
  ·unfold metD
   rw [Bool.eq_iff_iff]
   simp only [Bool.or_eq_true, Bool.and_eq_true, decide_eq_true_eq]
   exact ⟨fun e => e.elim (fun e => by rw [e]; exact ⟨hm, Nat.le_refl _⟩) id, fun e => .inr e⟩
 rw [hf, metD_prev hs h0 ha]
theorem wkU_end {L : List Nat} {n : Nat} {f : Nat → Bool} (hle : ∀ x, x ∈ L → x ≤ n) (hz : n = 0 → L = []) (h : WkU L n f) : f = fun q => decide (q ∈ L) := by
 rcases h with ⟨h0, rfl⟩ | ⟨hm, rfl⟩
 ·rw [hz h0]; funext q; simp
 ·funext q
  unfold metU
  rw [Bool.eq_iff_iff]
  simp only [Bool.and_eq_true, decide_eq_true_eq]
  exact ⟨fun e => e.1, fun e => ⟨e, hle q e⟩⟩
theorem wkD_end {L : List Nat} {n : Nat} {f : Nat → Bool} (hz : n = 0 → L = []) (h : WkD L n 0 f) : f = fun q => decide (q ∈ L) := by
 rcases h with ⟨h0, rfl⟩ | ⟨hm, rfl⟩
 ·rw [hz h0.symm]; funext q; simp
 ·funext q
  unfold metD
  simp
theorem rdT_fun {V : World} {g n : Nat} {f : Nat → Bool} (h : V.heap[g]? = some (.cells (bFun n f) 4)) : RdT V (some ⟨g, 0, none⟩) (n + 1) ((List.range (n + 1)).map f) :=
 ⟨by simp, fun _ => ⟨g, 0, rfl, fun i hi => by
  rw [cell_of_row V g (0 + i) _ _ _ h, Nat.zero_add, bFun_get n f hi]
  simp [hi]⟩⟩
theorem dc_yes {br x : Nat} : (n i : Nat) → (∀ j, i ≤ j → j < i + n → br.testBit j = true) → dcB br x n i = true
 | 0, _, _ => rfl
 | n + 1, i, h => by
   rw [dcB]
   split
   ·exact h i (Nat.le_refl _) (by omega)
   ·exact dc_yes n (i + 1) fun j h1 h2 => h j (by omega) (by omega)
theorem dc_no {br x : Nat} (br' : Nat) : (n i : Nat) → (∀ j, i ≤ j → j < i + n → br.testBit j = false) → dcB br x n i = true → dcB br' x n i = true
 | 0, _, _, _ => rfl
 | n + 1, i, h, hd => by
   rw [dcB] at hd ⊢
   split at hd
   ·rw [h i (Nat.le_refl _) (by omega)] at hd; cases hd
   ·rename_i h1
    rw [if_neg h1]
    exact dc_no br' n (i + 1) (fun j h1 h2 => h j (by omega) (by omega)) hd
theorem dc_snoc {br br' x x' : Nat} : (n i : Nat) → (∀ j, i ≤ j → j < i + n → x'.testBit j = x.testBit j ∧ br'.testBit j = br.testBit j) → br'.testBit (i + n) = true → dcB br' x' (n + 1) i = dcB br x n i
 | 0, i, _, hb => by
   rw [dcB, dcB]
   split
   ·exact hb
   ·rfl
 | n + 1, i, h, hb => by
   obtain ⟨h1, h2⟩ := h i (Nat.le_refl _) (by omega)
   rw [dcB, h1, h2, dc_snoc n (i + 1) (fun j hj hj2 => h j (by omega) (by omega)) (by rw [show i + 1 + n = i + (n + 1) by omega]; exact hb)]
   conv => rhs; rw [dcB]
def IsBd (K : Nat) (l : List Rl) (n : Nat) (row : List Int) (L : List Nat) : Prop := ∃ (nxA : List (List Nat)) (ouA : List Nat) (nxB : List (List Nat)) (ouB : List Nat),
 L = allB (brkN l) l.length n (ouR nxA ouA row) (ouR nxB ouB row.reverse) ∧ LeastOf K (xsL l) nxA ouA ∧ LeastOf K (xsR l) nxB ouB
def BdsQ (K : Nat) (l : List Rl) (n : Nat) (row : List Int) (w : World) (e : Ending) (w' : World) : Prop := Below w.heap.size w w' ∧
 ((¬ Cls K row ∧ e = .returned (.tuple #[.slice none 0 0, .int .i64 1])) ∨ (Cls K row ∧ ∃ (L : List Nat) (g : Nat),
  e = .returned (.tuple #[.slice (some ⟨g, 0, none⟩) (n + 1) (n + 1), .int .i64 0]) ∧ w'.heap[g]? = some (.cells (bFun n (fun q => decide (q ∈ L))) 4) ∧ IsBd K l n row L))
theorem segBnd_any (K tb n xc : Nat) (l : List Rl) (row : List Int) (xa : Option Addr) (w : World) (hta : TabAt w K l tb) (hl40 : l.length ≤ 40) (hrd : Rd .i64 w xa n row) (hnone : xa = none → xc = 0) (hn : n ≤ 1000) :
 Calls Tryd.prog 18 #[.pointer (some ⟨tb, 0, none⟩), .slice xa n xc] w (BdsQ K l n row w) := by
 refine (segBounds_any K tb n xc l row xa w hta hl40 hrd hnone hn).mono ?_
 rintro e w' ⟨hb, h | ⟨hc, nxA, ouA, nxB, ouB, g, he, hg, hA, hB⟩⟩
 ·exact ⟨hb, .inl h⟩
 ·exact ⟨hb, .inr ⟨hc, _, g, he, hg, nxA, ouA, nxB, ouB, rfl, hA, hB⟩⟩
theorem IsBd.sorted {K : Nat} {l : List Rl} {n : Nat} {row : List Int} {L : List Nat} (h : IsBd K l n row L) : L.Pairwise (· < ·) := by
 obtain ⟨_, _, _, _, rfl, _, _⟩ := h
 exact allB_sorted _ _ _ _ _
theorem IsBd.ends {K : Nat} {l : List Rl} {n : Nat} {row : List Int} {L : List Nat} (h : IsBd K l n row L) (hn : 0 < n) : 0 ∈ L ∧ n ∈ L := by
 obtain ⟨_, _, _, _, rfl, _, _⟩ := h
 exact ⟨zero_mem hn, end_mem hn⟩
theorem IsBd.le {K : Nat} {l : List Rl} {n : Nat} {row : List Int} {L : List Nat} (h : IsBd K l n row L) {x : Nat} (hx : x ∈ L) : x ≤ n := by
 obtain ⟨_, _, _, _, rfl, _, _⟩ := h
 exact allB_le hx
theorem IsBd.none {K : Nat} {l : List Rl} {n : Nat} {row : List Int} {L : List Nat} (h : IsBd K l n row L) (hn : n = 0) : L = [] := by
 obtain ⟨_, _, _, _, rfl, _, _⟩ := h
 unfold allB
 rw [if_pos hn]
theorem IsBd.one {K : Nat} {l : List Rl} {n : Nat} {row : List Int} {L L' : List Nat} (h : IsBd K l n row L) (h' : IsBd K l n row L') : L = L' := by
 obtain ⟨_, _, _, _, rfl, hA, hB⟩ := h
 obtain ⟨_, _, _, _, rfl, hA', hB'⟩ := h'
 obtain ⟨rfl, rfl⟩ := least_one hA hA'
 obtain ⟨rfl, rfl⟩ := least_one hB hB'
 rfl
theorem ou_bit {K : Nat} {xs : List (Nd × Bool)} {nx : List (List Nat)} {ou : List Nat} (h : LeastOf K xs nx ou) {row : List Int} (hc : Cls K row) (p i : Nat) : (ouR nx ou row p).testBit i = true ↔ outC xs ((row.map Int.toNat).take p) i := h.tells _ ((cls_nat hc).2.take p) i
def wordL (b : Bool) (l : List Rl) : List Rl := l.map fun r => ⟨r.left, r.right, b, r.start⟩
theorem word_left (b : Bool) (l : List Rl) : xsL (wordL b l) = xsL l := by simp [xsL, wordL]
theorem word_right (b : Bool) (l : List Rl) : xsR (wordL b l) = xsR l := by simp [xsR, wordL]
theorem word_len (b : Bool) (l : List Rl) : (wordL b l).length = l.length := by simp [wordL]
theorem word_cm (K : Int) (b : Bool) (l : List Rl) : cmB K (wordL b l) = cmB K l := by
 unfold cmB
 rw [word_left, word_right, word_len]
 congr 3
 simp [wordL, Function.comp_def]
theorem word_bit (b : Bool) (l : List Rl) (j : Nat) (hj : j < l.length) : (brkN (wordL b l)).testBit j = b := by
 rw [brkN_bit]
 simp [wordL, hj]
theorem IsBd.yes {K : Nat} {l : List Rl} {n : Nat} {row : List Int} {L : List Nat} (h : IsBd K (wordL true l) n row L) (hn : 0 < n) {k : Nat} (hk : k ≤ n) : k ∈ L := by
 obtain ⟨nxA, ouA, nxB, ouB, rfl, hA, hB⟩ := h
 refine mem_allB.2 ⟨by omega, hk, ?_⟩
 unfold isB
 rw [dc_yes _ _ fun j _ hj => word_bit true l j (by rw [word_len] at hj; omega)]
 simp
theorem IsBd.no {K : Nat} {l : List Rl} {n : Nat} {row : List Int} {L L' : List Nat} (h : IsBd K (wordL false l) n row L) (h' : IsBd K l n row L') {k : Nat} (hk : k ∈ L) : k ∈ L' := by
 obtain ⟨nxA, ouA, nxB, ouB, rfl, hA, hB⟩ := h
 obtain ⟨nxA', ouA', nxB', ouB', rfl, hA', hB'⟩ := h'
 rw [word_left] at hA
 rw [word_right] at hB
 obtain ⟨rfl, rfl⟩ := least_one hA hA'
 obtain ⟨rfl, rfl⟩ := least_one hB hB'
 obtain ⟨h1, h2, h3⟩ := mem_allB.1 hk
 refine mem_allB.2 ⟨h1, h2, ?_⟩
 unfold isB at h3 ⊢
 rw [word_len] at h3
 simp only [Bool.or_eq_true] at h3 ⊢
 rcases h3 with h3 | h3
 ·exact .inl h3
 ·exact .inr (dc_no _ _ _ (fun j _ hj => word_bit false l j (by omega)) h3)
def restR (b : Bool) : Rl := ⟨nilNd, nilNd, b, false⟩
theorem out_nil {xs : List (Nd × Bool)} {i : Nat} (h : xs[i]? = some (nilNd, false)) (w : List Nat) : outC xs w i := ⟨_, h, w.map Int.ofNat, [], by simp, (fun h => by cases h), (nil_fits []).2 rfl⟩
theorem out_congr {xs ys : List (Nd × Bool)} {i j : Nat} (h : xs[i]? = ys[j]?) (w : List Nat) : outC xs w i ↔ outC ys w j := by unfold outC; rw [h]
theorem bit_congr {K : Nat} {xs ys : List (Nd × Bool)} {nx nx' : List (List Nat)} {ou ou' : List Nat} (h : LeastOf K xs nx ou) (h' : LeastOf K ys nx' ou') {row : List Int} (hc : Cls K row) (p : Nat) {i j : Nat} (he : xs[i]? = ys[j]?) : (ouR nx ou row p).testBit i = (ouR nx' ou' row p).testBit j := by
 rw [Bool.eq_iff_iff, ou_bit h hc, ou_bit h' hc]
 exact out_congr he _
theorem IsBd.first {K : Nat} {l : List Rl} {n : Nat} {row : List Int} {L : List Nat} {b : Bool} (hc : Cls K row) (h : IsBd K (restR b :: l) n row L) {k : Nat} (h0 : 0 < k) (hk : k < n) : decide (k ∈ L) = b := by
 obtain ⟨nxA, ouA, nxB, ouB, rfl, hA, hB⟩ := h
 rw [Bool.eq_iff_iff, decide_eq_true_eq, mem_allB]
 have h1 : isB (brkN (restR b :: l)) (restR b :: l).length n (ouR nxA ouA row) (ouR nxB ouB row.reverse) k = b := by
  unfold isB
  rw [decide_eq_false (by omega), decide_eq_false (by omega), Bool.false_or, Bool.false_or, List.length_cons, dcB, Nat.testBit_and, (ou_bit hA hc k 0).2 (out_nil rfl _), (ou_bit hB (cls_rev hc) (n - k) 0).2 (out_nil rfl _)]
  rw [brkN_bit]
  rfl
 rw [h1]
 exact ⟨fun h => h.2.2, fun h => ⟨by omega, by omega, h⟩⟩
theorem IsBd.last {K : Nat} {l : List Rl} {n : Nat} {row : List Int} {L L' : List Nat} (hc : Cls K row) (h : IsBd K (l ++ [restR true]) n row L) (h' : IsBd K l n row L') : L = L' := by
 obtain ⟨nxA, ouA, nxB, ouB, rfl, hA, hB⟩ := h
 obtain ⟨nxA', ouA', nxB', ouB', rfl, hA', hB'⟩ := h'
 have h1 : ∀ p, isB (brkN (l ++ [restR true])) (l ++ [restR true]).length n (ouR nxA ouA row) (ouR nxB ouB row.reverse) p = isB (brkN l) l.length n (ouR nxA' ouA' row) (ouR nxB' ouB' row.reverse) p := fun p => by
  unfold isB
  congr 1
  rw [List.length_append, List.length_singleton]
  refine dc_snoc _ _ (fun j _ hj => ?_) ?_
  ·have hj' : j < l.length := by omega
   have e1 : (xsL (l ++ [restR true]))[j]? = (xsL l)[j]? := by simp [xsL, List.getElem?_append_left, hj']
   have e2 : (xsR (l ++ [restR true]))[j]? = (xsR l)[j]? := by simp [xsR, List.getElem?_append_left, hj']
   refine ⟨?_, ?_⟩
   ·rw [Nat.testBit_and, Nat.testBit_and, bit_congr hA hA' hc p e1, bit_congr hB hB' (cls_rev hc) (n - p) e2]
   ·rw [brkN_bit, brkN_bit, List.getElem?_append_left hj']
  ·rw [brkN_bit, Nat.zero_add, List.getElem?_append_right (Nat.le_refl _)]
   simp [restR]
 unfold allB bndL
 rw [show (isB (brkN (l ++ [restR true])) (l ++ [restR true]).length n (ouR nxA ouA row) (ouR nxB ouB row.reverse)) = isB (brkN l) l.length n (ouR nxA' ouA' row) (ouR nxB' ouB' row.reverse) from funext h1]
theorem own_row {w w' : World} {D B : Nat} {ps : List (Rl × RlP)} {a : Option Addr} {c : Nat} (hk : ∀ x, x ∈ ps → RlAt w D x.1 x.2) (hb : Below w.heap.size w w') (ho : w'.ownsRow B 48 8 (.slice a ps.length c) ps.length (flR ps)) : RowR w' D a (ps.map fun x => x.1).length (ps.map fun x => x.1) := by
 refine ⟨rfl, fun i hi => ?_⟩
 have hi' : i < ps.length := by simpa using hi
 obtain ⟨g, rfl, hc⟩ := own_cellsN ho (by omega)
 have e : (ps.map fun x => x.1)[i] = ps[i].1 := by simp
 refine ⟨g, 0, ps[i].2, rfl, by rw [e]; exact (hk ps[i] (List.getElem_mem hi')).later hb, fun j v hv => ?_⟩
 rw [e] at hv
 have hj : j < 8 := by
  rcases Nat.lt_or_ge j 8 with h | h
  ·exact h
  ·rw [Array.getElem?_eq_none (by simpa using h)] at hv; cases hv
 rw [Nat.zero_add, hc _ (by omega), flR_get ps i hi' j hj]
 exact hv
def CmpW (m : Nat) (rl ll : List Rl) (w : World) (e : Ending) (w' : World) : Prop := Below w.heap.size w w' ∧
 ((cmB m rl = false ∧ e = .returned (.tuple #[.pointer none, .int .i64 1])) ∨ (cmB m rl = true ∧ ((e = .returned (.tuple #[.pointer none, .int .i64 7]) ∧ (BigC m (xsL rl) ∨ BigC m (xsR rl))) ∨
  ∃ tb, e = .returned (.tuple #[.pointer (some ⟨tb, 0, none⟩), .int .i64 0]) ∧ TabAt w' m ll tb ∧ ¬ (BigC m (xsL rl) ∨ BigC m (xsR rl)))))
theorem cmp_as {m : Nat} {rl ll : List Rl} {w : World} {e : Ending} {w' : World} (h : CmpP m ll w e w') (hc : cmB m ll = cmB m rl) (hb : (BigC m (xsL ll) ∨ BigC m (xsR ll)) ↔ (BigC m (xsL rl) ∨ BigC m (xsR rl))) : CmpW m rl ll w e w' := by
 obtain ⟨h1, h2⟩ := h
 rw [Int.toNat_natCast, hc] at h2
 refine ⟨h1, ?_⟩
 rcases h2 with h2 | ⟨h2, ⟨h3, h4⟩ | ⟨tb, h3, _, h4, h5, h6⟩⟩
 ·exact .inl h2
 ·exact .inr ⟨h2, .inl ⟨h3, hb.1 h4⟩⟩
 ·exact .inr ⟨h2, .inr ⟨tb, h3, h4, fun hh => (hb.2 hh).elim h5 h6⟩⟩
theorem cmp_two {m : Nat} {l : List Rl} {w : World} {e : Ending} {w' : World} (h : CmpP m l w e w') : Below w.heap.size w w' ∧ ((∃ er : Int, e = .returned (.tuple #[.pointer none, .int .i64 er])) ∨ ∃ tb, e = .returned (.tuple #[.pointer (some ⟨tb, 0, none⟩), .int .i64 0]) ∧ TabAt w' m l tb) := by
 obtain ⟨h1, h2⟩ := h
 rw [Int.toNat_natCast] at h2
 refine ⟨h1, ?_⟩
 rcases h2 with ⟨_, h2⟩ | ⟨_, ⟨h3, _⟩ | ⟨tb, h3, _, h4, _⟩⟩
 ·exact .inl ⟨_, h2⟩
 ·exact .inl ⟨_, h3⟩
 ·exact .inr ⟨tb, h3, h4⟩
end Go.Proofs.YtcafffohnokjgaaDoor
