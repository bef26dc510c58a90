/- In one text: TabF, TabG, TabM, TabS, SegM. -/
import Derived.Test.YtclogekfdmikpaaDoorJ28
import Derived.Test.YtclogekfdmikpaaDoorJ24
import Derived.Test.YtclogekfdmikpaaDoorJ29
import Derived.Test.YtclogekfdmikpaaDoorJ31
import Derived.Test.YtclogekfdmikpaaDoorJ38
/- The walk of tables' Equal. -/
namespace Go.Proofs.YtclogekfdmikpaaDoor
open Go.RowKit Go.Shelf
set_option linter.unusedVariables false
set_option linter.unusedSimpArgs false

end Go.Proofs.YtclogekfdmikpaaDoor

/- The machines of one character; set, and shown. -/
namespace Go.Proofs.YtclogekfdmikpaaDoor
open Go.RowKit Go.Shelf Go.Maps
set_option linter.unusedVariables false
set_option linter.unusedSimpArgs false

end Go.Proofs.YtclogekfdmikpaaDoor

/- Expressions of few situations are not too big; many times one character. -/
namespace Go.Proofs.YtclogekfdmikpaaDoor
open Go.RowKit Go.Shelf Go.Maps
set_option linter.unusedVariables false
set_option linter.unusedSimpArgs false

theorem sit_at (xs : List (Nd × Bool)) (w : List Nat) (i : Nat) : (sitC xs w)[i]? = xs[i]?.map fun x => w.foldl (stO x) (fiO x) := by
 unfold sitC; simp
theorem sit_spot (x : Nd × Bool) (w : List Nat) : w.foldl (stO x) (fiO x) = x.1.spot x.2 (w.map Int.ofNat) := by
 unfold Nd.spot
 rw [List.foldl_map]
 rfl
theorem out_sit {xs : List (Nd × Bool)} (hr : ∀ x, x ∈ xs → x.1.right) (w : List Nat) (i : Nat) : outC xs w i ↔ ∃ y, (sitC xs w)[i]? = some y ∧ y.2 = true := by
 unfold outC
 rw [sit_at]
 constructor
 ·rintro ⟨x, hx, h⟩
  exact ⟨w.foldl (stO x) (fiO x), by rw [hx]; rfl, by rw [sit_spot]; exact (spot_fits x.1 (hr x (List.mem_of_getElem? hx)) x.2 _).2 h⟩
 ·rintro ⟨y, hy, h2⟩
  obtain ⟨x, hx, rfl⟩ := Option.map_eq_some_iff.1 hy
  rw [sit_spot] at h2
  exact ⟨x, hx, (spot_fits x.1 (hr x (List.mem_of_getElem? hx)) x.2 _).1 h2⟩
theorem sit_app {xs : List (Nd × Bool)} {a b : List Nat} (h : sitC xs a = sitC xs b) (v : List Nat) : sitC xs (a ++ v) = sitC xs (b ++ v) := by
 refine List.ext_getElem? fun i => ?_
 have h1 : (sitC xs a)[i]? = (sitC xs b)[i]? := by rw [h]
 rw [sit_at, sit_at] at h1 ⊢
 cases hx : xs[i]? with
 | none => rfl
 | some x =>
   rw [hx] at h1
   simp only [Option.map_some, Option.some.injEq] at h1 ⊢
   rw [List.foldl_append, List.foldl_append, h1]
theorem big_few {K n : Nat} {xs : List (Nd × Bool)} (hr : ∀ x, x ∈ xs → x.1.right) (g : List Nat → Nat) (hn : n ≤ 400) (hg : ∀ w, Wd K w → g w < n) (hs : ∀ a b, Wd K a → Wd K b → g a = g b → sitC xs a = sitC xs b) : ¬ BigC K xs := by
 rintro (⟨L, l1, l2, l3⟩ | ⟨L, l1, l2, l3⟩)
 ·have := pair_few g n (fun w hw => hg w (l2 w hw)) (fun a b ha hb hne e => hne (hs a b (l2 a ha) (l2 b hb) e)) l3
  omega
 ·have := pair_few g n (fun w hw => hg w (l2 w hw)) (fun a b ha hb hne e => by
   obtain ⟨v, _, i, hi⟩ := hne
   refine hi ?_
   rw [out_sit hr, out_sit hr, sit_app (hs a b (l2 a ha) (l2 b hb) e)]) l3
  omega
theorem one_all : ∀ c, c < 24 → stO oneX oneA c = (if c = 0 then oneB else oneA) ∧ stO oneX oneB c = (if c = 0 then oneB else oneA) := by decide
theorem one_in {K : Nat} (hK : K ≤ 24) (w : List Nat) (hw : Wd K w) : w.foldl (stO oneX) (fiO oneX) = oneA ∨ w.foldl (stO oneX) (fiO oneX) = oneB := by
 have : ∀ (w : List Nat) (y : Nat × Bool), (y = oneA ∨ y = oneB) → Wd K w → w.foldl (stO oneX) y = oneA ∨ w.foldl (stO oneX) y = oneB := by
  intro w
  induction w with
  | nil => exact fun y hy _ => hy
  | cons c r ih =>
    intro y hy hc
    have h24 : c < 24 := Nat.lt_of_lt_of_le (hc c List.mem_cons_self) hK
    obtain ⟨s1, s2⟩ := one_all c h24
    refine ih _ ?_ (fun d hd => hc d (List.mem_cons_of_mem _ hd))
    rcases hy with rfl | rfl
    ·rw [s1]; split <;> simp
    ·rw [s2]; split <;> simp
 exact this w _ (.inl rfl) hw
theorem many_not_big (K N : Nat) (hK : K ≤ 24) : ¬ BigC K (List.replicate N oneX) := by
 have hr : ∀ x, x ∈ List.replicate N oneX → x.1.right := fun x hx => by
  rw [List.eq_of_mem_replicate hx]
  exact (Nd.ok_right (n := oneX.1) (by decide)).1
 refine big_few (n := 2) hr (fun w => if w.foldl (stO oneX) (fiO oneX) = oneB then 1 else 0) (by omega) (fun w _ => by split <;> omega) (fun a b ha hb e => ?_)
 have hab : a.foldl (stO oneX) (fiO oneX) = b.foldl (stO oneX) (fiO oneX) := by
  have hne := one_steps.1
  rcases one_in hK a ha with h1 | h1 <;> rcases one_in hK b hb with h2 | h2
  ·rw [h1, h2]
  ·simp only [h1, h2, if_neg hne] at e; simp at e
  ·simp only [h1, h2, if_neg hne] at e; simp at e
  ·rw [h1, h2]
 unfold sitC
 rw [List.map_replicate, List.map_replicate, hab]
end Go.Proofs.YtclogekfdmikpaaDoor

/- Two neighbouring rules change about: mathematics, and rows of rules in memory that are written. -/
namespace Go.Proofs.YtclogekfdmikpaaDoor
open Go.RowKit
set_option linter.unusedVariables false
set_option linter.unusedSimpArgs false

def swp (k i : Nat) : Nat := if i = k then k + 1 else if i = k + 1 then k else i
theorem swp_swp (k i : Nat) : swp k (swp k i) = i := by
 unfold swp
 by_cases h1 : i = k
 ·rw [if_pos h1, if_neg (by omega), if_pos rfl, h1]
 ·rw [if_neg h1]
  by_cases h2 : i = k + 1
  ·rw [if_pos h2, if_pos rfl, h2]
  ·rw [if_neg h2, if_neg h1, if_neg h2]
def Swp {α : Type} (k : Nat) (xs ys : List α) : Prop := ys.length = xs.length ∧ ∀ i, ys[i]? = xs[swp k i]?
theorem Swp.symm {α : Type} {k : Nat} {xs ys : List α} (h : Swp k xs ys) : Swp k ys xs := ⟨h.1.symm, fun i => by rw [h.2, swp_swp]⟩
theorem Swp.map {α β : Type} {k : Nat} {xs ys : List α} (h : Swp k xs ys) (f : α → β) : Swp k (xs.map f) (ys.map f) := ⟨by simp [h.1], fun i => by rw [List.getElem?_map, List.getElem?_map, h.2]⟩
theorem Swp.mem {α : Type} {k : Nat} {xs ys : List α} (h : Swp k xs ys) {x : α} (hx : x ∈ ys) : x ∈ xs := by
 obtain ⟨i, hi, rfl⟩ := List.mem_iff_getElem.1 hx
 have := h.2 i
 rw [List.getElem?_eq_getElem hi] at this
 exact List.mem_of_getElem? this.symm
theorem Swp.all {α : Type} {k : Nat} {xs ys : List α} (h : Swp k xs ys) (p : α → Bool) : ys.all p = xs.all p := by
 rw [Bool.eq_iff_iff, List.all_eq_true, List.all_eq_true]
 exact ⟨fun hh x hx => hh x (h.symm.mem hx), fun hh x hx => hh x (h.mem hx)⟩
theorem Swp.made {α : Type} {k : Nat} {xs : List α} {a b : α} (ha : xs[k]? = some a) (hb : xs[k + 1]? = some b) : Swp k xs ((xs.set k b).set (k + 1) a) := by
 refine ⟨by simp, fun i => ?_⟩
 have hkl := (List.getElem?_eq_some_iff.1 ha).1
 have hkl2 := (List.getElem?_eq_some_iff.1 hb).1
 unfold swp
 by_cases h2 : i = k + 1
 ·rw [h2, List.getElem?_set_self (by simp; omega), if_neg (by omega), if_pos rfl, ha]
 ·rw [List.getElem?_set_ne (Ne.symm h2)]
  by_cases h1 : i = k
  ·rw [h1, List.getElem?_set_self hkl, if_pos rfl, hb]
  ·rw [List.getElem?_set_ne (Ne.symm h1), if_neg h1, if_neg h2]
end Go.Proofs.YtclogekfdmikpaaDoor

/- Boundaries: mathematics for the statements. -/
namespace Go.Proofs.YtclogekfdmikpaaDoor
open Go.RowKit
set_option linter.unusedVariables false
set_option linter.unusedSimpArgs false

theorem mem_allB {br N n : Nat} {OA OB : Nat → Nat} {p : Nat} : p ∈ allB br N n OA OB ↔ n ≠ 0 ∧ p ≤ n ∧ isB br N n OA OB p = true := by
 unfold allB bndL
 by_cases h : n = 0
 ·rw [if_pos h]; simp [h]
 ·rw [if_neg h, List.mem_filter, List.mem_range]
  constructor
  ·rintro ⟨h1, h2⟩; exact ⟨h, by omega, h2⟩
  ·rintro ⟨_, h1, h2⟩; exact ⟨by omega, h2⟩
theorem zero_mem {br N n : Nat} {OA OB : Nat → Nat} (h : 0 < n) : 0 ∈ allB br N n OA OB := mem_allB.2 ⟨by omega, by omega, by simp [isB]⟩
theorem end_mem {br N n : Nat} {OA OB : Nat → Nat} (h : 0 < n) : n ∈ allB br N n OA OB := mem_allB.2 ⟨by omega, by omega, by simp [isB]⟩
theorem allB_le {br N n : Nat} {OA OB : Nat → Nat} {p : Nat} (h : p ∈ allB br N n OA OB) : p ≤ n := (mem_allB.1 h).2.1
def bFun (n : Nat) (f : Nat → Bool) : Array Value := ((List.range (n + 1)).map fun q => Value.bool (f q)).toArray
theorem bFun_get (n : Nat) (f : Nat → Bool) {i : Nat} (hi : i < n + 1) : (bFun n f)[i]? = some (.bool (f i)) := by simp [bFun, hi]
theorem bFun_ext {n : Nat} {f g : Nat → Bool} (h : ∀ q, q ≤ n → f q = g q) : bFun n f = bFun n g := by
 unfold bFun
 congr 1
 refine List.map_congr_left fun q hq => ?_
 rw [h q (by have := List.mem_range.1 hq; omega)]
theorem bFun_none (n : Nat) : (bFun n (fun _ => false)).toList = (List.replicate (n + 1) false).map Value.bool := by
 refine List.ext_getElem (by simp [bFun]) fun i h1 h2 => ?_
 simp [bFun]
theorem rdT_fun {V : World} {g n : Nat} {f : Nat → Bool} (h : V.heap[g]? = some (.cells (bFun n f) 4)) : RdT V (some ⟨g, 0, none⟩) (n + 1) ((List.range (n + 1)).map f) :=
 ⟨by simp, fun _ => ⟨g, 0, rfl, fun i hi => by
  rw [cell_of_row V g (0 + i) _ _ _ h, Nat.zero_add, bFun_get n f hi]
  simp [hi]⟩⟩
theorem dc_no {br x : Nat} (br' : Nat) : (n i : Nat) → (∀ j, i ≤ j → j < i + n → br.testBit j = false) → dcB br x n i = true → dcB br' x n i = true
 | 0, _, _, _ => rfl
 | n + 1, i, h, hd => by
   rw [dcB] at hd ⊢
   split at hd
   ·rw [h i (Nat.le_refl _) (by omega)] at hd; cases hd
   ·rename_i h1
    rw [if_neg h1]
    exact dc_no br' n (i + 1) (fun j h1 h2 => h j (by omega) (by omega)) hd
theorem dc_snoc {br br' x x' : Nat} : (n i : Nat) → (∀ j, i ≤ j → j < i + n → x'.testBit j = x.testBit j ∧ br'.testBit j = br.testBit j) → br'.testBit (i + n) = true → dcB br' x' (n + 1) i = dcB br x n i
 | 0, i, _, hb => by
   rw [dcB, dcB]
   split
   ·exact hb
   ·rfl
 | n + 1, i, h, hb => by
   obtain ⟨h1, h2⟩ := h i (Nat.le_refl _) (by omega)
   rw [dcB, h1, h2, dc_snoc n (i + 1) (fun j hj hj2 => h j (by omega) (by omega)) (by rw [show i + 1 + n = i + (n + 1) by omega]; exact hb)]
   conv => rhs; rw [dcB]
def IsBd (K : Nat) (l : List Rl) (n : Nat) (row : List Int) (L : List Nat) : Prop := ∃ (nxA : List (List Nat)) (ouA : List Nat) (nxB : List (List Nat)) (ouB : List Nat),
 L = allB (brkN l) l.length n (ouR nxA ouA row) (ouR nxB ouB row.reverse) ∧ LeastOf K (xsL l) nxA ouA ∧ LeastOf K (xsR l) nxB ouB
theorem IsBd.ends {K : Nat} {l : List Rl} {n : Nat} {row : List Int} {L : List Nat} (h : IsBd K l n row L) (hn : 0 < n) : 0 ∈ L ∧ n ∈ L := by
 obtain ⟨_, _, _, _, rfl, _, _⟩ := h
 exact ⟨zero_mem hn, end_mem hn⟩
theorem IsBd.le {K : Nat} {l : List Rl} {n : Nat} {row : List Int} {L : List Nat} (h : IsBd K l n row L) {x : Nat} (hx : x ∈ L) : x ≤ n := by
 obtain ⟨_, _, _, _, rfl, _, _⟩ := h
 exact allB_le hx
theorem IsBd.none {K : Nat} {l : List Rl} {n : Nat} {row : List Int} {L : List Nat} (h : IsBd K l n row L) (hn : n = 0) : L = [] := by
 obtain ⟨_, _, _, _, rfl, _, _⟩ := h
 unfold allB
 rw [if_pos hn]
theorem IsBd.one {K : Nat} {l : List Rl} {n : Nat} {row : List Int} {L L' : List Nat} (h : IsBd K l n row L) (h' : IsBd K l n row L') : L = L' := by
 obtain ⟨_, _, _, _, rfl, hA, hB⟩ := h
 obtain ⟨_, _, _, _, rfl, hA', hB'⟩ := h'
 obtain ⟨rfl, rfl⟩ := least_one hA hA'
 obtain ⟨rfl, rfl⟩ := least_one hB hB'
 rfl
theorem ou_bit {K : Nat} {xs : List (Nd × Bool)} {nx : List (List Nat)} {ou : List Nat} (h : LeastOf K xs nx ou) {row : List Int} (hc : Cls K row) (p i : Nat) : (ouR nx ou row p).testBit i = true ↔ outC xs ((row.map Int.toNat).take p) i := h.tells _ ((cls_nat hc).2.take p) i
def wordL (b : Bool) (l : List Rl) : List Rl := l.map fun r => ⟨r.left, r.right, b, r.start⟩
theorem word_left (b : Bool) (l : List Rl) : xsL (wordL b l) = xsL l := by simp [xsL, wordL]
theorem word_right (b : Bool) (l : List Rl) : xsR (wordL b l) = xsR l := by simp [xsR, wordL]
theorem word_len (b : Bool) (l : List Rl) : (wordL b l).length = l.length := by simp [wordL]
theorem word_bit (b : Bool) (l : List Rl) (j : Nat) (hj : j < l.length) : (brkN (wordL b l)).testBit j = b := by
 rw [brkN_bit]
 simp [wordL, hj]
theorem IsBd.no {K : Nat} {l : List Rl} {n : Nat} {row : List Int} {L L' : List Nat} (h : IsBd K (wordL false l) n row L) (h' : IsBd K l n row L') {k : Nat} (hk : k ∈ L) : k ∈ L' := by
 obtain ⟨nxA, ouA, nxB, ouB, rfl, hA, hB⟩ := h
 obtain ⟨nxA', ouA', nxB', ouB', rfl, hA', hB'⟩ := h'
 rw [word_left] at hA
 rw [word_right] at hB
 obtain ⟨rfl, rfl⟩ := least_one hA hA'
 obtain ⟨rfl, rfl⟩ := least_one hB hB'
 obtain ⟨h1, h2, h3⟩ := mem_allB.1 hk
 refine mem_allB.2 ⟨h1, h2, ?_⟩
 unfold isB at h3 ⊢
 rw [word_len] at h3
 simp only [Bool.or_eq_true] at h3 ⊢
 rcases h3 with h3 | h3
 ·exact .inl h3
 ·exact .inr (dc_no _ _ _ (fun j _ hj => word_bit false l j (by omega)) h3)
def restR (b : Bool) : Rl := ⟨nilNd, nilNd, b, false⟩
theorem out_nil {xs : List (Nd × Bool)} {i : Nat} (h : xs[i]? = some (nilNd, false)) (w : List Nat) : outC xs w i := ⟨_, h, w.map Int.ofNat, [], by simp, (fun h => by cases h), (nil_fits []).2 rfl⟩
theorem out_congr {xs ys : List (Nd × Bool)} {i j : Nat} (h : xs[i]? = ys[j]?) (w : List Nat) : outC xs w i ↔ outC ys w j := by unfold outC; rw [h]
theorem bit_congr {K : Nat} {xs ys : List (Nd × Bool)} {nx nx' : List (List Nat)} {ou ou' : List Nat} (h : LeastOf K xs nx ou) (h' : LeastOf K ys nx' ou') {row : List Int} (hc : Cls K row) (p : Nat) {i j : Nat} (he : xs[i]? = ys[j]?) : (ouR nx ou row p).testBit i = (ouR nx' ou' row p).testBit j := by
 rw [Bool.eq_iff_iff, ou_bit h hc, ou_bit h' hc]
 exact out_congr he _
theorem IsBd.first {K : Nat} {l : List Rl} {n : Nat} {row : List Int} {L : List Nat} {b : Bool} (hc : Cls K row) (h : IsBd K (restR b :: l) n row L) {k : Nat} (h0 : 0 < k) (hk : k < n) : decide (k ∈ L) = b := by
 obtain ⟨nxA, ouA, nxB, ouB, rfl, hA, hB⟩ := h
 rw [Bool.eq_iff_iff, decide_eq_true_eq, mem_allB]
 have h1 : isB (brkN (restR b :: l)) (restR b :: l).length n (ouR nxA ouA row) (ouR nxB ouB row.reverse) k = b := by
  unfold isB
  rw [decide_eq_false (by omega), decide_eq_false (by omega), Bool.false_or, Bool.false_or, List.length_cons, dcB, Nat.testBit_and, (ou_bit hA hc k 0).2 (out_nil rfl _), (ou_bit hB (cls_rev hc) (n - k) 0).2 (out_nil rfl _)]
  rw [brkN_bit]
  rfl
 rw [h1]
 exact ⟨fun h => h.2.2, fun h => ⟨by omega, by omega, h⟩⟩
theorem IsBd.last {K : Nat} {l : List Rl} {n : Nat} {row : List Int} {L L' : List Nat} (hc : Cls K row) (h : IsBd K (l ++ [restR true]) n row L) (h' : IsBd K l n row L') : L = L' := by
 obtain ⟨nxA, ouA, nxB, ouB, rfl, hA, hB⟩ := h
 obtain ⟨nxA', ouA', nxB', ouB', rfl, hA', hB'⟩ := h'
 have h1 : ∀ p, isB (brkN (l ++ [restR true])) (l ++ [restR true]).length n (ouR nxA ouA row) (ouR nxB ouB row.reverse) p = isB (brkN l) l.length n (ouR nxA' ouA' row) (ouR nxB' ouB' row.reverse) p := fun p => by
  unfold isB
  congr 1
  rw [List.length_append, List.length_singleton]
  refine dc_snoc _ _ (fun j _ hj => ?_) ?_
  ·have hj' : j < l.length := by omega
   have e1 : (xsL (l ++ [restR true]))[j]? = (xsL l)[j]? := by simp [xsL, List.getElem?_append_left, hj']
   have e2 : (xsR (l ++ [restR true]))[j]? = (xsR l)[j]? := by simp [xsR, List.getElem?_append_left, hj']
   refine ⟨?_, ?_⟩
   ·rw [Nat.testBit_and, Nat.testBit_and, bit_congr hA hA' hc p e1, bit_congr hB hB' (cls_rev hc) (n - p) e2]
   ·rw [brkN_bit, brkN_bit, List.getElem?_append_left hj']
  ·rw [brkN_bit, Nat.zero_add, List.getElem?_append_right (Nat.le_refl _)]
   simp [restR]
 unfold allB bndL
 rw [show (isB (brkN (l ++ [restR true])) (l ++ [restR true]).length n (ouR nxA ouA row) (ouR nxB ouB row.reverse)) = isB (brkN l) l.length n (ouR nxA' ouA' row) (ouR nxB' ouB' row.reverse) from funext h1]
end Go.Proofs.YtclogekfdmikpaaDoor
