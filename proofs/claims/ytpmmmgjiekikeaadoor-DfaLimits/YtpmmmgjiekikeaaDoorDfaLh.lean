/- What DfaLimits asks, without memory: how many states a character and any n behind it take. -/
import Derived.Test.YtpmmmgjiekikeaaDoorDfaLe
namespace Go.Proofs.YtpmmmgjiekikeaaDoor
open Go.RowKit
set_option linter.unusedVariables false
set_option linter.unusedSimpArgs false

def liA : Nd := ⟨1, [0], .nil⟩
def liB : Nd := ⟨1, [0, 1], .nil⟩
def liN (n : Nat) : Nd := ⟨2, [], ofL (liA :: List.replicate n liB)⟩
def liX (n : Nat) : Nd × Bool := (liN n, false)
theorem liA_fits (w : List Int) : liA.fits w ↔ w = [0] := by
  rw [fits_op1 liA rfl]
  constructor
  · rintro ⟨c, hc, rfl⟩
    have : c = 0 := by simpa [liA] using hc
    rw [this]
  · rintro rfl
    exact ⟨0, by simp [liA], rfl⟩
theorem liB_fits (w : List Int) : liB.fits w ↔ w = [0] ∨ w = [1] := by
  rw [fits_op1 liB rfl]
  constructor
  · rintro ⟨c, hc, rfl⟩
    have : c = 0 ∨ c = 1 := by simpa [liB] using hc
    rcases this with rfl | rfl
    · exact .inl rfl
    · exact .inr rfl
  · rintro (rfl | rfl)
    · exact ⟨0, by simp [liB], rfl⟩
    · exact ⟨1, by simp [liB], rfl⟩
theorem liB_seq : (n : Nat) → (w : List Int) → (seqL ((List.replicate n liB).map Nd.fits) w ↔ w.length = n ∧ ∀ c, c ∈ w → c = 0 ∨ c = 1)
  | 0, w => by
    simp only [List.replicate_zero, List.map_nil, seqL]
    constructor
    · rintro rfl; simp
    · rintro ⟨h, _⟩; exact List.length_eq_zero_iff.1 h
  | n + 1, w => by
    simp only [List.replicate_succ, List.map_cons, seqL]
    constructor
    · rintro ⟨u, v, rfl, h1, h2⟩
      obtain ⟨h3, h4⟩ := (liB_seq n v).1 h2
      rcases (liB_fits u).1 h1 with rfl | rfl
      · exact ⟨by simp [h3], fun c hc => by
          rcases List.mem_append.1 hc with hc | hc
          · exact .inl (by simpa using hc)
          · exact h4 c hc⟩
      · exact ⟨by simp [h3], fun c hc => by
          rcases List.mem_append.1 hc with hc | hc
          · exact .inr (by simpa using hc)
          · exact h4 c hc⟩
    · rintro ⟨h1, h2⟩
      cases w with
      | nil => simp at h1
      | cons c w =>
        refine ⟨[c], w, rfl, (liB_fits _).2 ?_, (liB_seq n w).2 ⟨by simpa using h1, fun d hd => h2 d (List.mem_cons_of_mem _ hd)⟩⟩
        rcases h2 c List.mem_cons_self with rfl | rfl
        · exact .inl rfl
        · exact .inr rfl
theorem liN_fits (n : Nat) (w : List Int) : (liN n).fits w ↔ ∃ v, w = 0 :: v ∧ v.length = n ∧ ∀ c, c ∈ v → c = 0 ∨ c = 1 := by
  unfold liN
  rw [fits_seq]
  simp only [List.map_cons, seqL]
  constructor
  · rintro ⟨u, v, rfl, h1, h2⟩
    rw [(liA_fits u).1 h1]
    exact ⟨v, rfl, (liB_seq n v).1 h2⟩
  · rintro ⟨v, rfl, h⟩
    exact ⟨[0], v, rfl, (liA_fits _).2 rfl, (liB_seq n v).2 h⟩
/-- Of classes that there are it fits where the class so far back is the first one. -/
theorem li_out (n : Nat) (w : List Nat) (hw : Wd 2 w) : outC [liX n] w 0 ↔ ∃ u v : List Nat, w = u ++ 0 :: v ∧ v.length = n := by
  rw [outC_get (x := liX n) rfl]
  constructor
  · rintro ⟨u, v, h1, _, h2⟩
    obtain ⟨t, rfl, ht, _⟩ := (liN_fits n v).1 h2
    obtain ⟨a, b, rfl, ha, hb⟩ := List.map_eq_append_iff.1 h1
    obtain ⟨c, d, rfl, hc, hd⟩ := List.map_eq_cons_iff.1 hb
    refine ⟨a, d, ?_, ?_⟩
    · have : c = 0 := by
        have : ((c : Nat) : Int) = 0 := hc
        omega
      rw [this]
    · rw [← hd] at ht; simpa using ht
  · rintro ⟨u, v, rfl, hv⟩
    refine ⟨u.map Int.ofNat, (0 :: v).map Int.ofNat, by simp, fun h => (by cases h), (liN_fits n _).2 ⟨v.map Int.ofNat, rfl, by simpa using hv, fun c hc => ?_⟩⟩
    obtain ⟨d, hd, rfl⟩ := List.mem_map.1 hc
    have := hw d (List.mem_append.2 (.inr (List.mem_cons_of_mem _ hd)))
    have hd2 : d = 0 ∨ d = 1 := by omega
    rcases hd2 with rfl | rfl
    · exact .inl rfl
    · exact .inr rfl
theorem cut_at {W : List Nat} {p : Nat} (h : W[p]? = some 0) : W = W.take p ++ 0 :: W.drop (p + 1) := by
  obtain ⟨hlt, hget⟩ := List.getElem?_eq_some_iff.1 h
  have h1 := List.take_append_drop p W
  rw [List.drop_eq_getElem_cons hlt, hget] at h1
  exact h1.symm
/-- The bits of a number as classes. -/
def biW (n k : Nat) : List Nat := (List.range (n + 1)).map fun p => if k.testBit p = true then 1 else 0
theorem biW_wd (n k : Nat) : Wd 2 (biW n k) := by
  intro c hc
  obtain ⟨p, _, rfl⟩ := List.mem_map.1 hc
  split <;> omega
theorem biW_out (n k p : Nat) (hp : p ≤ n) : outC [liX n] (biW n k ++ List.replicate p 0) 0 ↔ k.testBit p = false := by
  have hwd : Wd 2 (biW n k ++ List.replicate p 0) := fun c hc => by
    rcases List.mem_append.1 hc with hc | hc
    · exact biW_wd n k c hc
    · rw [(List.mem_replicate.1 hc).2]; omega
  rw [li_out n _ hwd]
  have hl : (biW n k).length = n + 1 := by simp [biW]
  have hat : (biW n k ++ List.replicate p 0)[p]? = some (if k.testBit p = true then 1 else 0) := by
    rw [List.getElem?_append_left (by omega)]
    simp [biW, List.getElem?_range, show p < n + 1 by omega]
  constructor
  · rintro ⟨u, v, he, hv⟩
    have hlen := congrArg List.length he
    simp only [List.length_append, List.length_replicate, List.length_cons, hl] at hlen
    have hu : u.length = p := by omega
    rw [he, List.getElem?_append_right (by omega), hu, Nat.sub_self] at hat
    simp at hat
    cases h : k.testBit p with
    | false => rfl
    | true => rw [h] at hat; simp at hat
  · intro h
    rw [h] at hat
    simp at hat
    exact ⟨_, _, cut_at (by simpa using hat), by simp [hl]; omega⟩
/-- There are at least so many. -/
theorem li_low {n : Nat} {nx : List (List Nat)} {ou : List Nat} (h : LeastOf 2 [liX n] nx ou) : 2 ^ (n + 1) ≤ nx.length := by
  have l0 := asMet_pos h.asMet
  have := pair_few (L := List.range (2 ^ (n + 1))) (R := fun a b => a ≠ b) (fun k => runM nx 0 (biW n k)) nx.length (fun k _ => runM_lt h.asMet l0 _ 0 l0) (fun a b ha hb hne e => hne ?_) List.nodup_range
  · simpa using this
  · have ha' := List.mem_range.1 ha
    have hb' := List.mem_range.1 hb
    apply Nat.eq_of_testBit_eq
    intro p
    rcases Nat.lt_or_ge p (n + 1) with hp | hp
    · have e' : runM nx 0 (biW n a) = runM nx 0 (biW n b) := e
      have hz : ∀ k, Wd 2 (biW n k ++ List.replicate p 0) := fun k c hc => by
        rcases List.mem_append.1 hc with hc | hc
        · exact biW_wd n k c hc
        · rw [(List.mem_replicate.1 hc).2]; omega
      have g1 := h.tells _ (hz a) 0
      have g2 := h.tells _ (hz b) 0
      rw [runM_app, e', ← runM_app] at g1
      have g3 : outC [liX n] (biW n a ++ List.replicate p 0) 0 ↔ outC [liX n] (biW n b ++ List.replicate p 0) 0 := g1.symm.trans g2
      rw [biW_out n a p (by omega), biW_out n b p (by omega)] at g3
      cases h1 : a.testBit p <;> cases h2 : b.testBit p <;> simp [h1, h2] at g3 ⊢
    · rw [Nat.testBit_lt_two_pow (Nat.lt_of_lt_of_le ha' (Nat.pow_le_pow_right (by decide) hp)), Nat.testBit_lt_two_pow (Nat.lt_of_lt_of_le hb' (Nat.pow_le_pow_right (by decide) hp))]
/-- All that is met of one. -/
def liL (n : Nat) : List (Nat × Bool) := (List.range (2 ^ (n + 1))).map fun k => (k / 2 * 2 + 1, k % 2 == 1)
def liOk (n : Nat) : Bool := (liL n).contains (fiO (liX n)) && (liL n).all fun y => (liL n).contains (stO (liX n) y 0) && (liL n).contains (stO (liX n) y 1)
theorem li_all : (List.range 8).all liOk = true := by decide +kernel
theorem li_rch {n : Nat} (hn : n ≤ 7) : ∀ y, Rch 2 (stO (liX n)) (fiO (liX n)) y → y ∈ liL n := by
  have h := List.all_eq_true.1 li_all n (List.mem_range.2 (by omega))
  simp only [liOk, Bool.and_eq_true, List.contains_iff_mem, List.all_eq_true] at h
  refine rch_in h.1 fun y hy c hc => ?_
  have hc2 : c = 0 ∨ c = 1 := by omega
  rcases hc2 with rfl | rfl
  · exact (h.2 y hy).1
  · exact (h.2 y hy).2
theorem liL_len (n : Nat) : (liL n).length = 2 ^ (n + 1) := by simp [liL]
theorem li_small {n : Nat} (hn : n ≤ 7) : ¬ TooBig 2 [liX n] :=
  small_one (li_rch hn) (by rw [liL_len]; exact Nat.le_trans (Nat.pow_le_pow_right (by decide) (by omega : n + 1 ≤ 8)) (by decide))
theorem li_oks : (List.range 12).all (fun n => alwB 2 [liX n]) = true := by decide +kernel
theorem li_alw {n : Nat} (hn : n ≤ 11) : alwB 2 [liX n] = true := List.all_eq_true.1 li_oks n (List.mem_range.2 (by omega))
/-- A state is told by what is met. -/
theorem li_up {n : Nat} (hn : n ≤ 7) {nx : List (List Nat)} {ou : List Nat} (h : LeastOf 2 [liX n] nx ou) : nx.length ≤ 2 ^ (n + 1) := by
  have l0 := asMet_pos h.asMet
  have hr : (liN n).right := (Nd.ok_right ((alw_one (x := liN n) (b := false)).1 (li_alw (by omega))).2.2.1).1
  have hspot : ∀ w : List Nat, w.foldl (stO (liX n)) (fiO (liX n)) = (liN n).spot false (w.map Int.ofNat) := fun w => by
    unfold Nd.spot
    rw [List.foldl_map]
    rfl
  have hout : ∀ w : List Nat, (w.foldl (stO (liX n)) (fiO (liX n))).2 = true ↔ outC [liX n] w 0 := fun w => by
    rw [hspot, spot_fits (liN n) hr, outC_get (x := liX n) rfl]
    rfl
  obtain ⟨M, m1, m2, m3⟩ := pair_words (L := List.range nx.length) (P := fun w i => Wd 2 w ∧ runM nx 0 w = i) (R := fun u v => u.foldl (stO (liX n)) (fiO (liX n)) ≠ v.foldl (stO (liX n)) (fiO (liX n))) List.nodup_range (fun i hi => table_met h.asMet h.wide i (List.mem_range.1 hi)) (fun i j u v hne hu hv e => hne (by
    rw [← hu.2, ← hv.2]
    refine h.apart _ _ (runM_lt h.asMet l0 u 0 l0) (runM_lt h.asMet l0 v 0 l0) fun t ht => ?_
    rw [← runM_app, ← runM_app]
    have hut : Wd 2 (u ++ t) := fun c hc => (List.mem_append.1 hc).elim (hu.1 c) (ht c)
    have hvt : Wd 2 (v ++ t) := fun c hc => (List.mem_append.1 hc).elim (hv.1 c) (ht c)
    apply Nat.eq_of_testBit_eq
    intro i
    rw [Bool.eq_iff_iff]
    refine (h.tells _ hut i).trans (Iff.trans ?_ (h.tells _ hvt i).symm)
    show outC [liX n] (u ++ t) i ↔ outC [liX n] (v ++ t) i
    cases i with
    | zero => rw [← hout, ← hout, List.foldl_append, List.foldl_append, e]
    | succ i => exact ⟨fun g => by have := outC_lt g; simp at this, fun g => by have := outC_lt g; simp at this⟩))
  have hnd : (M.map fun w => w.foldl (stO (liX n)) (fiO (liX n))).Nodup := by
    unfold List.Nodup
    rw [List.pairwise_map]
    exact m3
  have hsub := List.Nodup.length_le_of_subset hnd (fun y hy => by
    obtain ⟨w, hw, rfl⟩ := List.mem_map.1 hy
    obtain ⟨i, _, hw2, _⟩ := m2 w hw
    exact li_rch hn _ ⟨w, hw2, rfl⟩)
  rw [liL_len, List.length_map, m1] at hsub
  simpa using hsub
end Go.Proofs.YtpmmmgjiekikeaaDoor
