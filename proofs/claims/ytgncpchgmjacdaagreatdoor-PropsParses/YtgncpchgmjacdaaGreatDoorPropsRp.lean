/- The walk of the reference's Parse: the ranges of a text, or the first wrong line and what is wrong with it. -/
import Derived.Test.YtgncpchgmjacdaaGreatDoorPropsRn
import Derived.Test.YtgncpchgmjacdaaGreatDoorPropsJ
import Derived.Test.YtgncpchgmjacdaaGreatDoorBasR
namespace Go.Proofs.YtgncpchgmjacdaaGreatDoor
open Go.RowKit
set_option linter.unusedVariables false

theorem stp_nil (out : List Rg) (l : List Int) (h : trm (noNote l) = []) : stepOf out l = none := by unfold stepOf; rw [if_pos h]
theorem stp_form (out : List Rg) (l : List Int) (h : trm (noNote l) ≠ []) (h1 : oneOf (trm (noNote l)) = none) : stepOf out l = some (.inl 2) := by unfold stepOf; rw [if_neg h, h1]
theorem stp_range (out : List Rg) (l : List Int) (x : Rg) (h : trm (noNote l) ≠ []) (h1 : oneOf (trm (noNote l)) = some x) (h2 : 1114111 < x.1 ∨ 1114111 < x.2.1 ∨ x.2.1 < x.1) : stepOf out l = some (.inl 3) := by
  unfold stepOf; rw [if_neg h, h1]; simp only []; rw [if_pos h2]
theorem stp_state (out : List Rg) (l : List Int) (x : Rg) (h : trm (noNote l) ≠ []) (h1 : oneOf (trm (noNote l)) = some x) (h2 : ¬ (1114111 < x.1 ∨ 1114111 < x.2.1 ∨ x.2.1 < x.1)) (h3 : out.any (meets x) = true) : stepOf out l = some (.inl 6) := by
  unfold stepOf; rw [if_neg h, h1]; simp only []; rw [if_neg h2, if_pos h3]
theorem stp_large (out : List Rg) (l : List Int) (x : Rg) (h : trm (noNote l) ≠ []) (h1 : oneOf (trm (noNote l)) = some x) (h2 : ¬ (1114111 < x.1 ∨ 1114111 < x.2.1 ∨ x.2.1 < x.1)) (h3 : out.any (meets x) = false) (h4 : 2000 ≤ out.length) : stepOf out l = some (.inl 4) := by
  unfold stepOf; rw [if_neg h, h1]; simp only []; rw [if_neg h2, h3, if_neg (by decide), if_pos h4]
theorem stp_in (out : List Rg) (l : List Int) (x : Rg) (h : trm (noNote l) ≠ []) (h1 : oneOf (trm (noNote l)) = some x) (h2 : ¬ (1114111 < x.1 ∨ 1114111 < x.2.1 ∨ x.2.1 < x.1)) (h3 : out.any (meets x) = false) (h4 : ¬ 2000 ≤ out.length) : stepOf out l = some (.inr x) := by
  unfold stepOf; rw [if_neg h, h1]; simp only []; rw [if_neg h2, h3, if_neg (by decide), if_neg h4]
/-- What the ranges so far are like. -/
def FineR (out : List Rg) : Prop := Asc out ∧ out.length ≤ 2000 ∧ ∀ r ∈ out, nmOk r.2.2 = true ∧ reR r = true
theorem parseL_step (bs : List Int) (k : Nat) (out : List Rg) (L : List (List Int)) (hk : k < L.length) (h : parseT bs = parseL k out (L.drop k)) :
    (stepOf out (L.getD k []) = none → parseT bs = parseL (k + 1) out (L.drop (k + 1))) ∧ (∀ e, stepOf out (L.getD k []) = some (.inl e) → parseT bs = .inr (k + 1, e)) ∧
      ∀ x, stepOf out (L.getD k []) = some (.inr x) → parseT bs = parseL (k + 1) (ins x out) (L.drop (k + 1)) := by
  have e : L.drop k = L.getD k [] :: L.drop (k + 1) := by rw [List.drop_eq_getElem_cons hk]; simp [hk]
  rw [e] at h
  refine ⟨fun h1 => ?_, fun en h1 => ?_, fun x h1 => ?_⟩
  · rw [h, parseL, h1]
  · rw [h, parseL, h1]
  · rw [h, parseL, h1]
/-- How far the inner loop has come: where the new range belongs among those looked at. -/
def PlAt (out : List Rg) (x : Rg) (at_ k : Nat) : Prop := at_ ≤ k ∧ (∀ j, j < k → meets x (out.getD j (0, 0, [])) = false) ∧ (∀ j, j < at_ → (out.getD j (0, 0, [])).1 < x.1) ∧ ∀ j, at_ ≤ j → j < k → ¬ (out.getD j (0, 0, [])).1 < x.1
theorem plAt_lo (out : List Rg) (x : Rg) (at_ k : Nat) (h : PlAt out x at_ k) (ha : Asc out) (hk : k < out.length) (hm : meets x (out.getD k (0, 0, [])) = false) (hl : (out.getD k (0, 0, [])).1 < x.1) : PlAt out x (k + 1) (k + 1) := by
  refine ⟨by omega, fun j hj => ?_, fun j hj => ?_, fun j h1 h2 => by omega⟩
  · rcases Nat.lt_or_ge j k with h1 | h1
    · exact h.2.1 j h1
    · rw [show j = k by omega]; exact hm
  · rcases Nat.lt_or_ge j k with h1 | h1
    · have := asc_lt out ha j k h1 hk
      have := asc_at out ha j (by omega)
      omega
    · rw [show j = k by omega]; exact hl
theorem plAt_on (out : List Rg) (x : Rg) (at_ k : Nat) (h : PlAt out x at_ k) (hm : meets x (out.getD k (0, 0, [])) = false) (hl : ¬ (out.getD k (0, 0, [])).1 < x.1) : PlAt out x at_ (k + 1) := by
  refine ⟨by have := h.1; omega, fun j hj => ?_, h.2.2.1, fun j h1 h2 => ?_⟩
  · rcases Nat.lt_or_ge j k with h1 | h1
    · exact h.2.1 j h1
    · rw [show j = k by omega]; exact hm
  · rcases Nat.lt_or_ge j k with h3 | h3
    · exact h.2.2.2 j h1 h3
    · rw [show j = k by omega]; exact hl
theorem plAt_end (out : List Rg) (x : Rg) (at_ : Nat) (h : PlAt out x at_ out.length) : out.any (meets x) = false ∧ out.take at_ ++ x :: out.drop at_ = ins x out := by
  constructor
  · rw [List.any_eq_false]
    intro y hy
    obtain ⟨j, hj, rfl⟩ := List.mem_iff_getElem.1 hy
    have := h.2.1 j hj
    simpa [hj] using this
  · refine ins_at x out at_ h.1 (fun y hy => ?_) (fun y hy => ?_)
    · obtain ⟨j, hj, rfl⟩ := List.mem_iff_getElem.1 hy
      have hj' : j < at_ := by simp at hj; omega
      have := h.2.2.1 j hj'
      rw [List.getElem_take]
      simpa [show j < out.length by simp at hj; omega] using this
    · obtain ⟨j, hj, rfl⟩ := List.mem_iff_getElem.1 hy
      have hj' : at_ + j < out.length := by simp at hj; omega
      have := h.2.2.2 (at_ + j) (by omega) hj'
      rw [List.getElem_drop]
      simpa [hj'] using this
theorem plAt_bad (out : List Rg) (x : Rg) (k : Nat) (hk : k < out.length) (hm : meets x (out.getD k (0, 0, [])) = true) : out.any (meets x) = true := by
  rw [List.any_eq_true]
  exact ⟨out.getD k (0, 0, []), by simp [hk], hm⟩
theorem flatR_two (out : List Rg) (q : Nat) : flatR out = flatR (out.take q) ++ flatR (out.drop q) := by rw [← flatR_app, List.take_append_drop]
theorem flatR_cell1 (rs : List Rg) : ∀ v ∈ flatR rs, v.oneCell' = true := by
  intro v hv
  unfold flatR at hv
  obtain ⟨x, _, hx⟩ := List.mem_flatMap.1 hv
  simp [encR] at hx
  rcases hx with rfl | rfl | rfl <;> rfl
theorem flatR_lit (x1 x2 : Int) (x3 : List Int) : flatR [(x1, x2, x3)] = [.int .i32 x1, .int .i32 x2, .string (strOfNums x3)] := rfl
/-- Both parts of a row that is cut are sources, in whatever world lies above. -/
theorem cutR_srcs {w : World} {B n c q : Nat} {a : Option Addr} {out : List Rg} (h : w.ownsRow B 39 3 (.slice a n c) n (flatR out)) (hq : q ≤ n) :
    (∀ W : World, (Instr.slice 23 (.slice a n c) none (some (.int .i64 q)) none).run Tryz.prog W = .ok (.slice a q c) W) ∧
    ∃ a2 c2, (∀ W : World, (Instr.slice 23 (.slice a n c) (some (.int .i64 q)) none none).run Tryz.prog W = .ok (.slice a2 (n - q) c2) W) ∧
      ∀ W, Below w.heap.size w W → SrcAt W a q c 3 (flatR (out.take q)) ∧ SrcAt W a2 (n - q) c2 3 (flatR (out.drop q)) := by
  have hl : out.length = n := by have := h.1; rw [flatR_len] at this; omega
  have l1 : (flatR (out.take q)).length = q * 3 := by rw [flatR_len, List.length_take]; omega
  have l2 : (flatR (out.drop q)).length = (n - q) * 3 := by rw [flatR_len, List.length_drop]; omega
  rcases h.2 with ⟨hv, hn⟩ | ⟨g, cap, cur, hv, hb, hg, hn, hm, hs, ht⟩
  · cases hv
    obtain rfl : q = 0 := by omega
    refine ⟨fun W => cutR_to none 0 0 0 (by omega) W, none, 0, fun W => ?_, fun W _ => ⟨⟨l1, fun _ => ⟨rfl, rfl⟩, (fun a ha => by cases ha), flatR_cell1 _⟩, ⟨l2, fun _ => ⟨rfl, rfl⟩, (fun a ha => by cases ha), flatR_cell1 _⟩⟩⟩
    go_simp
  · cases hv
    refine ⟨fun W => cutR_to _ n c q (by omega) W, _, _, fun W => cutR_from g 0 n c q hq hn W, fun W hW => ?_⟩
    have cell : ∀ i u, (flatR out)[i]? = some u → W.cell? ⟨g, i, none⟩ = some u := by
      intro i u hu
      have hW2 := hW.cell (p := ⟨g, i, none⟩) (Array.getElem?_eq_some_iff.1 hg).1
      rw [hW2, cell_of_row w g i _ _ _ hg]
      rw [← ht, List.getElem?_take] at hu
      split at hu
      · simpa using hu
      · cases hu
    refine ⟨⟨l1, (fun h => by cases h), fun a ha i u hu => ?_, flatR_cell1 _⟩, ⟨l2, (fun h => by cases h), fun a ha i u hu => ?_, flatR_cell1 _⟩⟩
    · cases ha
      rw [add_lit, Nat.zero_add]
      refine cell i u ?_
      rw [flatR_two out q, List.getElem?_append_left (by
        rcases Nat.lt_or_ge i (flatR (out.take q)).length with h | h
        · exact h
        · rw [List.getElem?_eq_none h] at hu; cases hu)]
      exact hu
    · cases ha
      have hi : i < (n - q) * 3 := by
        rcases Nat.lt_or_ge i (flatR (out.drop q)).length with h | h
        · omega
        · rw [List.getElem?_eq_none h] at hu; cases hu
      rw [add_lit, if_neg (by omega)]
      refine cell _ u ?_
      rw [flatR_two out q, List.getElem?_append_right (by omega), l1]
      rw [← hu]
      congr 1
      omega
theorem len_snip (out : List Rg) (x : Rg) (q : Nat) (h : q ≤ out.length) : (out.take q ++ x :: out.drop q).length = out.length + 1 := by simp; omega
theorem one_name (s : List Int) (x : Rg) (h : oneOf s = some x) : nmOk x.2.2 = true := by
  unfold oneOf at h
  split at h
  · cases h
  · split at h
    · cases h
    · split at h
      · cases h
      · rename_i nm hc
        cases h
        unfold clsOf at hc
        split at hc
        · cases hc
        · split at hc
          · rename_i hh
            cases hc
            exact hh.2
          · cases hc
theorem step_fine (out : List Rg) (l : List Int) (x : Rg) (h : stepOf out l = some (.inr x)) : nmOk x.2.2 = true ∧ reR x = true := by
  unfold stepOf at h
  split at h
  · cases h
  · split at h
    · cases h
    · rename_i y hy
      split at h
      · cases h
      · split at h
        · cases h
        · split at h
          · cases h
          · cases h
            have h3 := one_rng _ _ hy
            refine ⟨one_name _ _ hy, ?_⟩
            unfold reR
            simp
            omega
theorem lit_row (w : World) (x1 x2 : Int) (x3 : List Int) (sx : ByteArray) (h : sx = strOfNums x3) : (w.alloc (.cells #[.int .i32 x1, .int .i32 x2, .string sx] 39)).ownsRow w.heap.size 39 3 (.slice (some ⟨w.heap.size, 0, none⟩) 1 1) 1 (flatR [(x1, x2, x3)]) := by
  refine ⟨rfl, .inr ⟨w.heap.size, 1, _, rfl, Nat.le_refl _, heap_alloc_new w _, by omega, by unfold maxLen; omega, rfl, ?_⟩⟩
  rw [h]; rfl
theorem rp_end (W0 W wr w w1 : World) (b1 q j : Nat) (v : Value) (out : List Rg) (x : Rg) (hb1 : b1 = wr.heap.size + 1) (h0 : Below wr.heap.size wr W0) (hW : Below b1 W0 W) (hw : w.heap.size ≤ wr.heap.size) (hB : Below w1.heap.size w1 wr) (hq : q ≤ j) (hj : j = out.length)
    (hins : out.take q ++ x :: out.drop q = ins x out) (h : W.ownsRow b1 39 3 v (q + 1 + (j - q)) (flatR (out.take q) ++ flatR [x] ++ flatR (out.drop q))) :
    W.ownsRow w.heap.size 39 3 v (ins x out).length (flatR (ins x out)) ∧ Below w1.heap.size w1 W := by
  constructor
  · rw [← hins, len_snip out x q (by omega), flatR_app]
    have e : flatR (x :: out.drop q) = flatR [x] ++ flatR (out.drop q) := by rw [← flatR_app]; rfl
    rw [e, ← List.append_assoc, ← hj, show j + 1 = q + 1 + (j - q) by omega]
    exact own_base h (by omega)
  · exact hB.trans ((h0.mono hB.size).trans (hW.mono (by have := hB.size; omega)))
theorem fine_ins (out : List Rg) (x : Rg) (l : List Int) (h : FineR out) (hs : stepOf out l = some (.inr x)) : FineR (ins x out) := by
  have h1 := step_ins out l x h.1 hs
  refine ⟨h1.1, h1.2, fun r hr => ?_⟩
  rcases (mem_ins x r out).1 hr with rfl | hr
  · exact step_fine out l r hs
  · exact h.2.2 r hr
/-- What the reference's Parse leaves. -/
def RfPost (bs : List Int) (w : World) (e : Ending) (w' : World) : Prop :=
  Below w.heap.size w w' ∧ ((∃ out v, parseT bs = .inl out ∧ e = .returned (.tuple #[v, .int .i64 0, .int .i64 0]) ∧ w'.ownsRow w.heap.size 39 3 v out.length (flatR out)) ∨
    ∃ (ln : Nat) (en : Int), parseT bs = .inr (ln, en) ∧ e = .returned (.tuple #[.slice none 0 0, .int .i64 ln, .int .i64 en]))

set_option maxRecDepth 20000 in
set_option maxHeartbeats 8000000 in
theorem parseRef_any (bs : List Int) (w : World) (hr : ∀ y ∈ bs, 0 ≤ y ∧ y ≤ 255) (hm : bs.length ≤ 4000000000) :
    Calls Tryz.prog 15 #[.string (strOfNums bs)] w (RfPost bs w) := by
  have HR : Hid (∀ y ∈ bs, 0 ≤ y ∧ y ≤ 255) := hr
  have HM : Hid (bs.length ≤ 4000000000) := hm
  obtain ⟨L, hL⟩ : ∃ L, L = linesOf bs := ⟨_, rfl⟩
  have HLR : Hid (∀ s ∈ L, (∀ y ∈ s, 0 ≤ y ∧ y ≤ 255) ∧ s.length ≤ 4000000000) := by
    intro s hs
    have := lnAt_rng bs hr s (by rw [← hL]; exact hs)
    exact ⟨this.1, by omega⟩
  have HLC : Hid (L.length ≤ 4000000000) := by show L.length ≤ _; rw [hL]; have := ln_count bs; omega
  have HLI : Hid (∀ W : World, Calls Tryz.prog 42 #[.string (strOfNums bs)] W fun e w' => Below W.heap.size W w' ∧ ∃ v, e = .returned v ∧ w'.ownsRow W.heap.size 9 1 v L.length (flatN L)) := by
    intro W; rw [hL]; exact linesR_any bs W hr hm
  have HPT : Hid (parseT bs = parseL 0 [] (L.drop 0)) := by show _ = _; rw [hL]; rfl
  obtain ⟨s, hs⟩ : ∃ s, s = strOfNums bs := ⟨_, rfl⟩
  rw [← hs] at HLI ⊢
  obtain ⟨i0, hi, hz0, hz1, hz2⟩ := info_parts info_R
  have HI : Hid (Tryz.prog.info? 39 = some i0 ∧ i0.zero = some (.agg #[.int .i32 0, .int .i32 0, .string ⟨#[]⟩]) ∧ i0.size = 3 ∧ i0.bytes = 24) := ⟨hi, hz0, hz1, hz2⟩
  clear hi hz0 hz1 hz2 hr hm hL hs
  go_enter Tryz.func15, Tryz.ntmps15
  go_wp2_with fail
  refine (HLI.out w).mono ?_
  rintro e w1 ⟨hb1, v, rfl, hown⟩
  obtain ⟨aL, capL, rfl, hq1, hq2, hrl⟩ := own_rdS hown
  have HRL : Hid (RdS w1 aL L.length L) := hrl
  have HB1 : Hid (Below w.heap.size w w1) := hb1
  obtain ⟨n, hn⟩ : ∃ n, n = L.length := ⟨_, rfl⟩
  have HN : Hid (n = L.length) := hn
  have hmi : (n : Int) ≤ 4000000000 := by have := HLC.out; omega
  rw [← hn] at HRL ⊢
  clear hb1 hown hrl hn hq1 hq2
  go_wp2
  go_loopw [5, 7] (fun x5 x7 wr => ∃ (k : Nat) (out : List Rg), k ≤ n ∧ x7 = .int .i64 k ∧ FineR out ∧ parseT bs = parseL k out (L.drop k) ∧ wr.ownsRow w.heap.size 39 3 x5 out.length (flatR out) ∧ Below w1.heap.size w1 wr) (fun _ x7 _ => n - (intOf x7).toNat)
  case atStart => exact ⟨0, [], by omega, rfl, ⟨trivial, by simp, fun r hr => by simp at hr⟩, HPT.out, World.ownsRow_nil _ _ _ _, Below.refl _ _⟩
  case round =>
    obtain ⟨k, out, hk, hx7, hfine, hpt, hown, hbel⟩ := hrel
    subst hx7
    have HF : Hid (FineR out) := hfine
    have HP : Hid (parseT bs = parseL k out (L.drop k)) := hpt
    have HB : Hid (Below w1.heap.size w1 wr) := hbel
    have HBW : Hid (Below w.heap.size w wr) := HB1.out.trans (hbel.mono HB1.out.size)
    obtain ⟨ao, capo, rfl, hoc, hocm, hro⟩ := own_rdR hown
    have HO : Hid (wr.ownsRow w.heap.size 39 3 (.slice ao out.length capo) out.length (flatR out)) := hown
    have HRO : Hid (RdR wr ao out.length out) := hro
    have HOLI : Hid ((out.length : Int) ≤ 2000) := by have := hfine.2.1; show (out.length : Int) ≤ 2000; omega
    have HOC : Hid (out.length ≤ capo) := hoc
    clear hfine hpt hbel hown hro hoc hocm
    by_cases hlt : k < n
    · obtain ⟨bl, offl, rfl, hcl⟩ := (HRL.out.later HB.out).2 (by omega)
      have hcc := hcl k hlt
      have hkL : k < L.length := by rw [← HN.out]; exact hlt
      obtain ⟨l, hl⟩ : ∃ l, l = L.getD k [] := ⟨_, rfl⟩
      rw [← hl] at hcc
      have hlr := HLR.out l (by rw [hl]; simp [hkL])
      obtain ⟨p0, p1, p2⟩ := parseL_step bs k out L hkL HP.out
      rw [← hl] at p0 p1 p2
      have HP0 : Hid (stepOf out l = none → parseT bs = parseL (k + 1) out (L.drop (k + 1))) := p0
      have HP1 : Hid (∀ e, stepOf out l = some (.inl e) → parseT bs = .inr (k + 1, e)) := p1
      have HP2 : Hid (∀ x, stepOf out l = some (.inr x) → parseT bs = parseL (k + 1) (ins x out) (L.drop (k + 1))) := p2
      obtain ⟨sl, hsl⟩ : ∃ sl, sl = strOfNums l := ⟨_, rfl⟩
      obtain ⟨t, ht⟩ : ∃ t, t = trm (noNote l) := ⟨_, rfl⟩
      obtain ⟨st, hst⟩ : ∃ st, st = strOfNums t := ⟨_, rfl⟩
      have HCUT : Hid (Calls Tryz.prog 43 #[.string sl] wr fun e w' => e = .returned (.string st) ∧ w' = wr) := by rw [hsl, hst, ht]; exact cutR_any l wr hlr.1 (by have := hlr.2; omega)
      have HT : Hid (t = trm (noNote l)) := ht
      have htr : (∀ y ∈ t, 0 ≤ y ∧ y ≤ 255) ∧ t.length ≤ 4000000000 := by
        have h1 : ∀ y ∈ noNote l, 0 ≤ y ∧ y ≤ 255 := fun y hy => hlr.1 y ((List.takeWhile_sublist _).subset hy)
        have h2 : (noNote l).length ≤ l.length := (List.takeWhile_sublist _).length_le
        have h3 := trm_rng (noNote l) h1
        rw [ht]
        exact ⟨h3.1, by have := h3.2; have := hlr.2; omega⟩
      rw [← hsl] at hcc
      clear hcl hl hlr p0 p1 p2 hsl ht
      by_cases hte : t = []
      · have hemp : st.toList.isEmpty = true := by rw [hst, hte]; exact str_none
        have HNX : Hid (parseT bs = parseL (k + 1) out (L.drop (k + 1))) := HP0.out (stp_nil out l (by rw [← HT.out]; exact hte))
        clear htr hst hte
        go_wp2_with (first | (go_at_call 43; refine HCUT.out.mono ?_; rintro e w' ⟨rfl, hw'⟩; obtain rfl : wr = w' := hw'.symm))
        go_roundw
        case rel => exact ⟨k + 1, out, by omega, by go_num, HF.out, HNX.out, HO.out, HB.out⟩
        case measure => simp [intOf]; omega
      · have hlen : 1 ≤ t.length := by cases t with
          | nil => exact absurd rfl hte
          | cons _ _ => simp
        have hemp : st.toList.isEmpty = false := by rw [hst]; exact str_some t hlen
        have HTE : Hid (trm (noNote l) ≠ []) := by rw [← HT.out]; exact hte
        have HONE : Hid (Calls Tryz.prog 44 #[.string st] wr (OnPost t wr)) := by rw [hst]; exact oneR_any t wr htr.1 htr.2
        clear hlen htr hst hte
        go_wp2_with (first | (go_at_call 43; refine HCUT.out.mono ?_; rintro e w' ⟨rfl, hw'⟩; obtain rfl : wr = w' := hw'.symm))
        refine HONE.out.mono ?_
        rintro e w' ⟨hw', a, b, nm, ok, rfl, hy1, hy2, ⟨ha0, ha1⟩, ⟨hb0, hb1⟩, hnmr⟩
        obtain rfl : wr = w' := hw'.symm
        cases ok with
        | false =>
          have HER : Hid (parseT bs = .inr (k + 1, 2)) := HP1.out 2 (stp_form out l HTE.out (by rw [← HT.out]; exact hy2 rfl))
          clear hy1 hy2 hnmr
          go_wp2
          go_ret3
          exact ⟨HBW.out, .inr ⟨k + 1, 2, HER.out, by go_num⟩⟩
        | true =>
          have HX : Hid (oneOf (trm (noNote l)) = some (a, b, nm)) := by rw [← HT.out]; exact hy1 rfl
          have HNR : Hid (∀ y ∈ nm, 0 ≤ y ∧ y ≤ 255) := hnmr
          clear hy1 hy2 hnmr
          by_cases hbad : 1114111 < a ∨ 1114111 < b ∨ b < a
          · have HER : Hid (parseT bs = .inr (k + 1, 3)) := HP1.out 3 (stp_range out l (a, b, nm) HTE.out HX.out hbad)
            by_cases g1 : 1114111 < a
            · clear hbad
              go_wp2
              go_ret3
              exact ⟨HBW.out, .inr ⟨k + 1, 3, HER.out, by go_num⟩⟩
            · by_cases g2 : 1114111 < b
              · clear hbad
                go_wp2
                go_ret3
                exact ⟨HBW.out, .inr ⟨k + 1, 3, HER.out, by go_num⟩⟩
              · have g3 : b < a := by omega
                clear hbad
                go_wp2
                go_ret3
                exact ⟨HBW.out, .inr ⟨k + 1, 3, HER.out, by go_num⟩⟩
          · have HBAD : Hid (¬ (1114111 < a ∨ 1114111 < b ∨ b < a)) := hbad
            have g1 : ¬ 1114111 < a := by omega
            have g2 : ¬ 1114111 < b := by omega
            have g3 : ¬ b < a := by omega
            clear hbad
            obtain ⟨ol, hol2⟩ : ∃ ol, ol = out.length := ⟨_, rfl⟩
            have HOL : Hid (ol = out.length) := hol2
            have hol : (ol : Int) ≤ 2000 := by rw [hol2]; exact HOLI.out
            rw [← hol2] at HO HRO HOC ⊢
            clear hol2
            go_wp2
            go_loop [13, 14] (fun x13 x14 => ∃ (q j : Nat), j ≤ ol ∧ x13 = .int .i64 q ∧ x14 = .int .i64 j ∧ PlAt out (a, b, nm) q j) (fun _ x14 => ol - (intOf x14).toNat)
            case atStart => exact ⟨0, 0, by omega, rfl, rfl, by omega, fun j hj => absurd hj (by omega), fun j hj => absurd hj (by omega), fun j _ hj => absurd hj (by omega)⟩
            case round =>
              obtain ⟨q, j, hj, hx13, hx14, hpl⟩ := hrel
              subst hx13 hx14
              have HPL : Hid (PlAt out (a, b, nm) q j) := hpl
              have hqj : q ≤ j := hpl.1
              clear hpl
              by_cases hjl : j < ol
              · obtain ⟨bo, offo, rfl, c0, c1, c2⟩ := HRO.out.at j hjl
                have hjo : j < out.length := by rw [← HOL.out]; exact hjl
                obtain ⟨y, hy⟩ : ∃ y, y = out.getD j (0, 0, []) := ⟨_, rfl⟩
                rw [← hy] at c0 c1 c2
                have hre := (HF.out.2.2 y (by rw [hy]; simp [hjo])).2
                have HLO : Hid (meets (a, b, nm) y = false → y.1 < a → PlAt out (a, b, nm) (j + 1) (j + 1)) := fun h1 h2 => plAt_lo out (a, b, nm) q j HPL.out HF.out.1 hjo (by rw [← hy]; exact h1) (by rw [← hy]; exact h2)
                have HON : Hid (meets (a, b, nm) y = false → ¬ y.1 < a → PlAt out (a, b, nm) q (j + 1)) := fun h1 h2 => plAt_on out (a, b, nm) q j HPL.out (by rw [← hy]; exact h1) (by rw [← hy]; exact h2)
                have HBD : Hid (meets (a, b, nm) y = true → parseT bs = .inr (k + 1, 6)) := fun h1 => HP1.out 6 (stp_state out l (a, b, nm) HTE.out HX.out HBAD.out (plAt_bad out (a, b, nm) j hjo (by rw [← hy]; exact h1)))
                obtain ⟨y1, y2, y3⟩ := y
                simp only [] at c0 c1 c2
                have hre' : 0 ≤ y1 ∧ y1 ≤ y2 ∧ y2 ≤ 1114111 := by unfold reR at hre; simp at hre; omega
                obtain ⟨e1, e2, e3⟩ := hre'
                clear hy hre c2 hjo
                by_cases f1 : y1 ≤ b
                · by_cases f2 : a ≤ y2
                  · have HER : Hid (parseT bs = .inr (k + 1, 6)) := HBD.out (by unfold meets; simp [f1, f2])
                    go_wp2
                    go_ret3
                    exact ⟨HBW.out, .inr ⟨k + 1, 6, HER.out, by go_num⟩⟩
                  · have HME : Hid (meets (a, b, nm) (y1, y2, y3) = false) := by show _ = _; unfold meets; simp [f1, f2]
                    by_cases f3 : y1 < a
                    · have HNX := HLO.out HME.out f3
                      have HNX' : Hid (PlAt out (a, b, nm) (j + 1) (j + 1)) := HNX
                      clear HNX
                      go_wp2
                      go_round
                      case rel => exact ⟨j + 1, j + 1, by omega, by go_num, by go_num, HNX'.out⟩
                      case measure => simp [intOf]; omega
                    · omega
                · have HME : Hid (meets (a, b, nm) (y1, y2, y3) = false) := by show _ = _; unfold meets; simp [f1]
                  have f3 : ¬ y1 < a := by omega
                  have HNX' : Hid (PlAt out (a, b, nm) q (j + 1)) := HON.out HME.out f3
                  go_wp2
                  go_round
                  case rel => exact ⟨q, j + 1, by omega, rfl, by go_num, HNX'.out⟩
                  case measure => simp [intOf]; omega
              · obtain rfl : j = ol := by omega
                obtain ⟨hany, hins⟩ := plAt_end out (a, b, nm) q (by rw [← HOL.out]; exact HPL.out)
                have HANY : Hid (out.any (meets (a, b, nm)) = false) := hany
                have HINS : Hid (out.take q ++ (a, b, nm) :: out.drop q = ins (a, b, nm) out) := hins
                clear hany hins
                by_cases h20 : 2000 ≤ (j : Int)
                · have HER : Hid (parseT bs = .inr (k + 1, 4)) := HP1.out 4 (stp_large out l (a, b, nm) HTE.out HX.out HBAD.out HANY.out (by rw [← HOL.out]; omega))
                  go_wp2
                  go_ret3
                  exact ⟨HBW.out, .inr ⟨k + 1, 4, HER.out, by go_num⟩⟩
                · have HSI : Hid (stepOf out l = some (.inr (a, b, nm))) := stp_in out l (a, b, nm) HTE.out HX.out HBAD.out HANY.out (by rw [← HOL.out]; omega)
                  have HNX : Hid (parseT bs = parseL (k + 1) (ins (a, b, nm) out) (L.drop (k + 1))) := HP2.out _ HSI.out
                  obtain ⟨s6, hs6⟩ : ∃ s6, s6 = strOfNums nm := ⟨_, rfl⟩
                  have HS6 : Hid (s6 = strOfNums nm) := hs6
                  rw [← hs6]
                  clear hs6
                  have hwa : IntKind.i32.wrap a = a := by rw [IntKind.wrap_i32]; omega
                  have hwb : IntKind.i32.wrap b = b := by rw [IntKind.wrap_i32]; omega
                  obtain ⟨cto, a2, c2, cfrom, hsrcs⟩ := cutR_srcs HO.out hqj
                  have HSRC : Hid (∀ W, Below wr.heap.size wr W → SrcAt W ao q capo 3 (flatR (out.take q)) ∧ SrcAt W a2 (j - q) c2 3 (flatR (out.drop q))) := hsrcs
                  clear hsrcs
                  go_upto_region 24 with fail
                  obtain ⟨W0, hW0⟩ : ∃ W0, W0 = (wr.alloc (.cells #[.int .i32 a, .int .i32 b, .string s6] 39)).drew := ⟨_, rfl⟩
                  obtain ⟨b1, hb1e⟩ : ∃ b1, b1 = wr.heap.size + 1 := ⟨_, rfl⟩
                  have HZ : Hid (W0.heap.size = b1 ∧ Below wr.heap.size wr W0 ∧ W0.heap[wr.heap.size]? = some (.cells #[.int .i32 a, .int .i32 b, .string s6] 39)) := by
                    rw [hW0, hb1e]
                    refine ⟨by simp, ((Below.refl _ wr).alloc (Nat.le_refl _) _).drew, heap_alloc_new wr _⟩
                  have HB1E : Hid (b1 = wr.heap.size + 1) := hb1e
                  obtain ⟨bx, hbx⟩ : ∃ bx, bx = wr.heap.size := ⟨_, rfl⟩
                  have HBX : Hid (bx = wr.heap.size) := hbx
                  have HXL : Hid (∀ W, Below b1 W0 W → W.cell? ⟨bx, 0, none⟩ = some (.int .i32 a) ∧ W.cell? ⟨bx, 1, none⟩ = some (.int .i32 b) ∧ W.cell? ⟨bx, 2, none⟩ = some (.string s6)) := by
                    intro W hW
                    have e : W.heap[bx]? = some (.cells #[.int .i32 a, .int .i32 b, .string s6] 39) := by rw [hW.block bx (by rw [hb1e, hbx]; omega), hbx]; exact HZ.out.2.2
                    exact ⟨by rw [cell_of_row W bx 0 _ _ _ e]; rfl, by rw [cell_of_row W bx 1 _ _ _ e]; rfl, by rw [cell_of_row W bx 2 _ _ _ e]; rfl⟩
                  have HSR : Hid (∀ W, Below b1 W0 W → SrcAt W ao q capo 3 (flatR (out.take q)) ∧ SrcAt W a2 (j - q) c2 3 (flatR (out.drop q))) := by
                    intro W hW
                    exact HSRC.out W (HZ.out.2.1.trans (hW.mono (by rw [hb1e]; omega)))
                  have HBW0 : Hid (∀ W, Below b1 W0 W → b1 ≤ W.heap.size) := by
                    intro W hW
                    have := hW.size
                    rw [HZ.out.1] at this
                    exact this
                  have HB0 : Hid (Below b1 W0 W0) := Below.refl _ _
                  have hqn : (q : Int) ≤ 2000 := by omega
                  refine wp_region_any (by kernel_rfl) ?_
                  try (change wpAny _ _ _ _ _ _ _ (World.drew _))
                  rw [← hbx, ← hW0]
                  clear hb1e hbx hW0
                  refine wpAny_take (i := 1) (v := ?_) rfl (by kernel_rfl) (by kernel_rfl) (by kernel_rfl) (fun _ _ _ h => h) (Or.inl ⟨by rfl, ?_⟩) ?_
                  rotate_left
                  · intro w; go_simp; try with_reducible rfl
                  go_simp
                  refine wpAny_take (i := 2) (v := ?_) rfl (by kernel_rfl) (by kernel_rfl) (by kernel_rfl) (fun _ _ _ h => h) (Or.inl ⟨by rfl, ?_⟩) ?_
                  rotate_left
                  · intro w; go_simp; try with_reducible rfl
                  go_simp
                  refine wpAny_take (i := 3) (v := ?_) rfl (by kernel_rfl) (by kernel_rfl) (by kernel_rfl) (fun _ _ _ h => h) (Or.inl ⟨by rfl, ?_⟩) ?_
                  rotate_left
                  · intro w; go_simp; try with_reducible rfl
                  go_simp
                  refine wpAny_take (i := 8) (v := ?_) rfl (by kernel_rfl) (by kernel_rfl) (by kernel_rfl) (fun _ _ _ h => h) (Or.inl ⟨by rfl, ?_⟩) ?_
                  rotate_left
                  · intro w; go_simp; try with_reducible rfl
                  go_simp
                  refine wpAny_take (i := 9) (v := ?_) rfl (by kernel_rfl) (by kernel_rfl) (by kernel_rfl) (fun _ _ _ h => h) (Or.inl ⟨by rfl, ?_⟩) ?_
                  rotate_left
                  · intro w; go_simp; try with_reducible rfl
                  go_simp
                  refine wpAny_take (i := 10) (v := ?_) rfl (by kernel_rfl) (by kernel_rfl) (by kernel_rfl) (fun _ _ _ h => h) (Or.inl ⟨by rfl, ?_⟩) ?_
                  rotate_left
                  · intro w; go_simp; try with_reducible rfl
                  go_simp
                  have HFI : Hid (FineR (ins (a, b, nm) out)) := fine_ins out (a, b, nm) l HF.out HSI.out
                  refine wpAny_ready (rs := [0, 5]) (by kernel_rfl) (by simp) ?_
                  refine AllReady.cons rfl (fun K hK => ?_) ?_
                  · go_simp
                    refine hK _ _ ?_
                    clear hK K
                    go_simp
                    obtain ⟨W1, hW1⟩ : ∃ W1, W1 = W0.alloc (.cells #[] 39) := ⟨_, rfl⟩
                    obtain ⟨g1, hg1⟩ : ∃ g1, g1 = W0.heap.size := ⟨_, rfl⟩
                    have HB1 : Hid (Below b1 W0 W1) := by rw [hW1]; exact HB0.out.alloc (HBW0.out _ HB0.out) _
                    have HA1 : Hid (W1.ownsRow b1 39 3 (.slice (some ⟨g1, 0, none⟩) 0 0) 0 []) := by rw [hW1, hg1]; exact World.ownsRow_made W0 #[] 0 (HBW0.out _ HB0.out) (by simp [maxLen]) rfl
                    rw [← hg1, ← hW1]
                    clear hW1 hg1
                    refine wpAny_ready (rs := [4, 5]) (by kernel_rfl) (by simp) ?_
                    refine AllReady.cons rfl (fun K hK => ?_) ?_
                    · refine step_append_src rfl _ _ 23 rfl b1 39 i0 _ 3 24 Tryz.underlying23 HI.out.1 HI.out.2.1 HI.out.2.2.1 HI.out.2.2.2 rfl (by decide) (.slice (some ⟨g1, 0, none⟩) 0 0) 0 [] (by simp [Act.eval]) HA1.out ao q capo (flatR (out.take q)) (by simp [Act.eval]) (HSR.out _ HB1.out).1 (by unfold maxLen; omega) (by omega) (HBW0.out _ HB1.out) (fun v2 W2 h1 h2 => ?_)
                      refine hK _ _ ?_
                      clear hK K
                      have HA2 : Hid (W2.ownsRow b1 39 3 v2 q (flatR (out.take q))) := by
                        rw [Nat.zero_add, List.nil_append] at h1
                        exact h1
                      have HB2 : Hid (Below b1 W0 W2) := HB1.out.grown h2 (HBW0.out _ HB1.out) (fun k hk => (HA1.out.lt k hk).1)
                      clear h1 h2
                      go_simp
                      refine wpAny_ready (rs := [5]) (by kernel_rfl) (by simp) ?_
                      refine AllReady.cons rfl (fun K hK => ?_) ?_
                      · obtain ⟨x03, x13, x23⟩ := HXL.out W2 HB2.out
                        go_simp
                        refine hK _ _ ?_
                        clear hK K x03 x13 x23
                        go_simp
                        refine wpAny_ready (rs := [6]) (by kernel_rfl) (by simp) ?_
                        refine AllReady.cons rfl (fun K hK => ?_) ?_
                        · go_simp
                          refine hK _ _ ?_
                          clear hK K
                          go_simp
                          obtain ⟨W4, hW4⟩ : ∃ W4, W4 = W2.alloc (.cells #[.int .i32 a, .int .i32 b, .string s6] 39) := ⟨_, rfl⟩
                          obtain ⟨g4, hg4⟩ : ∃ g4, g4 = W2.heap.size := ⟨_, rfl⟩
                          have HB4 : Hid (Below b1 W0 W4) := by rw [hW4]; exact HB2.out.alloc (HBW0.out _ HB2.out) _
                          have HV4 : Hid (W4.ownsRow b1 39 3 (.slice (some ⟨g4, 0, none⟩) 1 1) 1 (flatR [(a, b, nm)])) := by rw [hW4, hg4]; exact own_base (lit_row W2 a b nm s6 HS6.out) (HBW0.out _ HB2.out)
                          have HA4 : Hid (W4.ownsRow b1 39 3 v2 q (flatR (out.take q))) := by rw [hW4]; exact own_alloc HA2.out _
                          rw [← hg4, ← hW4]
                          clear hW4 hg4
                          refine wpAny_ready (rs := [7]) (by kernel_rfl) (by simp) ?_
                          refine AllReady.cons rfl (fun K hK => ?_) ?_
                          · obtain ⟨ad5, c5, he5, hs5⟩ := src_own HV4.out (flatR_cell1 _)
                            cases he5
                            refine step_append_src rfl _ _ 23 rfl b1 39 i0 _ 3 24 Tryz.underlying23 HI.out.1 HI.out.2.1 HI.out.2.2.1 HI.out.2.2.2 rfl (by decide) v2 q (flatR (out.take q)) (by simp [Act.eval]) HA4.out _ 1 1 (flatR [(a, b, nm)]) (by simp [Act.eval]) hs5 (by unfold maxLen; omega) (by omega) (HBW0.out _ HB4.out) (fun v5 W5 h1 h2 => ?_)
                            refine hK _ _ ?_
                            clear hK K
                            have HA5 : Hid (W5.ownsRow b1 39 3 v5 (q + 1) (flatR (out.take q) ++ flatR [(a, b, nm)])) := h1
                            have HB5 : Hid (Below b1 W0 W5) := HB4.out.grown h2 (HBW0.out _ HB4.out) (fun k hk => (HA4.out.lt k hk).1)
                            clear h1 h2 hs5
                            go_simp
                            refine wpAny_ready (rs := [11]) (by kernel_rfl) (by simp) ?_
                            refine AllReady.cons rfl (fun K hK => ?_) ?_
                            · refine step_append_src rfl _ _ 23 rfl b1 39 i0 _ 3 24 Tryz.underlying23 HI.out.1 HI.out.2.1 HI.out.2.2.1 HI.out.2.2.2 rfl (by decide) v5 (q + 1) (flatR (out.take q) ++ flatR [(a, b, nm)]) (by simp [Act.eval]) HA5.out a2 (j - q) c2 (flatR (out.drop q)) (by simp [Act.eval]) (HSR.out _ HB5.out).2 (by unfold maxLen; omega) (by omega) (HBW0.out _ HB5.out) (fun v6 W6 h1 h2 => ?_)
                              refine hK _ _ ?_
                              clear hK K
                              have HFIN : Hid (W6.ownsRow w.heap.size 39 3 v6 (ins (a, b, nm) out).length (flatR (ins (a, b, nm) out)) ∧ Below w1.heap.size w1 W6) := by
                                have hb2 : Below b1 W0 W6 := HB5.out.grown h2 (HBW0.out _ HB5.out) (fun k hk => (HA5.out.lt k hk).1)
                                exact rp_end W0 W6 wr w w1 b1 q j v6 out (a, b, nm) HB1E.out HZ.out.2.1 hb2 HBW.out.size HB.out hqj HOL.out HINS.out h1
                              clear h1 h2
                              go_simp
                              refine wpAny_ready (rs := [12]) (by kernel_rfl) (by simp) ?_
                              refine AllReady.cons rfl (fun K hK => ?_) ?_
                              · go_simp
                                refine hK _ _ ?_
                                clear hK K
                                go_simp
                                refine wpAny_done (by kernel_rfl) ?_ _
                                go_wp2
                                go_roundw
                                case rel => exact ⟨k + 1, ins (a, b, nm) out, by omega, by go_num, HFI.out, HNX.out, HFIN.out.1, HFIN.out.2⟩
                                case measure => simp [intOf]; omega
                              exact AllReady.nil
                            exact AllReady.nil
                          exact AllReady.nil
                        exact AllReady.nil
                      exact AllReady.nil
                    refine AllReady.cons rfl (fun K hK => ?_) ?_
                    · obtain ⟨x07, x17, x27⟩ := HXL.out W1 HB1.out
                      go_simp
                      refine hK _ _ ?_
                      clear hK K x07 x17 x27
                      go_simp
                      refine wpAny_ready (rs := [4, 6]) (by kernel_rfl) (by simp) ?_
                      refine AllReady.cons rfl (fun K hK => ?_) ?_
                      · refine step_append_src rfl _ _ 23 rfl b1 39 i0 _ 3 24 Tryz.underlying23 HI.out.1 HI.out.2.1 HI.out.2.2.1 HI.out.2.2.2 rfl (by decide) (.slice (some ⟨g1, 0, none⟩) 0 0) 0 [] (by simp [Act.eval]) HA1.out ao q capo (flatR (out.take q)) (by simp [Act.eval]) (HSR.out _ HB1.out).1 (by unfold maxLen; omega) (by omega) (HBW0.out _ HB1.out) (fun v8 W8 h1 h2 => ?_)
                        refine hK _ _ ?_
                        clear hK K
                        have HA8 : Hid (W8.ownsRow b1 39 3 v8 q (flatR (out.take q))) := by
                          rw [Nat.zero_add, List.nil_append] at h1
                          exact h1
                        have HB8 : Hid (Below b1 W0 W8) := HB1.out.grown h2 (HBW0.out _ HB1.out) (fun k hk => (HA1.out.lt k hk).1)
                        clear h1 h2
                        go_simp
                        refine wpAny_ready (rs := [6]) (by kernel_rfl) (by simp) ?_
                        refine AllReady.cons rfl (fun K hK => ?_) ?_
                        · go_simp
                          refine hK _ _ ?_
                          clear hK K
                          go_simp
                          obtain ⟨W9, hW9⟩ : ∃ W9, W9 = W8.alloc (.cells #[.int .i32 a, .int .i32 b, .string s6] 39) := ⟨_, rfl⟩
                          obtain ⟨g9, hg9⟩ : ∃ g9, g9 = W8.heap.size := ⟨_, rfl⟩
                          have HB9 : Hid (Below b1 W0 W9) := by rw [hW9]; exact HB8.out.alloc (HBW0.out _ HB8.out) _
                          have HV9 : Hid (W9.ownsRow b1 39 3 (.slice (some ⟨g9, 0, none⟩) 1 1) 1 (flatR [(a, b, nm)])) := by rw [hW9, hg9]; exact own_base (lit_row W8 a b nm s6 HS6.out) (HBW0.out _ HB8.out)
                          have HA9 : Hid (W9.ownsRow b1 39 3 v8 q (flatR (out.take q))) := by rw [hW9]; exact own_alloc HA8.out _
                          rw [← hg9, ← hW9]
                          clear hW9 hg9
                          refine wpAny_ready (rs := [7]) (by kernel_rfl) (by simp) ?_
                          refine AllReady.cons rfl (fun K hK => ?_) ?_
                          · obtain ⟨ad10, c10, he10, hs10⟩ := src_own HV9.out (flatR_cell1 _)
                            cases he10
                            refine step_append_src rfl _ _ 23 rfl b1 39 i0 _ 3 24 Tryz.underlying23 HI.out.1 HI.out.2.1 HI.out.2.2.1 HI.out.2.2.2 rfl (by decide) v8 q (flatR (out.take q)) (by simp [Act.eval]) HA9.out _ 1 1 (flatR [(a, b, nm)]) (by simp [Act.eval]) hs10 (by unfold maxLen; omega) (by omega) (HBW0.out _ HB9.out) (fun v10 W10 h1 h2 => ?_)
                            refine hK _ _ ?_
                            clear hK K
                            have HA10 : Hid (W10.ownsRow b1 39 3 v10 (q + 1) (flatR (out.take q) ++ flatR [(a, b, nm)])) := h1
                            have HB10 : Hid (Below b1 W0 W10) := HB9.out.grown h2 (HBW0.out _ HB9.out) (fun k hk => (HA9.out.lt k hk).1)
                            clear h1 h2 hs10
                            go_simp
                            refine wpAny_ready (rs := [11]) (by kernel_rfl) (by simp) ?_
                            refine AllReady.cons rfl (fun K hK => ?_) ?_
                            · refine step_append_src rfl _ _ 23 rfl b1 39 i0 _ 3 24 Tryz.underlying23 HI.out.1 HI.out.2.1 HI.out.2.2.1 HI.out.2.2.2 rfl (by decide) v10 (q + 1) (flatR (out.take q) ++ flatR [(a, b, nm)]) (by simp [Act.eval]) HA10.out a2 (j - q) c2 (flatR (out.drop q)) (by simp [Act.eval]) (HSR.out _ HB10.out).2 (by unfold maxLen; omega) (by omega) (HBW0.out _ HB10.out) (fun v11 W11 h1 h2 => ?_)
                              refine hK _ _ ?_
                              clear hK K
                              have HFIN : Hid (W11.ownsRow w.heap.size 39 3 v11 (ins (a, b, nm) out).length (flatR (ins (a, b, nm) out)) ∧ Below w1.heap.size w1 W11) := by
                                have hb2 : Below b1 W0 W11 := HB10.out.grown h2 (HBW0.out _ HB10.out) (fun k hk => (HA10.out.lt k hk).1)
                                exact rp_end W0 W11 wr w w1 b1 q j v11 out (a, b, nm) HB1E.out HZ.out.2.1 hb2 HBW.out.size HB.out hqj HOL.out HINS.out h1
                              clear h1 h2
                              go_simp
                              refine wpAny_ready (rs := [12]) (by kernel_rfl) (by simp) ?_
                              refine AllReady.cons rfl (fun K hK => ?_) ?_
                              · go_simp
                                refine hK _ _ ?_
                                clear hK K
                                go_simp
                                refine wpAny_done (by kernel_rfl) ?_ _
                                go_wp2
                                go_roundw
                                case rel => exact ⟨k + 1, ins (a, b, nm) out, by omega, by go_num, HFI.out, HNX.out, HFIN.out.1, HFIN.out.2⟩
                                case measure => simp [intOf]; omega
                              exact AllReady.nil
                            exact AllReady.nil
                          exact AllReady.nil
                        exact AllReady.nil
                      refine AllReady.cons rfl (fun K hK => ?_) ?_
                      · go_simp
                        refine hK _ _ ?_
                        clear hK K
                        go_simp
                        obtain ⟨W12, hW12⟩ : ∃ W12, W12 = W1.alloc (.cells #[.int .i32 a, .int .i32 b, .string s6] 39) := ⟨_, rfl⟩
                        obtain ⟨g12, hg12⟩ : ∃ g12, g12 = W1.heap.size := ⟨_, rfl⟩
                        have HB12 : Hid (Below b1 W0 W12) := by rw [hW12]; exact HB1.out.alloc (HBW0.out _ HB1.out) _
                        have HV12 : Hid (W12.ownsRow b1 39 3 (.slice (some ⟨g12, 0, none⟩) 1 1) 1 (flatR [(a, b, nm)])) := by rw [hW12, hg12]; exact own_base (lit_row W1 a b nm s6 HS6.out) (HBW0.out _ HB1.out)
                        have HA12 : Hid (W12.ownsRow b1 39 3 (.slice (some ⟨g1, 0, none⟩) 0 0) 0 ([])) := by rw [hW12]; exact own_alloc HA1.out _
                        have HNE12 : Hid (Value.ownBlock (.slice (some ⟨g12, 0, none⟩) 1 1) ≠ Value.ownBlock (.slice (some ⟨g1, 0, none⟩) 0 0)) := by
                          intro e
                          have := (HA1.out.lt g12 (e.symm.trans rfl)).2
                          omega
                        rw [← hg12, ← hW12]
                        clear hW12 hg12
                        refine wpAny_ready (rs := [4]) (by kernel_rfl) (by simp) ?_
                        refine AllReady.cons rfl (fun K hK => ?_) ?_
                        · refine step_append_src rfl _ _ 23 rfl b1 39 i0 _ 3 24 Tryz.underlying23 HI.out.1 HI.out.2.1 HI.out.2.2.1 HI.out.2.2.2 rfl (by decide) (.slice (some ⟨g1, 0, none⟩) 0 0) 0 [] (by simp [Act.eval]) HA12.out ao q capo (flatR (out.take q)) (by simp [Act.eval]) (HSR.out _ HB12.out).1 (by unfold maxLen; omega) (by omega) (HBW0.out _ HB12.out) (fun v13 W13 h1 h2 => ?_)
                          refine hK _ _ ?_
                          clear hK K
                          have HA13 : Hid (W13.ownsRow b1 39 3 v13 q (flatR (out.take q))) := by
                            rw [Nat.zero_add, List.nil_append] at h1
                            exact h1
                          have HB13 : Hid (Below b1 W0 W13) := HB12.out.grown h2 (HBW0.out _ HB12.out) (fun k hk => (HA12.out.lt k hk).1)
                          have HV13 : Hid (W13.ownsRow b1 39 3 (.slice (some ⟨g12, 0, none⟩) 1 1) 1 (flatR [(a, b, nm)])) := HV12.out.kept h2 (.inr HNE12.out)
                          clear h1 h2
                          go_simp
                          refine wpAny_ready (rs := [7]) (by kernel_rfl) (by simp) ?_
                          refine AllReady.cons rfl (fun K hK => ?_) ?_
                          · obtain ⟨ad14, c14, he14, hs14⟩ := src_own HV13.out (flatR_cell1 _)
                            cases he14
                            refine step_append_src rfl _ _ 23 rfl b1 39 i0 _ 3 24 Tryz.underlying23 HI.out.1 HI.out.2.1 HI.out.2.2.1 HI.out.2.2.2 rfl (by decide) v13 q (flatR (out.take q)) (by simp [Act.eval]) HA13.out _ 1 1 (flatR [(a, b, nm)]) (by simp [Act.eval]) hs14 (by unfold maxLen; omega) (by omega) (HBW0.out _ HB13.out) (fun v14 W14 h1 h2 => ?_)
                            refine hK _ _ ?_
                            clear hK K
                            have HA14 : Hid (W14.ownsRow b1 39 3 v14 (q + 1) (flatR (out.take q) ++ flatR [(a, b, nm)])) := h1
                            have HB14 : Hid (Below b1 W0 W14) := HB13.out.grown h2 (HBW0.out _ HB13.out) (fun k hk => (HA13.out.lt k hk).1)
                            clear h1 h2 hs14
                            go_simp
                            refine wpAny_ready (rs := [11]) (by kernel_rfl) (by simp) ?_
                            refine AllReady.cons rfl (fun K hK => ?_) ?_
                            · refine step_append_src rfl _ _ 23 rfl b1 39 i0 _ 3 24 Tryz.underlying23 HI.out.1 HI.out.2.1 HI.out.2.2.1 HI.out.2.2.2 rfl (by decide) v14 (q + 1) (flatR (out.take q) ++ flatR [(a, b, nm)]) (by simp [Act.eval]) HA14.out a2 (j - q) c2 (flatR (out.drop q)) (by simp [Act.eval]) (HSR.out _ HB14.out).2 (by unfold maxLen; omega) (by omega) (HBW0.out _ HB14.out) (fun v15 W15 h1 h2 => ?_)
                              refine hK _ _ ?_
                              clear hK K
                              have HFIN : Hid (W15.ownsRow w.heap.size 39 3 v15 (ins (a, b, nm) out).length (flatR (ins (a, b, nm) out)) ∧ Below w1.heap.size w1 W15) := by
                                have hb2 : Below b1 W0 W15 := HB14.out.grown h2 (HBW0.out _ HB14.out) (fun k hk => (HA14.out.lt k hk).1)
                                exact rp_end W0 W15 wr w w1 b1 q j v15 out (a, b, nm) HB1E.out HZ.out.2.1 hb2 HBW.out.size HB.out hqj HOL.out HINS.out h1
                              clear h1 h2
                              go_simp
                              refine wpAny_ready (rs := [12]) (by kernel_rfl) (by simp) ?_
                              refine AllReady.cons rfl (fun K hK => ?_) ?_
                              · go_simp
                                refine hK _ _ ?_
                                clear hK K
                                go_simp
                                refine wpAny_done (by kernel_rfl) ?_ _
                                go_wp2
                                go_roundw
                                case rel => exact ⟨k + 1, ins (a, b, nm) out, by omega, by go_num, HFI.out, HNX.out, HFIN.out.1, HFIN.out.2⟩
                                case measure => simp [intOf]; omega
                              exact AllReady.nil
                            exact AllReady.nil
                          exact AllReady.nil
                        exact AllReady.nil
                      exact AllReady.nil
                    exact AllReady.nil
                  refine AllReady.cons rfl (fun K hK => ?_) ?_
                  · obtain ⟨x016, x116, x216⟩ := HXL.out W0 HB0.out
                    go_simp
                    refine hK _ _ ?_
                    clear hK K x016 x116 x216
                    go_simp
                    refine wpAny_ready (rs := [0, 6]) (by kernel_rfl) (by simp) ?_
                    refine AllReady.cons rfl (fun K hK => ?_) ?_
                    · go_simp
                      refine hK _ _ ?_
                      clear hK K
                      go_simp
                      obtain ⟨W17, hW17⟩ : ∃ W17, W17 = W0.alloc (.cells #[] 39) := ⟨_, rfl⟩
                      obtain ⟨g17, hg17⟩ : ∃ g17, g17 = W0.heap.size := ⟨_, rfl⟩
                      have HB17 : Hid (Below b1 W0 W17) := by rw [hW17]; exact HB0.out.alloc (HBW0.out _ HB0.out) _
                      have HA17 : Hid (W17.ownsRow b1 39 3 (.slice (some ⟨g17, 0, none⟩) 0 0) 0 []) := by rw [hW17, hg17]; exact World.ownsRow_made W0 #[] 0 (HBW0.out _ HB0.out) (by simp [maxLen]) rfl
                      rw [← hg17, ← hW17]
                      clear hW17 hg17
                      refine wpAny_ready (rs := [4, 6]) (by kernel_rfl) (by simp) ?_
                      refine AllReady.cons rfl (fun K hK => ?_) ?_
                      · refine step_append_src rfl _ _ 23 rfl b1 39 i0 _ 3 24 Tryz.underlying23 HI.out.1 HI.out.2.1 HI.out.2.2.1 HI.out.2.2.2 rfl (by decide) (.slice (some ⟨g17, 0, none⟩) 0 0) 0 [] (by simp [Act.eval]) HA17.out ao q capo (flatR (out.take q)) (by simp [Act.eval]) (HSR.out _ HB17.out).1 (by unfold maxLen; omega) (by omega) (HBW0.out _ HB17.out) (fun v18 W18 h1 h2 => ?_)
                        refine hK _ _ ?_
                        clear hK K
                        have HA18 : Hid (W18.ownsRow b1 39 3 v18 q (flatR (out.take q))) := by
                          rw [Nat.zero_add, List.nil_append] at h1
                          exact h1
                        have HB18 : Hid (Below b1 W0 W18) := HB17.out.grown h2 (HBW0.out _ HB17.out) (fun k hk => (HA17.out.lt k hk).1)
                        clear h1 h2
                        go_simp
                        refine wpAny_ready (rs := [6]) (by kernel_rfl) (by simp) ?_
                        refine AllReady.cons rfl (fun K hK => ?_) ?_
                        · go_simp
                          refine hK _ _ ?_
                          clear hK K
                          go_simp
                          obtain ⟨W19, hW19⟩ : ∃ W19, W19 = W18.alloc (.cells #[.int .i32 a, .int .i32 b, .string s6] 39) := ⟨_, rfl⟩
                          obtain ⟨g19, hg19⟩ : ∃ g19, g19 = W18.heap.size := ⟨_, rfl⟩
                          have HB19 : Hid (Below b1 W0 W19) := by rw [hW19]; exact HB18.out.alloc (HBW0.out _ HB18.out) _
                          have HV19 : Hid (W19.ownsRow b1 39 3 (.slice (some ⟨g19, 0, none⟩) 1 1) 1 (flatR [(a, b, nm)])) := by rw [hW19, hg19]; exact own_base (lit_row W18 a b nm s6 HS6.out) (HBW0.out _ HB18.out)
                          have HA19 : Hid (W19.ownsRow b1 39 3 v18 q (flatR (out.take q))) := by rw [hW19]; exact own_alloc HA18.out _
                          rw [← hg19, ← hW19]
                          clear hW19 hg19
                          refine wpAny_ready (rs := [7]) (by kernel_rfl) (by simp) ?_
                          refine AllReady.cons rfl (fun K hK => ?_) ?_
                          · obtain ⟨ad20, c20, he20, hs20⟩ := src_own HV19.out (flatR_cell1 _)
                            cases he20
                            refine step_append_src rfl _ _ 23 rfl b1 39 i0 _ 3 24 Tryz.underlying23 HI.out.1 HI.out.2.1 HI.out.2.2.1 HI.out.2.2.2 rfl (by decide) v18 q (flatR (out.take q)) (by simp [Act.eval]) HA19.out _ 1 1 (flatR [(a, b, nm)]) (by simp [Act.eval]) hs20 (by unfold maxLen; omega) (by omega) (HBW0.out _ HB19.out) (fun v20 W20 h1 h2 => ?_)
                            refine hK _ _ ?_
                            clear hK K
                            have HA20 : Hid (W20.ownsRow b1 39 3 v20 (q + 1) (flatR (out.take q) ++ flatR [(a, b, nm)])) := h1
                            have HB20 : Hid (Below b1 W0 W20) := HB19.out.grown h2 (HBW0.out _ HB19.out) (fun k hk => (HA19.out.lt k hk).1)
                            clear h1 h2 hs20
                            go_simp
                            refine wpAny_ready (rs := [11]) (by kernel_rfl) (by simp) ?_
                            refine AllReady.cons rfl (fun K hK => ?_) ?_
                            · refine step_append_src rfl _ _ 23 rfl b1 39 i0 _ 3 24 Tryz.underlying23 HI.out.1 HI.out.2.1 HI.out.2.2.1 HI.out.2.2.2 rfl (by decide) v20 (q + 1) (flatR (out.take q) ++ flatR [(a, b, nm)]) (by simp [Act.eval]) HA20.out a2 (j - q) c2 (flatR (out.drop q)) (by simp [Act.eval]) (HSR.out _ HB20.out).2 (by unfold maxLen; omega) (by omega) (HBW0.out _ HB20.out) (fun v21 W21 h1 h2 => ?_)
                              refine hK _ _ ?_
                              clear hK K
                              have HFIN : Hid (W21.ownsRow w.heap.size 39 3 v21 (ins (a, b, nm) out).length (flatR (ins (a, b, nm) out)) ∧ Below w1.heap.size w1 W21) := by
                                have hb2 : Below b1 W0 W21 := HB20.out.grown h2 (HBW0.out _ HB20.out) (fun k hk => (HA20.out.lt k hk).1)
                                exact rp_end W0 W21 wr w w1 b1 q j v21 out (a, b, nm) HB1E.out HZ.out.2.1 hb2 HBW.out.size HB.out hqj HOL.out HINS.out h1
                              clear h1 h2
                              go_simp
                              refine wpAny_ready (rs := [12]) (by kernel_rfl) (by simp) ?_
                              refine AllReady.cons rfl (fun K hK => ?_) ?_
                              · go_simp
                                refine hK _ _ ?_
                                clear hK K
                                go_simp
                                refine wpAny_done (by kernel_rfl) ?_ _
                                go_wp2
                                go_roundw
                                case rel => exact ⟨k + 1, ins (a, b, nm) out, by omega, by go_num, HFI.out, HNX.out, HFIN.out.1, HFIN.out.2⟩
                                case measure => simp [intOf]; omega
                              exact AllReady.nil
                            exact AllReady.nil
                          exact AllReady.nil
                        exact AllReady.nil
                      refine AllReady.cons rfl (fun K hK => ?_) ?_
                      · go_simp
                        refine hK _ _ ?_
                        clear hK K
                        go_simp
                        obtain ⟨W22, hW22⟩ : ∃ W22, W22 = W17.alloc (.cells #[.int .i32 a, .int .i32 b, .string s6] 39) := ⟨_, rfl⟩
                        obtain ⟨g22, hg22⟩ : ∃ g22, g22 = W17.heap.size := ⟨_, rfl⟩
                        have HB22 : Hid (Below b1 W0 W22) := by rw [hW22]; exact HB17.out.alloc (HBW0.out _ HB17.out) _
                        have HV22 : Hid (W22.ownsRow b1 39 3 (.slice (some ⟨g22, 0, none⟩) 1 1) 1 (flatR [(a, b, nm)])) := by rw [hW22, hg22]; exact own_base (lit_row W17 a b nm s6 HS6.out) (HBW0.out _ HB17.out)
                        have HA22 : Hid (W22.ownsRow b1 39 3 (.slice (some ⟨g17, 0, none⟩) 0 0) 0 ([])) := by rw [hW22]; exact own_alloc HA17.out _
                        have HNE22 : Hid (Value.ownBlock (.slice (some ⟨g22, 0, none⟩) 1 1) ≠ Value.ownBlock (.slice (some ⟨g17, 0, none⟩) 0 0)) := by
                          intro e
                          have := (HA17.out.lt g22 (e.symm.trans rfl)).2
                          omega
                        rw [← hg22, ← hW22]
                        clear hW22 hg22
                        refine wpAny_ready (rs := [4]) (by kernel_rfl) (by simp) ?_
                        refine AllReady.cons rfl (fun K hK => ?_) ?_
                        · refine step_append_src rfl _ _ 23 rfl b1 39 i0 _ 3 24 Tryz.underlying23 HI.out.1 HI.out.2.1 HI.out.2.2.1 HI.out.2.2.2 rfl (by decide) (.slice (some ⟨g17, 0, none⟩) 0 0) 0 [] (by simp [Act.eval]) HA22.out ao q capo (flatR (out.take q)) (by simp [Act.eval]) (HSR.out _ HB22.out).1 (by unfold maxLen; omega) (by omega) (HBW0.out _ HB22.out) (fun v23 W23 h1 h2 => ?_)
                          refine hK _ _ ?_
                          clear hK K
                          have HA23 : Hid (W23.ownsRow b1 39 3 v23 q (flatR (out.take q))) := by
                            rw [Nat.zero_add, List.nil_append] at h1
                            exact h1
                          have HB23 : Hid (Below b1 W0 W23) := HB22.out.grown h2 (HBW0.out _ HB22.out) (fun k hk => (HA22.out.lt k hk).1)
                          have HV23 : Hid (W23.ownsRow b1 39 3 (.slice (some ⟨g22, 0, none⟩) 1 1) 1 (flatR [(a, b, nm)])) := HV22.out.kept h2 (.inr HNE22.out)
                          clear h1 h2
                          go_simp
                          refine wpAny_ready (rs := [7]) (by kernel_rfl) (by simp) ?_
                          refine AllReady.cons rfl (fun K hK => ?_) ?_
                          · obtain ⟨ad24, c24, he24, hs24⟩ := src_own HV23.out (flatR_cell1 _)
                            cases he24
                            refine step_append_src rfl _ _ 23 rfl b1 39 i0 _ 3 24 Tryz.underlying23 HI.out.1 HI.out.2.1 HI.out.2.2.1 HI.out.2.2.2 rfl (by decide) v23 q (flatR (out.take q)) (by simp [Act.eval]) HA23.out _ 1 1 (flatR [(a, b, nm)]) (by simp [Act.eval]) hs24 (by unfold maxLen; omega) (by omega) (HBW0.out _ HB23.out) (fun v24 W24 h1 h2 => ?_)
                            refine hK _ _ ?_
                            clear hK K
                            have HA24 : Hid (W24.ownsRow b1 39 3 v24 (q + 1) (flatR (out.take q) ++ flatR [(a, b, nm)])) := h1
                            have HB24 : Hid (Below b1 W0 W24) := HB23.out.grown h2 (HBW0.out _ HB23.out) (fun k hk => (HA23.out.lt k hk).1)
                            clear h1 h2 hs24
                            go_simp
                            refine wpAny_ready (rs := [11]) (by kernel_rfl) (by simp) ?_
                            refine AllReady.cons rfl (fun K hK => ?_) ?_
                            · refine step_append_src rfl _ _ 23 rfl b1 39 i0 _ 3 24 Tryz.underlying23 HI.out.1 HI.out.2.1 HI.out.2.2.1 HI.out.2.2.2 rfl (by decide) v24 (q + 1) (flatR (out.take q) ++ flatR [(a, b, nm)]) (by simp [Act.eval]) HA24.out a2 (j - q) c2 (flatR (out.drop q)) (by simp [Act.eval]) (HSR.out _ HB24.out).2 (by unfold maxLen; omega) (by omega) (HBW0.out _ HB24.out) (fun v25 W25 h1 h2 => ?_)
                              refine hK _ _ ?_
                              clear hK K
                              have HFIN : Hid (W25.ownsRow w.heap.size 39 3 v25 (ins (a, b, nm) out).length (flatR (ins (a, b, nm) out)) ∧ Below w1.heap.size w1 W25) := by
                                have hb2 : Below b1 W0 W25 := HB24.out.grown h2 (HBW0.out _ HB24.out) (fun k hk => (HA24.out.lt k hk).1)
                                exact rp_end W0 W25 wr w w1 b1 q j v25 out (a, b, nm) HB1E.out HZ.out.2.1 hb2 HBW.out.size HB.out hqj HOL.out HINS.out h1
                              clear h1 h2
                              go_simp
                              refine wpAny_ready (rs := [12]) (by kernel_rfl) (by simp) ?_
                              refine AllReady.cons rfl (fun K hK => ?_) ?_
                              · go_simp
                                refine hK _ _ ?_
                                clear hK K
                                go_simp
                                refine wpAny_done (by kernel_rfl) ?_ _
                                go_wp2
                                go_roundw
                                case rel => exact ⟨k + 1, ins (a, b, nm) out, by omega, by go_num, HFI.out, HNX.out, HFIN.out.1, HFIN.out.2⟩
                                case measure => simp [intOf]; omega
                              exact AllReady.nil
                            exact AllReady.nil
                          exact AllReady.nil
                        exact AllReady.nil
                      exact AllReady.nil
                    refine AllReady.cons rfl (fun K hK => ?_) ?_
                    · go_simp
                      refine hK _ _ ?_
                      clear hK K
                      go_simp
                      obtain ⟨W26, hW26⟩ : ∃ W26, W26 = W0.alloc (.cells #[.int .i32 a, .int .i32 b, .string s6] 39) := ⟨_, rfl⟩
                      obtain ⟨g26, hg26⟩ : ∃ g26, g26 = W0.heap.size := ⟨_, rfl⟩
                      have HB26 : Hid (Below b1 W0 W26) := by rw [hW26]; exact HB0.out.alloc (HBW0.out _ HB0.out) _
                      have HV26 : Hid (W26.ownsRow b1 39 3 (.slice (some ⟨g26, 0, none⟩) 1 1) 1 (flatR [(a, b, nm)])) := by rw [hW26, hg26]; exact own_base (lit_row W0 a b nm s6 HS6.out) (HBW0.out _ HB0.out)
                      rw [← hg26, ← hW26]
                      clear hW26 hg26
                      refine wpAny_ready (rs := [0]) (by kernel_rfl) (by simp) ?_
                      refine AllReady.cons rfl (fun K hK => ?_) ?_
                      · go_simp
                        refine hK _ _ ?_
                        clear hK K
                        go_simp
                        obtain ⟨W27, hW27⟩ : ∃ W27, W27 = W26.alloc (.cells #[] 39) := ⟨_, rfl⟩
                        obtain ⟨g27, hg27⟩ : ∃ g27, g27 = W26.heap.size := ⟨_, rfl⟩
                        have HB27 : Hid (Below b1 W0 W27) := by rw [hW27]; exact HB26.out.alloc (HBW0.out _ HB26.out) _
                        have HA27 : Hid (W27.ownsRow b1 39 3 (.slice (some ⟨g27, 0, none⟩) 0 0) 0 []) := by rw [hW27, hg27]; exact World.ownsRow_made W26 #[] 0 (HBW0.out _ HB26.out) (by simp [maxLen]) rfl
                        have HV27 : Hid (W27.ownsRow b1 39 3 (.slice (some ⟨g26, 0, none⟩) 1 1) 1 (flatR [(a, b, nm)])) := by rw [hW27]; exact own_alloc HV26.out _
                        have HNE27 : Hid (Value.ownBlock (.slice (some ⟨g26, 0, none⟩) 1 1) ≠ Value.ownBlock (.slice (some ⟨g27, 0, none⟩) 0 0)) := by
                          intro e
                          have := (HV26.out.lt g27 (e.trans rfl)).2
                          omega
                        rw [← hg27, ← hW27]
                        clear hW27 hg27
                        refine wpAny_ready (rs := [4]) (by kernel_rfl) (by simp) ?_
                        refine AllReady.cons rfl (fun K hK => ?_) ?_
                        · refine step_append_src rfl _ _ 23 rfl b1 39 i0 _ 3 24 Tryz.underlying23 HI.out.1 HI.out.2.1 HI.out.2.2.1 HI.out.2.2.2 rfl (by decide) (.slice (some ⟨g27, 0, none⟩) 0 0) 0 [] (by simp [Act.eval]) HA27.out ao q capo (flatR (out.take q)) (by simp [Act.eval]) (HSR.out _ HB27.out).1 (by unfold maxLen; omega) (by omega) (HBW0.out _ HB27.out) (fun v28 W28 h1 h2 => ?_)
                          refine hK _ _ ?_
                          clear hK K
                          have HA28 : Hid (W28.ownsRow b1 39 3 v28 q (flatR (out.take q))) := by
                            rw [Nat.zero_add, List.nil_append] at h1
                            exact h1
                          have HB28 : Hid (Below b1 W0 W28) := HB27.out.grown h2 (HBW0.out _ HB27.out) (fun k hk => (HA27.out.lt k hk).1)
                          have HV28 : Hid (W28.ownsRow b1 39 3 (.slice (some ⟨g26, 0, none⟩) 1 1) 1 (flatR [(a, b, nm)])) := HV27.out.kept h2 (.inr HNE27.out)
                          clear h1 h2
                          go_simp
                          refine wpAny_ready (rs := [7]) (by kernel_rfl) (by simp) ?_
                          refine AllReady.cons rfl (fun K hK => ?_) ?_
                          · obtain ⟨ad29, c29, he29, hs29⟩ := src_own HV28.out (flatR_cell1 _)
                            cases he29
                            refine step_append_src rfl _ _ 23 rfl b1 39 i0 _ 3 24 Tryz.underlying23 HI.out.1 HI.out.2.1 HI.out.2.2.1 HI.out.2.2.2 rfl (by decide) v28 q (flatR (out.take q)) (by simp [Act.eval]) HA28.out _ 1 1 (flatR [(a, b, nm)]) (by simp [Act.eval]) hs29 (by unfold maxLen; omega) (by omega) (HBW0.out _ HB28.out) (fun v29 W29 h1 h2 => ?_)
                            refine hK _ _ ?_
                            clear hK K
                            have HA29 : Hid (W29.ownsRow b1 39 3 v29 (q + 1) (flatR (out.take q) ++ flatR [(a, b, nm)])) := h1
                            have HB29 : Hid (Below b1 W0 W29) := HB28.out.grown h2 (HBW0.out _ HB28.out) (fun k hk => (HA28.out.lt k hk).1)
                            clear h1 h2 hs29
                            go_simp
                            refine wpAny_ready (rs := [11]) (by kernel_rfl) (by simp) ?_
                            refine AllReady.cons rfl (fun K hK => ?_) ?_
                            · refine step_append_src rfl _ _ 23 rfl b1 39 i0 _ 3 24 Tryz.underlying23 HI.out.1 HI.out.2.1 HI.out.2.2.1 HI.out.2.2.2 rfl (by decide) v29 (q + 1) (flatR (out.take q) ++ flatR [(a, b, nm)]) (by simp [Act.eval]) HA29.out a2 (j - q) c2 (flatR (out.drop q)) (by simp [Act.eval]) (HSR.out _ HB29.out).2 (by unfold maxLen; omega) (by omega) (HBW0.out _ HB29.out) (fun v30 W30 h1 h2 => ?_)
                              refine hK _ _ ?_
                              clear hK K
                              have HFIN : Hid (W30.ownsRow w.heap.size 39 3 v30 (ins (a, b, nm) out).length (flatR (ins (a, b, nm) out)) ∧ Below w1.heap.size w1 W30) := by
                                have hb2 : Below b1 W0 W30 := HB29.out.grown h2 (HBW0.out _ HB29.out) (fun k hk => (HA29.out.lt k hk).1)
                                exact rp_end W0 W30 wr w w1 b1 q j v30 out (a, b, nm) HB1E.out HZ.out.2.1 hb2 HBW.out.size HB.out hqj HOL.out HINS.out h1
                              clear h1 h2
                              go_simp
                              refine wpAny_ready (rs := [12]) (by kernel_rfl) (by simp) ?_
                              refine AllReady.cons rfl (fun K hK => ?_) ?_
                              · go_simp
                                refine hK _ _ ?_
                                clear hK K
                                go_simp
                                refine wpAny_done (by kernel_rfl) ?_ _
                                go_wp2
                                go_roundw
                                case rel => exact ⟨k + 1, ins (a, b, nm) out, by omega, by go_num, HFI.out, HNX.out, HFIN.out.1, HFIN.out.2⟩
                                case measure => simp [intOf]; omega
                              exact AllReady.nil
                            exact AllReady.nil
                          exact AllReady.nil
                        exact AllReady.nil
                      exact AllReady.nil
                    exact AllReady.nil
                  exact AllReady.nil
    · have HT : Hid (parseT bs = .inl out) := by
        show _ = _
        rw [HP.out, List.drop_of_length_le (by rw [← HN.out]; omega)]
        rfl
      go_wp2
      go_ret3
      exact ⟨HBW.out, .inl ⟨out, _, HT.out, rfl, HO.out⟩⟩
end Go.Proofs.YtgncpchgmjacdaaGreatDoor
