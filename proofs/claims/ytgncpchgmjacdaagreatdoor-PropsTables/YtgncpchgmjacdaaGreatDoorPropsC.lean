/- The walk of readRange: the range that is written so, or none. -/
import Derived.Test.YtgncpchgmjacdaaGreatDoorPropsB
import Derived.Laws.ResultCell
namespace Go.Proofs.YtgncpchgmjacdaaGreatDoor
open Go.RowKit
set_option linter.unusedVariables false

/-- A range's cells. -/
def encR (x : Rg) : List Value := [.int .i32 x.1, .int .i32 x.2.1, .string (strOfNums x.2.2)]
/-- What readRange answers. -/
def rr (s : List Int) : Rg × Bool := match rone s with
  | some x => (x, true)
  | none => ((0, 0, []), false)
theorem rr_no (s : List Int) (h : (cut1 59 s).2.2 = false ∨ nmOk (ltr (cut1 59 s).2.1) = false) : rr s = ((0, 0, []), false) := by
  have : rone s = none := by
    unfold rone
    rw [if_neg]
    rintro ⟨h1, h2⟩
    rcases h with h | h
    · rw [h] at h1; cases h1
    · rw [h] at h2; cases h2
  unfold rr; rw [this]
theorem rr_ends (s : List Int) (h1 : (cut1 59 s).2.2 = true) (h2 : nmOk (ltr (cut1 59 s).2.1) = true) :
    rr s = match rends (rtr (cut1 59 s).1) with | some p => ((p.1, p.2, ltr (cut1 59 s).2.1), true) | none => ((0, 0, []), false) := by
  unfold rr rone
  rw [if_pos ⟨h1, h2⟩]
  cases rends (rtr (cut1 59 s).1) <;> rfl
/-- The second number's text. -/
def oth (s : List Int) : List Int := if (cut2 s).2.2 then (cut2 s).2.1 else (cut2 s).1
theorem rn_snd (s : List Int) : ((rn s).2 = true ∧ rnum s = some (rn s).1) ∨ ((rn s).2 = false ∧ rnum s = none) := by
  unfold rn
  cases rnum s with
  | none => right; exact ⟨rfl, rfl⟩
  | some v => left; exact ⟨rfl, rfl⟩
theorem rends_rn (s : List Int) : rends s = if (rn (cut2 s).1).2 = true ∧ (rn (oth s)).2 = true then some ((rn (cut2 s).1).1, (rn (oth s)).1) else none := by
  unfold rends
  show (match rnum (cut2 s).1, rnum (oth s) with | some a, some b => some (a, b) | _, _ => none) = _
  rcases rn_snd (cut2 s).1 with ⟨h1, h2⟩ | ⟨h1, h2⟩ <;> rcases rn_snd (oth s) with ⟨h3, h4⟩ | ⟨h3, h4⟩
  · rw [h2, h4, if_pos ⟨h1, h3⟩]
  · rw [h2, h4, if_neg (by rw [h3]; simp)]
  · rw [h2, h4, if_neg (by rw [h1]; simp)]
  · rw [h2, h4, if_neg (by rw [h1]; simp)]

/-- A block of three cells: what it holds, and that it may be written. -/
theorem box3 {w : World} {B : Nat} {a b c : Value} {t : TypeId} (h : w.heap[B]? = some (.cells #[a, b, c] t)) :
    (w.cell? ⟨B, 0, none⟩ = some a ∧ w.cell? ⟨B, 1, none⟩ = some b ∧ w.cell? ⟨B, 2, none⟩ = some c) ∧ w.frozen? ⟨B, 0, none⟩ = false ∧ w.frozen? ⟨B, 1, none⟩ = false ∧ w.frozen? ⟨B, 2, none⟩ = false :=
  ⟨⟨cell_of_row w B 0 _ _ _ h, cell_of_row w B 1 _ _ _ h, cell_of_row w B 2 _ _ _ h⟩, Lib.frozen_of_heap h 0, Lib.frozen_of_heap h 1, Lib.frozen_of_heap h 2⟩
theorem below3 {w w2 : World} {B : Nat} (h : Below w.heap.size w w2) (hB : B = w.heap.size) (a b c : Value) : Below w.heap.size w (((w2.setCell ⟨B, 0, none⟩ a).setCell ⟨B, 1, none⟩ b).setCell ⟨B, 2, none⟩ c) := by
  subst hB
  exact ((h.setCell (p := ⟨w.heap.size, 0, none⟩) (Nat.le_refl _) _).setCell (p := ⟨w.heap.size, 1, none⟩) (Nat.le_refl _) _).setCell (p := ⟨w.heap.size, 2, none⟩) (Nat.le_refl _) _

set_option maxHeartbeats 2000000 in
theorem readRange_any (s : List Int) (w : World) (hr : ∀ y ∈ s, 0 ≤ y ∧ y ≤ 255) (hl : s.length < 4294967281) (hg : Gl w) :
    Calls Tryz.prog 69 #[.string (strOfNums s)] w fun e w' => e = .returned (.tuple #[.agg (encR (rr s).1).toArray, .bool (rr s).2]) ∧ Below w.heap.size w w' := by
  obtain ⟨ends, cls, ok, hcut⟩ : ∃ a b c, cut1 59 s = (a, b, c) := ⟨_, _, _, rfl⟩
  obtain ⟨c1, c2, c3, c4⟩ := cut1_rng 59 s hr
  rw [hcut] at c1 c2 c3 c4
  obtain ⟨d1, d2⟩ := ltr_rng cls c2
  obtain ⟨e1, e2⟩ := rtr_rng ends c1
  obtain ⟨f1, f2, f3, f4⟩ := cut2_rng (rtr ends) e1
  simp only [] at c3 c4
  obtain ⟨R, hR⟩ : ∃ R, R = rr s := ⟨_, rfl⟩
  rw [← hR]
  have HR : Hid (∀ y ∈ s, 0 ≤ y ∧ y ≤ 255) := hr
  have HG : Hid (Gl w) := hg
  have HCUT : Hid (cut1 59 s = (ends, cls, ok)) := hcut
  have HRR : Hid (R = rr s) := hR
  have HC2 : Hid (∀ y ∈ cls, 0 ≤ y ∧ y ≤ 255) := c2
  have HC1 : Hid (∀ y ∈ ends, 0 ≤ y ∧ y ≤ 255) := c1
  have HD1 : Hid (∀ y ∈ ltr cls, 0 ≤ y ∧ y ≤ 255) := d1
  have HE1 : Hid (∀ y ∈ rtr ends, 0 ≤ y ∧ y ≤ 255) := e1
  have HL1 : Hid (ends.length < 4294967281 ∧ cls.length < 4294967281 ∧ (ltr cls).length ≤ 9223372036854775807 ∧ (rtr ends).length < 4294967281) := ⟨by omega, by omega, by omega, by omega⟩
  obtain ⟨one, two, more, hcut2⟩ : ∃ a b c, cut2 (rtr ends) = (a, b, c) := ⟨_, _, _, rfl⟩
  rw [hcut2] at f1 f2 f3 f4
  simp only [] at f3 f4
  have HCUT2 : Hid (cut2 (rtr ends) = (one, two, more)) := hcut2
  have HF1 : Hid (∀ y ∈ one, 0 ≤ y ∧ y ≤ 255) := f1
  have HF2 : Hid (∀ y ∈ two, 0 ≤ y ∧ y ≤ 255) := f2
  have HL2 : Hid (one.length ≤ 9223372036854775807 ∧ two.length ≤ 9223372036854775807) := ⟨by omega, by omega⟩
  have HB0 : Hid (∀ o : Obj, Below w.heap.size w (w.alloc o) ∧ Gl (w.alloc o)) := fun o => ⟨(Below.refl _ w).alloc (Nat.le_refl _) o, hg.later ((Below.refl _ w).alloc (Nat.le_refl _) o)⟩
  clear hr hg hcut hR c1 c2 c3 c4 d1 d2 e1 e2 f1 f2 f3 f4 hcut2
  go_enter Tryz.func69, Tryz.ntmps69
  go_wp2_with fail
  refine (cut_one 59 (by omega) s _ HR.out hl (HB0.out _).2).mono ?_
  rw [show ((59 : Nat) : Int) = 59 from rfl, HCUT.out]
  rintro e w1 ⟨rfl, hb1⟩
  obtain ⟨B, hB⟩ : ∃ B, B = w.heap.size := ⟨_, rfl⟩
  have HBB : Hid (B = w.heap.size) := hB
  have HB1 : Hid (Below w.heap.size w w1) := (HB0.out _).1.trans (hb1.mono (by simp))
  have HG1 : Hid (Gl w1) := (HB0.out _).2.later hb1
  have HX1 : Hid (w1.heap[B]? = some (.cells #[.int .i32 0, .int .i32 0, .string ⟨#[]⟩] 39) ∧ B < w1.heap.size) := by
    refine ⟨?_, ?_⟩
    · rw [hB, hb1.block _ (by simp)]; exact heap_alloc_new w _
    · have := hb1.size; simp at this; omega
  rw [← hB]
  clear hb1 hB
  go_wp2_with fail
  refine (trimL_any cls _ HC2.out HL1.out.2.1).mono ?_
  rintro e w2 ⟨rfl, hb2⟩
  have HB2 : Hid (Below w.heap.size w w2) := HB1.out.trans (hb2.mono HB1.out.size)
  have HG2 : Hid (Gl w2) := HG1.out.later hb2
  have HX2 : Hid (w2.heap[B]? = some (.cells #[.int .i32 0, .int .i32 0, .string ⟨#[]⟩] 39) ∧ B < w2.heap.size) := ⟨by rw [hb2.block _ HX1.out.2]; exact HX1.out.1, Nat.lt_of_lt_of_le HX1.out.2 hb2.size⟩
  clear hb2
  by_cases hno : ok = false ∨ nmOk (ltr cls) = false
  · have hR : R = ((0, 0, []), false) := HRR.out.trans (rr_no s (by rw [HCUT.out]; exact hno))
    subst hR
    obtain ⟨⟨k0, k1, k2⟩, g0, g1, g2⟩ := box3 HX2.out.1
    have HNO : Hid (ok = false ∨ nmOk (ltr cls) = false) := hno
    clear hno
    cases ok with
    | false =>
      go_wp2_with fail
      refine bodyPost_ret (v := .tuple #[.agg (encR (0, 0, [])).toArray, .bool false]) ?_ rfl ⟨rfl, below3 HB2.out HBB.out _ _ _⟩
      rw [results_cell_tmp rfl]
      go_simp
      rfl
    | true =>
      have HN : Hid (nmOk (ltr cls) = false) := by
        rcases HNO.out with h | h
        · cases h
        · exact h
      go_wp2_with fail
      refine (isName_any (ltr cls) _ HD1.out HL1.out.2.2.1).mono ?_
      rw [HN.out]
      rintro e w' ⟨rfl, hw'⟩
      obtain rfl : w2 = w' := hw'.symm
      go_wp2_with fail
      refine bodyPost_ret (v := .tuple #[.agg (encR (0, 0, [])).toArray, .bool false]) ?_ rfl ⟨rfl, below3 HB2.out HBB.out _ _ _⟩
      rw [results_cell_tmp rfl]
      go_simp
      rfl
  · have hok : ok = true := by
      cases ok with
      | true => rfl
      | false => exact absurd (Or.inl rfl) hno
    have HN : Hid (nmOk (ltr cls) = true) := by
      show nmOk (ltr cls) = true
      cases h : nmOk (ltr cls) with
      | true => rfl
      | false => exact absurd (Or.inr h) hno
    subst hok
    clear hno
    go_wp2_with fail
    refine (isName_any (ltr cls) _ HD1.out HL1.out.2.2.1).mono ?_
    rw [HN.out]
    rintro e w' ⟨rfl, hw'⟩
    obtain rfl : w2 = w' := hw'.symm
    go_wp2_with fail
    refine (trimR_any ends _ HC1.out HL1.out.1).mono ?_
    rintro e w3 ⟨rfl, hb3⟩
    have HB3 : Hid (Below w.heap.size w w3) := HB2.out.trans (hb3.mono HB2.out.size)
    have HG3 : Hid (Gl w3) := HG2.out.later hb3
    have HX3 : Hid (w3.heap[B]? = some (.cells #[.int .i32 0, .int .i32 0, .string ⟨#[]⟩] 39) ∧ B < w3.heap.size) := ⟨by rw [hb3.block _ HX2.out.2]; exact HX2.out.1, Nat.lt_of_lt_of_le HX2.out.2 hb3.size⟩
    clear hb3
    go_wp2_with fail
    refine (cut_two (rtr ends) _ HE1.out HL1.out.2.2.2 HG3.out).mono ?_
    rw [HCUT2.out]
    rintro e w4 ⟨rfl, hb4⟩
    have HB4 : Hid (Below w.heap.size w w4) := HB3.out.trans (hb4.mono HB3.out.size)
    have HX4 : Hid (w4.heap[B]? = some (.cells #[.int .i32 0, .int .i32 0, .string ⟨#[]⟩] 39) ∧ B < w4.heap.size) := ⟨by rw [hb4.block _ HX3.out.2]; exact HX3.out.1, Nat.lt_of_lt_of_le HX3.out.2 hb4.size⟩
    clear hb4
    obtain ⟨⟨k0, k1, k2⟩, g0, g1, g2⟩ := box3 HX4.out.1
    obtain ⟨o2, ho2⟩ : ∃ o2, o2 = if more = true then two else one := ⟨_, rfl⟩
    have HO2 : Hid (oth (rtr ends) = o2) := by show oth (rtr ends) = o2; unfold oth; rw [HCUT2.out, ho2]
    have HOR : Hid (∀ y ∈ o2, 0 ≤ y ∧ y ≤ 255) := by
      show ∀ y ∈ o2, 0 ≤ y ∧ y ≤ 255
      rw [ho2]; split
      · exact HF2.out
      · exact HF1.out
    have HOL : Hid (o2.length ≤ 9223372036854775807) := by
      show o2.length ≤ 9223372036854775807
      rw [ho2]; split
      · exact HL2.out.2
      · exact HL2.out.1
    obtain ⟨v1, b1, hv1⟩ : ∃ a b, rn one = (a, b) := ⟨_, _, rfl⟩
    obtain ⟨v2, b2, hv2⟩ : ∃ a b, rn o2 = (a, b) := ⟨_, _, rfl⟩
    have HV1 : Hid (rn one = (v1, b1)) := hv1
    have HV2 : Hid (rn o2 = (v2, b2)) := hv2
    have HRE : Hid (R = if b1 = true ∧ b2 = true then ((v1, v2, ltr cls), true) else ((0, 0, []), false)) := by
      show R = _
      rw [HRR.out, rr_ends s (by rw [HCUT.out]) (by rw [HCUT.out]; exact HN.out), HCUT.out, rends_rn, HO2.out, HCUT2.out]
      show (match (if (rn one).2 = true ∧ (rn o2).2 = true then some ((rn one).1, (rn o2).1) else none) with | some p => ((p.1, p.2, ltr cls), true) | none => ((0, 0, []), false)) = _
      rw [hv1, hv2]
      by_cases hb : b1 = true ∧ b2 = true
      · rw [if_pos hb, if_pos hb]
      · rw [if_neg hb, if_neg hb]
    clear hv1 hv2
    cases more with
    | true =>
      simp only [if_true] at ho2
      subst ho2
      go_wp2_with fail
      refine (readNumber_any one _ HF1.out HL2.out.1).mono ?_
      rw [HV1.out]
      rintro e w' ⟨rfl, hw'⟩
      obtain rfl : w4 = w' := hw'.symm
      go_wp2_with fail
      refine (readNumber_any o2 _ HOR.out HOL.out).mono ?_
      rw [HV2.out]
      rintro e w' ⟨rfl, hw'⟩
      obtain rfl : w4 = w' := hw'.symm
      cases b1 with
      | false =>
        have hR : R = ((0, 0, []), false) := by rw [HRE.out, if_neg (by simp)]
        subst hR
        go_wp2_with fail
        refine bodyPost_ret (v := .tuple #[.agg (encR (0, 0, [])).toArray, .bool false]) ?_ rfl ⟨rfl, below3 HB4.out HBB.out _ _ _⟩
        rw [results_cell_tmp rfl]
        go_simp
        rfl
      | true =>
        cases b2 with
        | false =>
          have hR : R = ((0, 0, []), false) := by rw [HRE.out, if_neg (by simp)]
          subst hR
          go_wp2_with fail
          refine bodyPost_ret (v := .tuple #[.agg (encR (0, 0, [])).toArray, .bool false]) ?_ rfl ⟨rfl, below3 HB4.out HBB.out _ _ _⟩
          rw [results_cell_tmp rfl]
          go_simp
          rfl
        | true =>
          have hR : R = ((v1, v2, ltr cls), true) := by rw [HRE.out, if_pos ⟨rfl, rfl⟩]
          subst hR
          go_wp2_with fail
          refine bodyPost_ret (v := .tuple #[.agg (encR (v1, v2, ltr cls)).toArray, .bool true]) ?_ rfl ⟨rfl, below3 HB4.out HBB.out _ _ _⟩
          rw [results_cell_tmp rfl]
          go_simp
          rfl
    | false =>
      simp only [Bool.false_eq_true, if_false] at ho2
      subst ho2
      go_wp2_with fail
      refine (readNumber_any o2 _ HF1.out HL2.out.1).mono ?_
      rw [HV1.out]
      rintro e w' ⟨rfl, hw'⟩
      obtain rfl : w4 = w' := hw'.symm
      go_wp2_with fail
      refine (readNumber_any o2 _ HOR.out HOL.out).mono ?_
      rw [HV2.out]
      rintro e w' ⟨rfl, hw'⟩
      obtain rfl : w4 = w' := hw'.symm
      cases b1 with
      | false =>
        have hR : R = ((0, 0, []), false) := by rw [HRE.out, if_neg (by simp)]
        subst hR
        go_wp2_with fail
        refine bodyPost_ret (v := .tuple #[.agg (encR (0, 0, [])).toArray, .bool false]) ?_ rfl ⟨rfl, below3 HB4.out HBB.out _ _ _⟩
        rw [results_cell_tmp rfl]
        go_simp
        rfl
      | true =>
        cases b2 with
        | false =>
          have hR : R = ((0, 0, []), false) := by rw [HRE.out, if_neg (by simp)]
          subst hR
          go_wp2_with fail
          refine bodyPost_ret (v := .tuple #[.agg (encR (0, 0, [])).toArray, .bool false]) ?_ rfl ⟨rfl, below3 HB4.out HBB.out _ _ _⟩
          rw [results_cell_tmp rfl]
          go_simp
          rfl
        | true =>
          have hR : R = ((v1, v2, ltr cls), true) := by rw [HRE.out, if_pos ⟨rfl, rfl⟩]
          subst hR
          go_wp2_with fail
          refine bodyPost_ret (v := .tuple #[.agg (encR (v1, v2, ltr cls)).toArray, .bool true]) ?_ rfl ⟨rfl, below3 HB4.out HBB.out _ _ _⟩
          rw [results_cell_tmp rfl]
          go_simp
          rfl
end Go.Proofs.YtgncpchgmjacdaaGreatDoor
