/- In one text: DfaRe, TabG, TabH, TabK, DfaRf, DfaRh, DfaRi, TabI. -/
import Derived.Test.YthdeadmnicmgfaaDoorJ27
import Derived.Test.YthdeadmnicmgfaaDoorJ26
import Derived.Test.YthdeadmnicmgfaaDoorJ28
import Derived.Test.YthdeadmnicmgfaaDoorJ25
/- A small expression has a small machine; the machine of one character. -/
namespace Go.Proofs.YthdeadmnicmgfaaDoor
open Go.RowKit Go.Shelf Go.Maps
set_option linter.unusedVariables false
set_option linter.unusedSimpArgs false

theorem meet_rch {S : Type} {K : Nat} {step : S → Nat → S} {first : S} {met : List S} {nx : List (List Nat)} (h : MeetP K step first met nx) (hl : nx.length = met.length) : ∀ x, x ∈ met → Rch K step first x := by
  intro x hx
  obtain ⟨i, hi, rfl⟩ := List.getElem_of_mem hx
  obtain ⟨w, hw, he⟩ := table_met (meet_asMet h hl) h.wide i (by rw [hl]; exact hi)
  have := meet_run h hl w hw 0 _ h.one
  rw [he, List.getElem?_eq_getElem hi] at this
  exact ⟨w, hw, Option.some.inj this⟩
/-- A character of the first class. -/
def oneX : Nd × Bool := (⟨1, [0], .nil⟩, false)
def oneA : Nat × Bool := fiO oneX
def oneB : Nat × Bool := stO oneX oneA 0
theorem one_steps : oneA ≠ oneB ∧ stO oneX oneA 0 = oneB ∧ stO oneX oneA 1 = oneA ∧ stO oneX oneB 0 = oneB ∧ stO oneX oneB 1 = oneA ∧ oneA.2 = false ∧ oneB.2 = true := by decide
def oneN : List (List Nat) := [[1, 0], [1, 0]]
theorem one_meet : MeetP 2 (stO oneX) (fiO oneX) [oneA, oneB] oneN := by
  obtain ⟨s0, s1, s2, s3, s4, _⟩ := one_steps
  refine ⟨rfl, by simp [s0], rfl, fun r hr => by simp [oneN] at hr; rw [hr]; rfl, fun i x hi hx c hc => ?_⟩
  have hi2 : i = 0 ∨ i = 1 := by simp [oneN] at hi; omega
  have hc2 : c = 0 ∨ c = 1 := by omega
  rcases hi2 with rfl | rfl <;> rcases hc2 with rfl | rfl <;> simp at hx <;> subst hx
  · rw [s1]; rfl
  · rw [s2]; rfl
  · rw [s3]; rfl
  · rw [s4]; rfl
theorem one_least : LeastOf 2 [oneX] oneN [0, 1] := by
  obtain ⟨s0, s1, s2, s3, s4, s5, s6⟩ := one_steps
  refine ⟨rfl, fun r hr => by simp [oneN] at hr; rw [hr]; rfl, fun i j hi hj h => ?_, rfl, fun w hw i => ?_⟩
  · have := h [] (by simp)
    simp only [runM_nil] at this
    have hi2 : i = 0 ∨ i = 1 := by simp [oneN] at hi; omega
    have hj2 : j = 0 ∨ j = 1 := by simp [oneN] at hj; omega
    rcases hi2 with rfl | rfl <;> rcases hj2 with rfl | rfl <;> simp at this <;> rfl
  · refine situ_tells (K := 2) (xs := [oneX]) (mets := [[oneA, oneB]]) (nxs := [oneN]) (met := [[0], [1]]) (nx := oneN) (ou := [0, 1]) (fun x hx => ?_) rfl rfl ?_ ?_ rfl ?_ w hw i
    · rw [List.mem_singleton.1 hx]
      exact (Nd.ok_right (n := oneX.1) (by decide)).1
    · intro i x m N h1 h2 h3
      match i, h1, h2, h3 with
      | 0, h1, h2, h3 =>
        simp at h1 h2 h3
        subst h1 h2 h3
        exact ⟨one_meet, rfl⟩
      | i + 1, h1, h2, h3 => simp at h1
    · refine ⟨rfl, by simp, rfl, fun r hr => by simp [oneN] at hr; rw [hr]; rfl, fun i x hi hx c hc => ?_⟩
      have hi2 : i = 0 ∨ i = 1 := by simp [oneN] at hi; omega
      have hc2 : c = 0 ∨ c = 1 := by omega
      rcases hi2 with rfl | rfl <;> rcases hc2 with rfl | rfl <;> simp at hx <;> subst hx <;> rfl
    · simp [bitsN, s5, s6]
end Go.Proofs.YthdeadmnicmgfaaDoor

/- The machines of one character; set, and shown. -/
namespace Go.Proofs.YthdeadmnicmgfaaDoor
open Go.RowKit Go.Shelf Go.Maps
set_option linter.unusedVariables false
set_option linter.unusedSimpArgs false

/-- One expression of two spots is not too big. -/
theorem two_not_big {K : Nat} {x : Nd × Bool} {a b : Nat × Bool} {N : List (List Nat)} {ou : List Nat} (hm : MeetP K (stO x) (fiO x) [a, b] N) (hN : N.length = 2) (hs : MeetP K (stepAll [N]) (List.replicate 1 0) [[0], [1]] N) (hl : LeastOf K [x] N ou) : ¬ BigC K [x] := by
  rintro (h | h)
  · refine not_many (Ms := [[a, b]]) (nxs := [N]) (met := [[0], [1]]) (nx := N) rfl rfl ?_ hs (by rw [hN]; rfl) (by simp) h
    intro i y m M h1 h2 h3
    match i, h1, h2, h3 with
    | 0, h1, h2, h3 =>
      simp at h1 h2 h3
      subst h1 h2 h3
      exact ⟨⟨hm, by rw [hN]; rfl⟩, by simp, meet_rch hm (by rw [hN]; rfl)⟩
    | i + 1, h1, h2, h3 => simp at h1
  · exact not_far hl (by omega) h
/-- A character of the second class. -/
def twoX : Nd × Bool := (⟨1, [1], .nil⟩, false)
def twoA : Nat × Bool := fiO twoX
def twoB : Nat × Bool := stO twoX twoA 1
theorem two_steps : twoA ≠ twoB ∧ stO twoX twoA 0 = twoA ∧ stO twoX twoA 1 = twoB ∧ stO twoX twoB 0 = twoA ∧ stO twoX twoB 1 = twoB ∧ twoA.2 = false ∧ twoB.2 = true := by decide
def twoN : List (List Nat) := [[0, 1], [0, 1]]
theorem two_meet : MeetP 2 (stO twoX) (fiO twoX) [twoA, twoB] twoN := by
  obtain ⟨s0, s1, s2, s3, s4, _⟩ := two_steps
  refine ⟨rfl, by simp [s0], rfl, fun r hr => by simp [twoN] at hr; rw [hr]; rfl, fun i x hi hx c hc => ?_⟩
  have hi2 : i = 0 ∨ i = 1 := by simp [twoN] at hi; omega
  have hc2 : c = 0 ∨ c = 1 := by omega
  rcases hi2 with rfl | rfl <;> rcases hc2 with rfl | rfl <;> simp at hx <;> subst hx
  · rw [s1]; rfl
  · rw [s2]; rfl
  · rw [s3]; rfl
  · rw [s4]; rfl
theorem two_sit (N : List (List Nat)) (h : N = oneN ∨ N = twoN) : MeetP 2 (stepAll [N]) (List.replicate 1 0) [[0], [1]] N := by
  rcases h with rfl | rfl
  all_goals
    refine ⟨rfl, by simp, rfl, fun r hr => by simp [twoN, oneN] at hr; rw [hr]; rfl, fun i x hi hx c hc => ?_⟩
    have hi2 : i = 0 ∨ i = 1 := by simp [twoN, oneN] at hi; omega
    have hc2 : c = 0 ∨ c = 1 := by omega
    rcases hi2 with rfl | rfl <;> rcases hc2 with rfl | rfl <;> simp at hx <;> subst hx <;> rfl
theorem two_least : LeastOf 2 [twoX] twoN [0, 1] := by
  obtain ⟨s0, s1, s2, s3, s4, s5, s6⟩ := two_steps
  refine ⟨rfl, fun r hr => by simp [twoN] at hr; rw [hr]; rfl, fun i j hi hj h => ?_, rfl, fun w hw i => ?_⟩
  · have := h [] (by simp)
    simp only [runM_nil] at this
    have hi2 : i = 0 ∨ i = 1 := by simp [twoN] at hi; omega
    have hj2 : j = 0 ∨ j = 1 := by simp [twoN] at hj; omega
    rcases hi2 with rfl | rfl <;> rcases hj2 with rfl | rfl <;> simp at this <;> rfl
  · refine situ_tells (K := 2) (xs := [twoX]) (mets := [[twoA, twoB]]) (nxs := [twoN]) (met := [[0], [1]]) (nx := twoN) (ou := [0, 1]) (fun x hx => ?_) rfl rfl ?_ (two_sit _ (.inr rfl)) rfl ?_ w hw i
    · rw [List.mem_singleton.1 hx]
      exact (Nd.ok_right (n := twoX.1) (by decide)).1
    · intro i x m N h1 h2 h3
      match i, h1, h2, h3 with
      | 0, h1, h2, h3 =>
        simp at h1 h2 h3
        subst h1 h2 h3
        exact ⟨two_meet, rfl⟩
      | i + 1, h1, h2, h3 => simp at h1
    · simp [bitsN, s5, s6]
theorem one_not_big : ¬ BigC 2 [oneX] := two_not_big one_meet rfl (two_sit _ (.inl rfl)) one_least
theorem two_not_bigX : ¬ BigC 2 [twoX] := two_not_big two_meet rfl (two_sit _ (.inr rfl)) two_least
/-- The rule that is looked at first. -/
def shRl : Rl := ⟨⟨1, [0], .nil⟩, ⟨1, [1], .nil⟩, false, false⟩
theorem sh_right : xsR [shRl] = [twoX] := rfl
theorem sh_good : cmB 2 [shRl] = true := by decide
theorem sh_bad : cmB 0 [] = false := by decide
set_option maxHeartbeats 2000000 in
theorem set9_any (c : Int) (w : World) : Calls Tryd.prog 27 #[.int .i64 c] w fun e w' => ∃ g, e = .returned (.agg #[.int .i64 1, .slice (some ⟨g, 0, none⟩) 1 1, .slice none 0 0]) ∧ w'.cell? ⟨g, 0, none⟩ = some (.int .i64 c) ∧ Below w.heap.size w w' := by
  have HFIN : Hid (∃ g, Ending.returned (.agg #[.int .i64 1, .slice (some ⟨w.heap.size + 1, 0, none⟩) 1 1, .slice none 0 0]) = .returned (.agg #[.int .i64 1, .slice (some ⟨g, 0, none⟩) 1 1, .slice none 0 0]) ∧ ((w.alloc (.cells #[.int .i64 1, .slice (some ⟨w.heap.size + 1, 0, none⟩) 1 1, .slice none 0 0] 38)).alloc (.cells #[.int .i64 c] 3)).cell? ⟨g, 0, none⟩ = some (.int .i64 c) ∧ Below w.heap.size w ((w.alloc (.cells #[.int .i64 1, .slice (some ⟨w.heap.size + 1, 0, none⟩) 1 1, .slice none 0 0] 38)).alloc (.cells #[.int .i64 c] 3))) :=
    ⟨w.heap.size + 1, rfl, (cell_of_row _ _ 0 _ _ _ (new_at2 w _ _)).trans (by simp), ((Below.refl _ w).alloc (Nat.le_refl _) _).alloc (by simp) _⟩
  go_enter Tryd.func27, Tryd.ntmps27
  go_wp2
  refine bodyPost_ret (v := .agg #[.int .i64 1, .slice (some ⟨w.heap.size + 1, 0, none⟩) 1 1, .slice none 0 0]) ?_ rfl HFIN.out
  rw [results_cell_one rfl]
  go_simp
end Go.Proofs.YthdeadmnicmgfaaDoor

/- The walk of shown. -/
namespace Go.Proofs.YthdeadmnicmgfaaDoor
open Go.RowKit Go.Shelf Go.Maps
set_option linter.unusedVariables false
set_option linter.unusedSimpArgs false

set_option maxRecDepth 100000 in
set_option maxHeartbeats 8000000 in
theorem shown9_any (w : World) (hT : TabD w) : Calls Tryd.prog 16 #[] w fun e w' => e = .returned (.bool true) ∧ Below w.heap.size w w' := by
  have HTD : Hid (TabD w) := hT
  clear hT
  obtain ⟨w1, hw1⟩ : ∃ w1, w1 = w.alloc (.cells #[.string ⟨#[97]⟩, .string ⟨#[98]⟩] 9) := ⟨_, rfl⟩
  obtain ⟨H, hH⟩ : ∃ H, H = w.heap.size := ⟨_, rfl⟩
  have HB1 : Hid (Below w.heap.size w w1) := by rw [hw1]; exact (Below.refl _ w).alloc (Nat.le_refl _) _
  have HS : Hid (∀ (c : Int) (V : World), Calls Tryd.prog 27 #[.int .i64 c] V fun e w' => ∃ g, e = .returned (.agg #[.int .i64 1, .slice (some ⟨g, 0, none⟩) 1 1, .slice none 0 0]) ∧ w'.cell? ⟨g, 0, none⟩ = some (.int .i64 c) ∧ Below V.heap.size V w') := fun c V => set9_any c V
  go_enter Tryd.func16, Tryd.ntmps16
  go_wp2_with fail
  rw [← hH, ← hw1]
  clear hH hw1
  refine (HS.out 0 w1).mono ?_
  rintro e w2 ⟨g, rfl, hg2, hb2⟩
  have HB2 : Hid (Below w.heap.size w w2) := HB1.out.trans (hb2.mono HB1.out.size)
  have HG2 : Hid (w2.cell? ⟨g, 0, none⟩ = some (.int .i64 0)) := hg2
  clear hb2 hg2 HB1
  go_wp2_with fail
  refine (HS.out 1 w2).mono ?_
  rintro e w3 ⟨g', rfl, hg3, hb3⟩
  have HB3 : Hid (Below w.heap.size w w3) := HB2.out.trans (hb3.mono HB2.out.size)
  have HG3 : Hid (w3.cell? ⟨g, 0, none⟩ = some (.int .i64 0) ∧ w3.cell? ⟨g', 0, none⟩ = some (.int .i64 1)) := ⟨upC hb3 HG2.out, hg3⟩
  clear hb3 hg3 HB2 HG2
  obtain ⟨W, hW⟩ : ∃ W, W = w3.alloc (.cells #[.int .i64 1, .slice (some ⟨g, 0, none⟩) 1 1, .slice none 0 0, .int .i64 1, .slice (some ⟨g', 0, none⟩) 1 1, .slice none 0 0, .bool false, .bool false] 64) := ⟨_, rfl⟩
  obtain ⟨B, hB⟩ : ∃ B, B = w3.heap.size := ⟨_, rfl⟩
  have hb4 : Below w3.heap.size w3 W := by rw [hW]; exact (Below.refl _ w3).alloc (Nat.le_refl _) _
  have hbk : W.heap[B]? = some (.cells #[.int .i64 1, .slice (some ⟨g, 0, none⟩) 1 1, .slice none 0 0, .int .i64 1, .slice (some ⟨g', 0, none⟩) 1 1, .slice none 0 0, .bool false, .bool false] 64) := by rw [hW, hB]; exact heap_alloc_new w3 _
  have HBW : Hid (Below w.heap.size w W) := HB3.out.trans (hb4.mono HB3.out.size)
  have rd1 : ∀ (x : Nat) (c : Int), W.cell? ⟨x, 0, none⟩ = some (.int .i64 c) → Rd .i64 W (some ⟨x, 0, none⟩) 1 [c] := fun x c h => ⟨rfl, fun _ => ⟨x, 0, rfl, fun i hi => by
    have h0 : i = 0 := by omega
    rw [h0]
    exact h⟩⟩
  have hR : RowR W 1 (some ⟨B, 0, none⟩) 1 [shRl] := by
    refine ⟨rfl, fun i hi => ?_⟩
    obtain rfl : i = 0 := by simp at hi; omega
    refine ⟨B, 0, ⟨some ⟨g, 0, none⟩, 1, none, 0, some ⟨g', 0, none⟩, 1, none, 0⟩, rfl, ⟨InV.leaf W 0 1 [0] _ 1 (rd1 g 0 (upC hb4 HG3.out.1)) (by simp) (fun h => by cases h), InV.leaf W 0 1 [1] _ 1 (rd1 g' 1 (upC hb4 HG3.out.2)) (by simp) (fun h => by cases h)⟩, fun j v hv => ?_⟩
    rw [show 0 + 0 * 8 + j = j by omega, cell_of_row W B j _ _ _ hbk]
    exact hv
  have HC1 : Hid (Calls Tryd.prog 18 #[.agg #[.slice (some ⟨H, 0, none⟩) 2 2, .slice (some ⟨B, 0, none⟩) 1 1]] W (CmpP 2 [shRl] W)) := compile_any 1 2 [shRl] (some ⟨H, 0, none⟩) (some ⟨B, 0, none⟩) 2 1 W (HTD.out.later HBW.out) hR (by simp)
  clear hb4 hbk rd1 hR HB3 HG3
  go_wp2_with fail
  rw [← hB, ← hW]
  clear hB hW
  refine HC1.out.mono ?_
  rintro e w4 ⟨hb4, hor⟩
  have HB4 : Hid (Below w.heap.size w w4) := HBW.out.trans (hb4.mono HBW.out.size)
  clear hb4 HC1
  rcases hor with ⟨hal, _⟩ | ⟨_, ⟨_, htb | htb⟩ | ⟨tb, rfl, htw, hta, _⟩⟩
  · exact absurd hal (by rw [sh_good]; decide)
  · exact absurd htb one_not_big
  · exact absurd htb (by rw [sh_right]; exact two_not_bigX)
  · have HTA : Hid (∃ la lb, w4.heap[tb]? = some (.cells #[.pointer (some ⟨la, 0, none⟩), .pointer (some ⟨lb, 0, none⟩), .int .u64 0, .int .i64 1] 58) ∧ MchAt w4 la 2 oneN [0, 1] ∧ MchAt w4 lb 2 twoN [0, 1]) := by
      obtain ⟨la, lb, nxA, ouA, nxB, ouB, q1, q2, q3, _, q4, q5, _⟩ := hta
      rw [sh_right] at q5
      obtain ⟨rfl, rfl⟩ := least_one q3 one_least
      obtain ⟨rfl, rfl⟩ := least_one q5 two_least
      exact ⟨la, lb, q1, q2, q4⟩
    clear hta htw
    have HC2 : Hid (Calls Tryd.prog 18 #[.agg #[.slice none 0 0, .slice none 0 0]] w4 (CmpP 0 [] w4)) := compile_any 0 0 [] none none 0 0 w4 (HTD.out.later HB4.out) ⟨rfl, fun i hi => absurd hi (by simp)⟩ (by simp)
    go_wp2_with fail
    refine HC2.out.mono ?_
    rintro e w5 ⟨hb5, hor⟩
    have HB5 : Hid (Below w.heap.size w w5) := HB4.out.trans (hb5.mono HB4.out.size)
    obtain ⟨la, lb, t1, t2, t3⟩ := HTA.out
    replace t1 := (hb5.block tb (Array.getElem?_eq_some_iff.1 t1).1).trans t1
    replace t2 := t2.later hb5
    replace t3 := t3.later hb5
    clear hb5 HC2 HTA
    rcases hor with ⟨_, rfl⟩ | ⟨hal, _⟩
    rotate_left
    · exact absurd hal (by rw [sh_bad]; decide)
    have c0 : w5.cell? ⟨tb, 0, none⟩ = some (.pointer (some ⟨la, 0, none⟩)) := cell_of_row w5 tb 0 _ _ _ t1
    have c1 : w5.cell? ⟨tb, 1, none⟩ = some (.pointer (some ⟨lb, 0, none⟩)) := cell_of_row w5 tb 1 _ _ _ t1
    have c2 : w5.cell? ⟨tb, 2, none⟩ = some (.int .u64 0) := cell_of_row w5 tb 2 _ _ _ t1
    have c3 : w5.cell? ⟨tb, 3, none⟩ = some (.int .i64 1) := cell_of_row w5 tb 3 _ _ _ t1
    obtain ⟨oa, oc, a2⟩ : ∃ oa oc, w5.cell? ⟨la, 2, none⟩ = some (.slice oa 2 oc) := by
      obtain ⟨na, nc, oa, oc, m1, _⟩ := t2
      exact ⟨oa, oc, cell_of_row w5 la 2 _ _ _ m1⟩
    obtain ⟨ob, od, b2⟩ : ∃ oa oc, w5.cell? ⟨lb, 2, none⟩ = some (.slice oa 2 oc) := by
      obtain ⟨na, nc, oa, oc, m1, _⟩ := t3
      exact ⟨oa, oc, cell_of_row w5 lb 2 _ _ _ m1⟩
    have HD1 : Hid (Calls Tryd.prog 22 #[.pointer (some ⟨tb, 0, none⟩), .int .u64 1, .int .u64 1] w5 fun e w' => e = .returned (.bool false) ∧ w' = w5) := by
      have := decide_any w5 tb 1 0 1 1 _ _ t1 (by decide) (by decide) (by decide) (by decide)
      rw [show dcB 0 (1 &&& 1) 1 0 = false by decide] at this
      exact this
    have HD2 : Hid (Calls Tryd.prog 22 #[.pointer (some ⟨tb, 0, none⟩), .int .u64 1, .int .u64 0] w5 fun e w' => e = .returned (.bool true) ∧ w' = w5) := by
      have := decide_any w5 tb 1 0 1 0 _ _ t1 (by decide) (by decide) (by decide) (by decide)
      rw [show dcB 0 (1 &&& 0) 1 0 = true by decide] at this
      exact this
    have HEQ : Hid (Calls Tryd.prog 20 #[.pointer (some ⟨tb, 0, none⟩), .pointer (some ⟨tb, 0, none⟩)] w5 fun e w' => e = .returned (.bool true) ∧ Below w5.heap.size w5 w') := by
      refine teq_of w5 tb tb _ _ _ _ 0 0 1 1 true true t1 t1 (fun V hV => ?_) (fun V hV => ?_)
      · have := equal_any V la la 2 2 oneN oneN [0, 1] [0, 1] (t2.later hV) (t2.later hV)
        rw [show decide (2 = 2 ∧ [0, 1] = [0, 1] ∧ oneN = oneN) = true by simp] at this
        exact this
      · have := equal_any V lb lb 2 2 twoN twoN [0, 1] [0, 1] (t3.later hV) (t3.later hV)
        rw [show decide (2 = 2 ∧ [0, 1] = [0, 1] ∧ twoN = twoN) = true by simp] at this
        exact this
    clear t1 t2 t3
    go_wp2_with fail
    refine HD1.out.mono ?_
    rintro e w6 ⟨rfl, hw6⟩
    subst hw6
    go_wp2_with fail
    refine HD2.out.mono ?_
    rintro e w7 ⟨rfl, hw7⟩
    subst hw7
    go_wp2_with fail
    refine HEQ.out.mono ?_
    rintro e w8 ⟨rfl, hb8⟩
    have HB8 : Hid (Below w.heap.size w w8) := HB5.out.trans (hb8.mono HB5.out.size)
    clear hb8
    go_wp2_with fail
    go_ret
    exact ⟨rfl, HB8.out⟩
end Go.Proofs.YthdeadmnicmgfaaDoor

/- The walk of the reference's Decide. -/
namespace Go.Proofs.YthdeadmnicmgfaaDoor
open Go.RowKit Go.Shelf
set_option linter.unusedVariables false
set_option linter.unusedSimpArgs false

theorem quo_bit (x i : Nat) (hx : x < 2 ^ 64) (hi : i < 64) : (IntKind.u64.wrap ((x : Int) / IntKind.u64.wrap ((2 : Int) ^ i))).tmod 2 = if x.testBit i = true then 1 else 0 := by
  have h1 : x / 2 ^ i % 2 = if x.testBit i = true then 1 else 0 := by
    rw [Nat.testBit_eq_decide_div_mod_eq]
    have : x / 2 ^ i % 2 = 0 ∨ x / 2 ^ i % 2 = 1 := by omega
    rcases this with h | h <;> simp [h]
  have h2 : x / 2 ^ i < 2 ^ 64 := Nat.lt_of_le_of_lt (Nat.div_le_self _ _) hx
  rw [wrap_two i hi, show (x : Int) / ((2 ^ i : Nat) : Int) = ((x / 2 ^ i : Nat) : Int) from (Int.natCast_ediv _ _).symm]
  generalize x / 2 ^ i = y at h1 h2
  rw [IntKind.wrap_u64, show ((y : Int) % 18446744073709551616) = (y : Int) by omega, Int.tmod_eq_emod_of_nonneg (by omega)]
  split at h1 <;> rename_i hb <;> simp [hb] <;> omega
theorem quo_eq (x i : Nat) (hx : x < 2 ^ 64) (hi : i < 64) : ((IntKind.u64.wrap ((x : Int) / IntKind.u64.wrap ((2 : Int) ^ i))).tmod 2 == 1) = x.testBit i := by
  rw [quo_bit x i hx hi]
  cases x.testBit i <;> rfl
theorem bit9_eq (Y k : Nat) (hY : Y < 2 ^ 64) : (bits .and .u64 ((Y : Int) / 2 ^ k) 1 == 1) = Y.testBit k := by
  have e : (Y : Int) / 2 ^ k = ((Y / 2 ^ k : Nat) : Int) := by simp
  have h2 : Y / 2 ^ k < 2 ^ 64 := Nat.lt_of_le_of_lt (Nat.div_le_self _ _) hY
  rw [e, show (1 : Int) = ((1 : Nat) : Int) from rfl, u64_and_nat _ _ h2 (by decide), Nat.and_one_is_mod, Nat.testBit_eq_decide_div_mod_eq]
  have : Y / 2 ^ k % 2 = 0 ∨ Y / 2 ^ k % 2 = 1 := by omega
  rcases this with h | h <;> rw [h] <;> rfl
theorem wrap_ne (i : Nat) (hi : i < 64) : ¬ IntKind.u64.wrap ((2 : Int) ^ i) = 0 := by
  rw [wrap_two i hi]
  have : 0 < 2 ^ i := Nat.two_pow_pos i
  omega
set_option maxHeartbeats 4000000 in
theorem rdec_any (w : World) (tb RN br a b : Nat) (p0 p1 : Value) (hh : w.heap[tb]? = some (.cells #[p0, p1, .int .u64 (br : Int), .int .i64 (RN : Int)] 60)) (hn : RN ≤ 40) (hbr : br < 2 ^ 64) (ha : a < 2 ^ 64) (hb : b < 2 ^ 64) :
    Calls Tryd.prog 23 #[.pointer (some ⟨tb, 0, none⟩), .int .u64 (a : Int), .int .u64 (b : Int)] w fun e w' => e = .returned (.bool (dcB br (a &&& b) RN 0)) ∧ w' = w := by
  have c2 : w.cell? ⟨tb, 2, none⟩ = some (.int .u64 (br : Int)) := cell_of_row w tb 2 _ _ _ hh
  have c3 : w.cell? ⟨tb, 3, none⟩ = some (.int .i64 (RN : Int)) := cell_of_row w tb 3 _ _ _ hh
  have hni : (RN : Int) ≤ 40 := by omega
  obtain ⟨x, hx⟩ : ∃ x, x = a &&& b := ⟨_, rfl⟩
  have HX : Hid (x = a &&& b ∧ a < 2 ^ 64 ∧ b < 2 ^ 64 ∧ br < 2 ^ 64) := ⟨hx, ha, hb, hbr⟩
  rw [← hx]
  clear hx hbr ha hb hh
  go_enter Tryd.func23, Tryd.ntmps23
  go_wp2_with fail
  go_loopw [6, 7] (fun x6 x7 wr => ∃ i : Nat, i ≤ RN ∧ x7 = .int .i64 (i : Int) ∧ dcB br x RN 0 = dcB br x (RN - i) i ∧ wr = w) (fun _ x7 _ => RN - (intOf x7).toNat)
  case atStart => exact ⟨0, by omega, rfl, by simp, rfl⟩
  case round =>
    obtain ⟨i, hi, hx7, hd, hw⟩ := hrel
    subst hx7 hw
    have HD : Hid (dcB br x RN 0 = dcB br x (RN - i) i) := hd
    clear hd
    by_cases hlt : i < RN
    · have hlti : (i : Int) < (RN : Int) := by omega
      have hi64 : (i : Int) < 64 := by omega
      have HE : Hid (dcB br x RN 0 = if x.testBit i = true then br.testBit i else dcB br x (RN - (i + 1)) (i + 1)) := by
        show _ = _
        rw [HD.out, show RN - i = (RN - (i + 1)) + 1 by omega, dcB]
      have hz := wrap_ne i (by omega)
      have HA : Hid ((IntKind.u64.wrap ((a : Int) / IntKind.u64.wrap ((2 : Int) ^ i))).tmod 2 = if a.testBit i = true then 1 else 0) := quo_bit a i HX.out.2.1 (by omega)
      have HB : Hid (((IntKind.u64.wrap ((b : Int) / IntKind.u64.wrap ((2 : Int) ^ i))).tmod 2 == 1) = b.testBit i) := quo_eq b i HX.out.2.2.1 (by omega)
      have HC : Hid (((IntKind.u64.wrap ((br : Int) / IntKind.u64.wrap ((2 : Int) ^ i))).tmod 2 == 1) = br.testBit i) := quo_eq br i HX.out.2.2.2 (by omega)
      have HT : Hid (x.testBit i = (a.testBit i && b.testBit i)) := by show _ = _; rw [HX.out.1, Nat.testBit_and]
      cases hta : a.testBit i with
      | true =>
        have hA : (IntKind.u64.wrap ((a : Int) / IntKind.u64.wrap ((2 : Int) ^ i))).tmod 2 = 1 := by rw [HA.out, if_pos hta]
        cases htb : b.testBit i with
        | true =>
          have hB : ((IntKind.u64.wrap ((b : Int) / IntKind.u64.wrap ((2 : Int) ^ i))).tmod 2 == 1) = true := by rw [HB.out, htb]
          have HE2 : Hid (dcB br x RN 0 = ((IntKind.u64.wrap ((br : Int) / IntKind.u64.wrap ((2 : Int) ^ i))).tmod 2 == 1)) := by show _ = _; rw [HE.out, if_pos (by rw [HT.out, hta, htb]; rfl), HC.out]
          clear hta htb
          go_wp2_with fail
          go_ret
          exact ⟨by rw [HE2.out]; rfl, rfl⟩
        | false =>
          have hB : ((IntKind.u64.wrap ((b : Int) / IntKind.u64.wrap ((2 : Int) ^ i))).tmod 2 == 1) = false := by rw [HB.out, htb]
          have HE2 : Hid (dcB br x RN 0 = dcB br x (RN - (i + 1)) (i + 1)) := by show _ = _; rw [HE.out, if_neg (by rw [HT.out, hta, htb]; decide)]
          clear hta htb
          go_wp2_with fail
          go_roundw
          case rel => exact ⟨i + 1, by omega, by go_num, HE2.out, trivial⟩
          case measure => simp [intOf]; omega
      | false =>
        have hA : ¬ (IntKind.u64.wrap ((a : Int) / IntKind.u64.wrap ((2 : Int) ^ i))).tmod 2 = 1 := by rw [HA.out, if_neg (by rw [hta]; decide)]; decide
        have HE2 : Hid (dcB br x RN 0 = dcB br x (RN - (i + 1)) (i + 1)) := by show _ = _; rw [HE.out, if_neg (by rw [HT.out, hta]; simp)]
        clear hta
        go_wp2_with fail
        go_roundw
        case rel => exact ⟨i + 1, by omega, by go_num, HE2.out, trivial⟩
        case measure => simp [intOf]; omega
    · have hiR : RN = i := by omega
      subst hiR
      go_wp2_with fail
      go_ret
      exact ⟨by rw [HD.out, Nat.sub_self]; rfl, rfl⟩
end Go.Proofs.YthdeadmnicmgfaaDoor

/- Step where there is no way; the walk of shown. -/
namespace Go.Proofs.YthdeadmnicmgfaaDoor
open Go.RowKit Go.Shelf Go.Maps
set_option linter.unusedVariables false
set_option linter.unusedSimpArgs false

end Go.Proofs.YthdeadmnicmgfaaDoor

/- The walks of Count and Stars of whatever comes in. -/
namespace Go.Proofs.YthdeadmnicmgfaaDoor
open Go.RowKit Go.Shelf Go.Maps
set_option linter.unusedVariables false
set_option linter.unusedSimpArgs false

theorem cntL_le (kl : List Nd) (k : Nat) : cntL (kl.take k) ≤ cntL kl := by
  have : ∀ a b : List Nd, cntL (a ++ b) = cntL a + cntL b := fun a b => by simp [cntL, List.map_append, List.sum_append]
  have h := this (kl.take k) (kl.drop k)
  rw [List.take_append_drop] at h
  omega
def CoX (D : Nat) : Prop := ∀ (n : Nd) (ca pa : Option Addr) (cc pc : Nat) (B : Nat) (w : World), InV B w D n [.int .i64 n.op, .slice ca n.cl.length cc, .slice pa (toL n.kids).length pc] →
  Calls Tryd.prog 31 #[.agg #[.int .i64 n.op, .slice ca n.cl.length cc, .slice pa (toL n.kids).length pc]] w fun e w' => ∃ v : Int, e = .returned (.int .i64 v) ∧ (n.cnt ≤ 400 → v = (n.cnt : Int)) ∧ Below w.heap.size w w'
set_option maxHeartbeats 8000000 in
theorem countX_up (d : Nat) (HP : CoX d) : CoX (d + 1) := by
  intro n ca pa cc pc B w hin
  have HPC : Hid (CoX d) := HP
  have HIN : Hid (InV B w (d + 1) n [.int .i64 n.op, .slice ca n.cl.length cc, .slice pa (toL n.kids).length pc]) := hin
  have hb := hin.bounds
  obtain ⟨op, hop⟩ : ∃ op, op = n.op := ⟨_, rfl⟩
  obtain ⟨cn, hcn⟩ : ∃ cn, cn = n.cl.length := ⟨_, rfl⟩
  obtain ⟨kl, hkl⟩ : ∃ kl, kl = toL n.kids := ⟨_, rfl⟩
  obtain ⟨K, hK⟩ : ∃ K, K = kl.length := ⟨_, rfl⟩
  have hce := cnt_eq n
  rw [← hkl] at hce
  have HC : Hid (n.cnt = 1 + cntL kl ∧ True ∧ kl = toL n.kids ∧ K = kl.length) := ⟨hce, trivial, hkl, hK⟩
  have hKi : (K : Int) ≤ 2600000000000 := by rw [hkl] at hK; omega
  obtain ⟨wA, hwA⟩ : ∃ wA, wA = w.alloc (.cells #[.int .i64 op, .slice ca cn cc, .slice pa K pc] 38) := ⟨_, rfl⟩
  obtain ⟨H, hH⟩ : ∃ H, H = w.heap.size := ⟨_, rfl⟩
  have HB : Hid (Below w.heap.size w wA) := by rw [hwA]; exact (Below.refl _ w).alloc (Nat.le_refl _) _
  have HBX : Hid (wA.heap[H]? = some (.cells #[.int .i64 op, .slice ca cn cc, .slice pa K pc] 38)) := by rw [hwA, hH]; exact heap_alloc_new w _
  rw [← hop, ← hcn, ← hkl, ← hK]
  clear HP hin hb hop hcn hK hkl hce
  go_enter Tryd.func31, Tryd.ntmps31
  go_upto_region 1 with fail
  rw [← hH, ← hwA]
  clear hH hwA
  go_wp2
  go_loopw [3, 4] (fun x3 x4 wr => ∃ (k : Nat) (m : Int), k ≤ K ∧ x4 = .int .i64 k ∧ x3 = .int .i64 m ∧ (1 + cntL (kl.take k) ≤ 400 → m = ((1 + cntL (kl.take k) : Nat) : Int)) ∧ Below wA.heap.size wA wr) (fun _ x4 _ => K - (intOf x4).toNat)
  case atStart => exact ⟨0, 1, by omega, rfl, rfl, fun _ => by simp [cntL], Below.refl _ _⟩
  case round =>
    obtain ⟨k, m, hk, hx4, hx3, hm, hbl⟩ := hrel
    have HMC : Hid (1 + cntL (kl.take k) ≤ 400 → m = ((1 + cntL (kl.take k) : Nat) : Int)) := hm
    subst hx4
    subst hx3
    have HBL : Hid (Below wA.heap.size wA wr) := hbl
    have d2 : wr.cell? ⟨H, 2, none⟩ = some (.slice pa K pc) := cell_of_row wr H 2 _ _ _ ((hbl.block H (Array.getElem?_eq_some_iff.1 HBX.out).1).trans HBX.out)
    have HBW : Hid (Below w.heap.size w wr) := HB.out.trans (hbl.mono HB.out.size)
    clear hbl
    clear hm
    by_cases hlt : k < K
    · by_cases hm4' : ¬ m ≤ 400
      · have HR : Hid (n.cnt ≤ 400 → m = (n.cnt : Int)) := fun hc => by
          have h1 := HC.out.1; have h2 := cntL_le kl k; have h3 := HMC.out (by omega); omega
        go_wp2
        go_ret
        exact ⟨m, rfl, HR.out, HBW.out⟩
      have hm4 : m ≤ 400 := by omega
      clear hm4'
      have hkn : k < kl.length := by rw [← HC.out.2.2.2]; exact hlt
      have hkn' : k < (toL n.kids).length := by rw [← HC.out.2.2.1]; exact hkn
      obtain ⟨b, off, xa, xc, ya, yc, d', hpa, hkid, hd', c0, c1, c2⟩ := (HIN.out.later HBW.out (d + 1)).kid k hkn'
      obtain rfl : d = d' := by omega
      subst hpa
      obtain ⟨x, hx⟩ : ∃ x, x = (toL n.kids)[k] := ⟨_, rfl⟩
      have hxk : x = kl[k] := by rw [hx]; simp only [HC.out.2.2.1]
      rw [← hx] at hkid c0 c1 c2
      have htk := cntL_take kl k hkn
      rw [← hxk] at htk
      obtain ⟨xc', hxc'⟩ : ∃ xc', xc' = x.cnt := ⟨_, rfl⟩
      have HCC : Hid (Calls Tryd.prog 31 #[.agg #[.int .i64 x.op, .slice xa x.cl.length xc, .slice ya (toL x.kids).length yc]] wr fun e w' => ∃ v : Int, e = .returned (.int .i64 v) ∧ (x.cnt ≤ 400 → v = (x.cnt : Int)) ∧ Below wr.heap.size wr w') := by
        exact HPC.out x xa ya xc yc B wr hkid
      have HNX : Hid (1 + cntL (kl.take (k + 1)) = (1 + cntL (kl.take k)) + xc') := by
        show _ = _
        rw [take_snoc kl k hkn, cntL_snoc, ← hxk, hxc']
        omega
      rw [← hxc'] at HCC
      obtain ⟨xo, hxo⟩ : ∃ xo, xo = x.op := ⟨_, rfl⟩
      obtain ⟨xn, hxn⟩ : ∃ xn, xn = x.cl.length := ⟨_, rfl⟩
      obtain ⟨xk, hxk2⟩ : ∃ xk, xk = (toL x.kids).length := ⟨_, rfl⟩
      rw [← hxo] at c0 HCC
      rw [← hxn] at c1 HCC
      rw [← hxk2] at c2 HCC
      have hki : (k : Int) < (K : Int) := by omega
      clear hkid hxo hxn hxk2 hx hxk htk hxc'
      go_wp2_with fail
      refine HCC.out.mono ?_
      rintro e w2 ⟨v, rfl, hv, hb2⟩
      have HV : Hid (xc' ≤ 400 → v = (xc' : Int)) := hv
      clear hv
      have HB2 : Hid (Below wA.heap.size wA w2) := HBL.out.trans (hb2.mono HBL.out.size)
      clear hb2 c0 c1 c2 d2 HCC
      go_wp2
      go_roundw
      case rel =>
        refine ⟨k + 1, _, by omega, by go_num, rfl, fun hc => ?_, HB2.out⟩
        rw [HNX.out] at hc ⊢
        have h1 := HMC.out (by omega)
        have h2 := HV.out (by omega)
        rw [h1, h2]
        unfold wrap64
        omega
      case measure => simp [intOf]; omega
    · obtain rfl : k = K := by omega
      have HR : Hid (n.cnt ≤ 400 → m = (n.cnt : Int)) := by
        have h1 := HMC.out
        rw [List.take_of_length_le (by rw [← HC.out.2.2.2]; exact Nat.le_refl _), ← HC.out.1] at h1
        exact h1
      go_wp2
      go_ret
      exact ⟨m, rfl, HR.out, HBW.out⟩
theorem countX_any : (d : Nat) → CoX d
  | 0 => fun _ _ _ _ _ _ _ h => h.elim
  | d + 1 => countX_up d (countX_any d)
end Go.Proofs.YthdeadmnicmgfaaDoor

/- The walk of Stars of whatever comes in: it answers some number. -/
namespace Go.Proofs.YthdeadmnicmgfaaDoor
open Go.RowKit Go.Shelf Go.Maps
set_option linter.unusedVariables false
set_option linter.unusedSimpArgs false

def StX (D : Nat) : Prop := ∀ (n : Nd) (ca pa : Option Addr) (cc pc : Nat) (B : Nat) (w : World), InV B w D n [.int .i64 n.op, .slice ca n.cl.length cc, .slice pa (toL n.kids).length pc] →
  Calls Tryd.prog 32 #[.agg #[.int .i64 n.op, .slice ca n.cl.length cc, .slice pa (toL n.kids).length pc]] w fun e w' => ∃ t : Int, e = .returned (.int .i64 t) ∧ Below w.heap.size w w'
set_option maxHeartbeats 8000000 in
theorem starsX_up (D : Nat) (HP : StX D) : StX (D + 1) := by
  intro n ca pa cc pc B w hin
  have HPC : Hid (StX D) := HP
  have HIN : Hid (InV B w (D + 1) n [.int .i64 n.op, .slice ca n.cl.length cc, .slice pa (toL n.kids).length pc]) := hin
  have hb := hin.bounds
  obtain ⟨op, hop⟩ : ∃ op, op = n.op := ⟨_, rfl⟩
  obtain ⟨cn, hcn⟩ : ∃ cn, cn = n.cl.length := ⟨_, rfl⟩
  obtain ⟨kl, hkl⟩ : ∃ kl, kl = toL n.kids := ⟨_, rfl⟩
  obtain ⟨K, hK⟩ : ∃ K, K = kl.length := ⟨_, rfl⟩
  have HC : Hid (kl = toL n.kids ∧ K = kl.length) := ⟨hkl, hK⟩
  have hKi : (K : Int) ≤ 2600000000000 := by rw [hkl] at hK; omega
  obtain ⟨wA, hwA⟩ : ∃ wA, wA = w.alloc (.cells #[.int .i64 op, .slice ca cn cc, .slice pa K pc] 38) := ⟨_, rfl⟩
  obtain ⟨H, hH⟩ : ∃ H, H = w.heap.size := ⟨_, rfl⟩
  have HB : Hid (Below w.heap.size w wA) := by rw [hwA]; exact (Below.refl _ w).alloc (Nat.le_refl _) _
  have HBX : Hid (wA.heap[H]? = some (.cells #[.int .i64 op, .slice ca cn cc, .slice pa K pc] 38)) := by rw [hwA, hH]; exact heap_alloc_new w _
  rw [← hop, ← hcn, ← hkl, ← hK]
  clear HP hin hb hop hcn hK hkl
  go_enter Tryd.func32, Tryd.ntmps32
  go_upto_region 1 with fail
  rw [← hH, ← hwA]
  clear hH hwA
  go_wp2
  go_loopw [3, 4] (fun x3 x4 wr => ∃ k : Nat, k ≤ K ∧ x4 = .int .i64 k ∧ (∃ t : Int, x3 = .int .i64 t) ∧ Below wA.heap.size wA wr) (fun _ x4 _ => K - (intOf x4).toNat)
  case atStart => exact ⟨0, by omega, rfl, ⟨0, rfl⟩, Below.refl _ _⟩
  case round =>
    obtain ⟨k, hk, hx4, ⟨m, hx3⟩, hbl⟩ := hrel
    subst hx4
    subst hx3
    have HBL : Hid (Below wA.heap.size wA wr) := hbl
    have hblk := (hbl.block H (Array.getElem?_eq_some_iff.1 HBX.out).1).trans HBX.out
    have d2 : wr.cell? ⟨H, 2, none⟩ = some (.slice pa K pc) := cell_of_row wr H 2 _ _ _ hblk
    have d0 : wr.cell? ⟨H, 0, none⟩ = some (.int .i64 op) := cell_of_row wr H 0 _ _ _ hblk
    have HBW : Hid (Below w.heap.size w wr) := HB.out.trans (hbl.mono HB.out.size)
    clear hbl hblk
    by_cases hlt : k < K
    · have hkn : k < kl.length := by rw [← HC.out.2]; exact hlt
      have hkn' : k < (toL n.kids).length := by rw [← HC.out.1]; exact hkn
      obtain ⟨b, off, xa, xc, ya, yc, D', hpa, hkid, hD', c0, c1, c2⟩ := (HIN.out.later HBW.out (D + 1)).kid k hkn'
      obtain rfl : D' = D := by omega
      subst hpa
      obtain ⟨x, hx⟩ : ∃ x, x = (toL n.kids)[k] := ⟨_, rfl⟩
      have hxk : x = kl[k] := by rw [hx]; simp only [HC.out.1]
      rw [← hx] at hkid c0 c1 c2
      have HCC : Hid (Calls Tryd.prog 32 #[.agg #[.int .i64 x.op, .slice xa x.cl.length xc, .slice ya (toL x.kids).length yc]] wr fun e w' => ∃ t : Int, e = .returned (.int .i64 t) ∧ Below wr.heap.size wr w') := HPC.out x xa ya xc yc B wr hkid
      obtain ⟨xo, hxo⟩ : ∃ xo, xo = x.op := ⟨_, rfl⟩
      obtain ⟨xn, hxn⟩ : ∃ xn, xn = x.cl.length := ⟨_, rfl⟩
      obtain ⟨xk, hxk2⟩ : ∃ xk, xk = (toL x.kids).length := ⟨_, rfl⟩
      rw [← hxo] at c0 HCC
      rw [← hxn] at c1 HCC
      rw [← hxk2] at c2 HCC
      clear hkid hxo hxn hxk2 hx hxk
      go_wp2_with fail
      refine HCC.out.mono ?_
      rintro e w2 ⟨v, rfl, hb2⟩
      have HB2 : Hid (Below wA.heap.size wA w2) := HBL.out.trans (hb2.mono HBL.out.size)
      have hmax : ∀ W : World, (Builtin.max_ #[3, 3] 3 #[.int .i64 m, .int .i64 v]).run Tryd.prog W = .ok (.int .i64 (max m v)) W := fun W => maxR m v W
      obtain ⟨M, hM⟩ : ∃ M, M = max m v := ⟨_, rfl⟩
      rw [← hM] at hmax
      clear hM
      clear hb2 c0 c1 c2 d2 d0 HCC
      go_wp2
      go_roundw
      case rel => exact ⟨k + 1, by omega, by go_num, ⟨M, rfl⟩, HB2.out⟩
      case measure => simp [intOf]; omega
    · obtain rfl : k = K := by omega
      by_cases h4 : (op == 4) = true
      · go_wp2
        go_ret
        exact ⟨_, rfl, HBW.out⟩
      · rw [Bool.not_eq_true] at h4
        go_wp2
        go_ret
        exact ⟨_, rfl, HBW.out⟩
theorem starsX_any : (D : Nat) → StX D
  | 0 => fun _ _ _ _ _ _ _ h => h.elim
  | D + 1 => starsX_up D (starsX_any D)
end Go.Proofs.YthdeadmnicmgfaaDoor

/- The walks of small and few. -/
namespace Go.Proofs.YthdeadmnicmgfaaDoor
open Go.RowKit Go.Shelf Go.Maps
set_option linter.unusedVariables false
set_option linter.unusedSimpArgs false

/-- What small says. -/
def SmP (n : Nd) (w : World) (e : Ending) (w' : World) : Prop := ∃ b, e = .returned (.bool b) ∧ (b = true → n.cnt ≤ 400 → n.cnt ≤ 30) ∧ Below w.heap.size w w'
set_option maxHeartbeats 4000000 in
theorem small9_any (D : Nat) (n : Nd) (ca pa : Option Addr) (cc pc B : Nat) (w : World) (hin : InV B w D n [.int .i64 n.op, .slice ca n.cl.length cc, .slice pa (toL n.kids).length pc]) (hB : B ≤ w.heap.size) :
    Calls Tryd.prog 42 #[.agg #[.int .i64 n.op, .slice ca n.cl.length cc, .slice pa (toL n.kids).length pc]] w (SmP n w) := by
  obtain ⟨op, hop⟩ : ∃ op, op = n.op := ⟨_, rfl⟩
  obtain ⟨cn, hcn⟩ : ∃ cn, cn = n.cl.length := ⟨_, rfl⟩
  obtain ⟨K, hK⟩ : ∃ K, K = (toL n.kids).length := ⟨_, rfl⟩
  have HIN : Hid (InV w.heap.size w D n [.int .i64 n.op, .slice ca n.cl.length cc, .slice pa (toL n.kids).length pc]) := hin.base hB D
  have HCO : Hid (∀ V : World, Below w.heap.size w V → Calls Tryd.prog 31 #[.agg #[.int .i64 op, .slice ca cn cc, .slice pa K pc]] V fun e w' => ∃ v : Int, e = .returned (.int .i64 v) ∧ (n.cnt ≤ 400 → v = (n.cnt : Int)) ∧ Below V.heap.size V w') := fun V hV => by
    rw [hop, hcn, hK]; exact countX_any D n ca pa cc pc _ V (HIN.out.later hV D)
  have HST : Hid (∀ V : World, Below w.heap.size w V → Calls Tryd.prog 32 #[.agg #[.int .i64 op, .slice ca cn cc, .slice pa K pc]] V fun e w' => ∃ t : Int, e = .returned (.int .i64 t) ∧ Below V.heap.size V w') := fun V hV => by
    rw [hop, hcn, hK]; exact starsX_any D n ca pa cc pc _ V (HIN.out.later hV D)
  obtain ⟨W0, hW0⟩ : ∃ W0, W0 = w.alloc (.cells #[.int .i64 op, .slice ca cn cc, .slice pa K pc] 38) := ⟨_, rfl⟩
  obtain ⟨H, hH⟩ : ∃ H, H = w.heap.size := ⟨_, rfl⟩
  have HB0 : Hid (Below w.heap.size w W0) := by rw [hW0]; exact (Below.refl _ w).alloc (Nat.le_refl _) _
  have HX0 : Hid (W0.heap[H]? = some (.cells #[.int .i64 op, .slice ca cn cc, .slice pa K pc] 38)) := by show _ = _; rw [hW0, hH]; exact heap_alloc_new w _
  rw [← hop, ← hcn, ← hK]
  clear hin hop hcn hK
  go_enter Tryd.func42, Tryd.ntmps42
  go_upto_region 1 with fail
  rw [← hH, ← hW0]
  clear hH hW0
  have e0 : W0.cell? ⟨H, 0, none⟩ = some (.int .i64 op) := cell_of_row W0 H 0 _ _ _ HX0.out
  have e1 : W0.cell? ⟨H, 1, none⟩ = some (.slice ca cn cc) := cell_of_row W0 H 1 _ _ _ HX0.out
  have e2 : W0.cell? ⟨H, 2, none⟩ = some (.slice pa K pc) := cell_of_row W0 H 2 _ _ _ HX0.out
  go_wp2_with fail
  refine (HCO.out W0 HB0.out).mono ?_
  rintro e w1 ⟨v, rfl, hv, hb1⟩
  have HB1 : Hid (Below w.heap.size w w1) := HB0.out.trans (hb1.mono HB0.out.size)
  have HX1 : Hid (w1.heap[H]? = some (.cells #[.int .i64 op, .slice ca cn cc, .slice pa K pc] 38)) := (hb1.block H (Array.getElem?_eq_some_iff.1 HX0.out).1).trans HX0.out
  clear hb1 e0 e1 e2
  have HV : Hid (n.cnt ≤ 400 → v = (n.cnt : Int)) := hv
  clear hv
  by_cases h30 : v ≤ 30
  · have e0 : w1.cell? ⟨H, 0, none⟩ = some (.int .i64 op) := cell_of_row w1 H 0 _ _ _ HX1.out
    have e1 : w1.cell? ⟨H, 1, none⟩ = some (.slice ca cn cc) := cell_of_row w1 H 1 _ _ _ HX1.out
    have e2 : w1.cell? ⟨H, 2, none⟩ = some (.slice pa K pc) := cell_of_row w1 H 2 _ _ _ HX1.out
    go_wp2_with fail
    refine (HST.out w1 HB1.out).mono ?_
    rintro e w2 ⟨t, rfl, hb2⟩
    have HB2 : Hid (Below w.heap.size w w2) := HB1.out.trans (hb2.mono HB1.out.size)
    clear hb2 e0 e1 e2
    by_cases ht : t ≤ 3
    all_goals
      go_wp2_with fail
      go_ret
      exact ⟨_, rfl, fun _ h => by have := HV.out h; omega, HB2.out⟩
  · go_wp2_with fail
    go_ret
    exact ⟨false, rfl, fun h => by simp at h, HB1.out⟩
theorem info_Rl : (Tryd.prog.info? 64).map (fun i => (i.zero, i.size, i.bytes)) = some (some (.agg #[.int .i64 0, .slice none 0 0, .slice none 0 0, .int .i64 0, .slice none 0 0, .slice none 0 0, .bool false, .bool false]), 8, 120) := by kernel_rfl
theorem cutS (a : Option Addr) (len cap n : Nat) (h : n ≤ cap) (W : World) : (Instr.slice 44 (.slice a len cap) none (some (.int .i64 n)) none).run Tryd.prog W = .ok (.slice a n cap) W := by
  have h0 : (0 : Int) ≤ (n : Int) := by omega
  have h1 : (n : Int) ≤ (cap : Int) := by omega
  go_simp
/-- Rules as cells. -/
def flR (ps : List (Rl × RlP)) : List Value := ps.flatMap fun x => (x.1.vals x.2).toList
theorem flR_len (ps : List (Rl × RlP)) : (flR ps).length = ps.length * 8 := by
  induction ps with
  | nil => rfl
  | cons x r ih => simp only [flR, List.flatMap_cons, List.length_append] at ih ⊢; rw [ih]; simp; omega
/-- What few keeps. -/
def KeptR (w : World) (D : Nat) (l : List Rl) (ps : List (Rl × RlP)) : Prop := ∀ x, x ∈ ps → RlAt w D x.1 x.2 ∧ x.1 ∈ l ∧ (x.1.left.cnt ≤ 400 → x.1.left.cnt ≤ 30) ∧ (x.1.right.cnt ≤ 400 → x.1.right.cnt ≤ 30)
/-- Where few's loop stands. -/
def FwS (w0 w : World) (D : Nat) (l : List Rl) (c0 c1 c2 v : Value) (ps : List (Rl × RlP)) (wr : World) : Prop :=
  Below w.heap.size w wr ∧ wr.heap[w.heap.size]? = some (.cells #[c0, c1] 47) ∧ wr.heap[w.heap.size + 1]? = some (.cells #[.slice none 0 0, .slice none 0 0] 47) ∧ wr.heap[w.heap.size + 2]? = some (.cells #[c2, v] 47) ∧
    wr.ownsRow w.heap.size 64 8 v ps.length (flR ps) ∧ KeptR w0 D l ps
theorem FwS.later {w0 w wr W : World} {D : Nat} {l : List Rl} {c0 c1 c2 v : Value} {ps : List (Rl × RlP)} (h : FwS w0 w D l c0 c1 c2 v ps wr) (hb : Below wr.heap.size wr W) : FwS w0 w D l c0 c1 c2 v ps W := by
  obtain ⟨h1, h2, h3, h4, h5, h6⟩ := h
  exact ⟨h1.trans (hb.mono h1.size), (hb.block _ (Array.getElem?_eq_some_iff.1 h2).1).trans h2, (hb.block _ (Array.getElem?_eq_some_iff.1 h3).1).trans h3, (hb.block _ (Array.getElem?_eq_some_iff.1 h4).1).trans h4, own_later5 h5 hb, h6⟩
/-- One more is kept. -/
theorem FwS.more {w0 w wr W w1 : World} {D : Nat} {l : List Rl} {c0 c1 c2 : Value} {av : Option Addr} {N cv g cp : Nat} {ps : List (Rl × RlP)} {r : Rl} {q : RlP} (h : FwS w0 w D l c0 c1 c2 (.slice av N cv) ps wr) (hN : N = ps.length) (hb : Below wr.heap.size wr W)
    (o1 : w1.ownsRow w.heap.size 64 8 (.slice (some ⟨g, 0, none⟩) (N + 1) cp) (N + 1) (flR ps ++ (r.vals q).toList)) (gr : W.grownBy w1 (Value.slice av N cv).ownBlock) (hk : RlAt w0 D r q ∧ r ∈ l ∧ (r.left.cnt ≤ 400 → r.left.cnt ≤ 30) ∧ (r.right.cnt ≤ 400 → r.right.cnt ≤ 30)) :
    (w1.cell? ⟨w.heap.size + 2, 1, none⟩ = some (.slice av N cv) ∧ w1.frozen? ⟨w.heap.size + 2, 1, none⟩ = false) ∧ FwS w0 w D l c0 c1 c2 (.slice (some ⟨g, 0, none⟩) (N + 1) cp) (ps ++ [(r, q)]) (w1.setCell ⟨w.heap.size + 2, 1, none⟩ (.slice (some ⟨g, 0, none⟩) (N + 1) cp)) := by
  obtain ⟨h1, h2, h3, h4, h5, h6⟩ := h.later hb
  have hne : ∀ (B : Nat) (cs : Array Value), W.heap[B]? = some (.cells cs 47) → w1.heap[B]? = some (.cells cs 47) := fun B cs hB =>
    (gr.block B (Array.getElem?_eq_some_iff.1 hB).1 (fun e => by
      obtain ⟨_, _, cur, hc⟩ := own_lt h5 e.symm
      exact ne_ty hc hB (by decide) rfl)).trans hB
  have k2 := hne _ _ h2
  have k3 := hne _ _ h3
  have k4 := hne _ _ h4
  have hg := grown_cell w1 (w.heap.size + 2) 1 (Value.slice (some ⟨g, 0, none⟩) (N + 1) cp)
  have hb1 : Below w.heap.size w w1 := h1.grown gr h1.size (fun y hy => (own_lt h5 hy).1)
  refine ⟨⟨cell_of_row _ _ 1 _ _ _ k4, Lib.frozen_of_heap k4 1⟩, hb1.grown hg hb1.size (fun y hy => by cases hy; omega), (hg.block _ (Array.getElem?_eq_some_iff.1 k2).1 (fun e => by simp at e)).trans k2, (hg.block _ (Array.getElem?_eq_some_iff.1 k3).1 (fun e => by simp at e)).trans k3, heap_setCell_same _ _ 1 _ _ _ k4, ?_, ?_⟩
  · rw [show (ps ++ [(r, q)]).length = N + 1 by simp [hN], show flR (ps ++ [(r, q)]) = flR ps ++ (r.vals q).toList by simp [flR]]
    refine o1.kept hg (.inr fun e => ?_)
    obtain ⟨_, _, cur, hc⟩ := own_lt o1 e
    exact ne_ty hc k4 (by decide) rfl
  · intro x hx
    rcases List.mem_append.1 hx with hx | hx
    · exact h6 x hx
    · rw [List.mem_singleton.1 hx]; exact hk
/-- What few leaves. -/
def Few9 (D : Nat) (l : List Rl) (ca : Option Addr) (m cc : Nat) (w0 w : World) (e : Ending) (w' : World) : Prop :=
  Below w.heap.size w w' ∧ ∃ (ps : List (Rl × RlP)) (a : Option Addr) (c : Nat), e = .returned (.agg #[.slice ca m cc, .slice a ps.length c]) ∧ ps.length ≤ 8 ∧ KeptR w0 D l ps ∧ w'.ownsRow w.heap.size 64 8 (.slice a ps.length c) ps.length (flR ps)
end Go.Proofs.YthdeadmnicmgfaaDoor
