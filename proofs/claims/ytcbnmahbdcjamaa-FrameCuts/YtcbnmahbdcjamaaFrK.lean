/- The walk of the reader's frame. -/
import Derived.Test.YtcbnmahbdcjamaaFrJ
namespace Go.Proofs.Ytcbnmahbdcjamaa
open Go.RowKit
set_option linter.unusedVariables false
set_option linter.unusedSimpArgs false

theorem rdE_cg {w W : World} {Q : Nat → Prop} {a : Option Addr} {n : Nat} {l : List (Int × Int)} (h : RdE w a n l) (hc : Chg w W Q) (hq : ∀ x, a = some x → ¬ Q x.block) : RdE W a n l := by
  refine ⟨h.1, fun hp => ?_⟩
  obtain ⟨b, off, rfl, hcell⟩ := h.2 hp
  exact ⟨b, off, rfl, fun j u hu => cg_cell hc (hcell j u hu) (hq ⟨b, off, none⟩ rfl)⟩
theorem rdP_cg {w W : World} {Q : Nat → Prop} {a : Option Addr} {n : Nat} {l : List Opn} (h : RdP w a n l) (hc : Chg w W Q) (hq : ∀ x, a = some x → ¬ Q x.block) : RdP W a n l := by
  refine ⟨h.1, fun hp => ?_⟩
  obtain ⟨b, off, rfl, hcell⟩ := h.2 hp
  exact ⟨b, off, rfl, fun j u hu => cg_cell hc (hcell j u hu) (hq ⟨b, off, none⟩ rfl)⟩
/-- A frame in memory whose rows lie behind a place. -/
def FrAtB (w : World) (k g : Int) (va : Option Addr) (vn vc : Nat) (oa : Option Addr) (on oc : Nat) (x : Int) (f : Frm) (B : Nat) : Prop :=
  k = f.kind ∧ g = f.fr ∧ x = f.next ∧ RdE w va vn f.vec ∧ RdP w oa on f.ops ∧ (∀ x, va = some x → B ≤ x.block) ∧ ∀ x, oa = some x → B ≤ x.block
theorem FrAtB.cg {w W : World} {Q : Nat → Prop} {k g x : Int} {va oa : Option Addr} {vn vc on oc : Nat} {f : Frm} {B : Nat} (h : FrAtB w k g va vn vc oa on oc x f B) (hc : Chg w W Q) (hq : ∀ j, B ≤ j → ¬ Q j) : FrAtB W k g va vn vc oa on oc x f B := by
  obtain ⟨h1, h2, h3, h4, h5, h6, h7⟩ := h
  exact ⟨h1, h2, h3, rdE_cg h4 hc (fun x e => hq _ (h6 x e)), rdP_cg h5 hc (fun x e => hq _ (h7 x e)), h6, h7⟩
theorem FrAtB.at {w : World} {k g x : Int} {va oa : Option Addr} {vn vc on oc : Nat} {f : Frm} {B : Nat} (h : FrAtB w k g va vn vc oa on oc x f B) : FrAt w (frV k g va vn vc oa on oc x) f := by
  obtain ⟨rfl, rfl, rfl, h4, h5, h6, h7⟩ := h
  exact ⟨va, vn, vc, oa, on, oc, rfl, h4, h5⟩
/-- What the reader's frame leaves. -/
def FrmQ (x : Option (Frm × List Int)) (R K : Nat) (w : World) (e : Ending) (w' : World) : Prop :=
  Chg w w' (fun k => k = R) ∧ (x = none → e = pnk) ∧ ∀ f r, x = some (f, r) → ∃ k g va vn vc oa on oc x, e = .returned (frV k g va vn vc oa on oc x) ∧ FrAtB w' k g va vn vc oa on oc x f w.heap.size ∧ RdrA w' R K r
set_option maxRecDepth 100000 in
set_option maxHeartbeats 4000000 in
theorem frame_rd (s0 : List Int) (R K : Nat) (w : World) (hat : RdrA w R K s0) (hK : K < w.heap.size) :
    Calls Try.prog 85 #[.pointer (some ⟨R, 0, none⟩)] w fun e w' => FrmQ (frT s0) R K w e w' := by
  have hmf := mkFunc
  have hRl := rdr_lt hat
  obtain ⟨W1, hW1⟩ : ∃ W1, W1 = w.alloc (.cells #[.int .i64 0, .int .i64 0, .slice none 0 0, .slice none 0 0, .int .i64 0] 51) := ⟨_, rfl⟩
  have hcg : Chg w W1 (fun k => k = R) := by rw [hW1]; exact cg_alloc (cg_refl _ _) _
  have hat1 : RdrA W1 R K s0 := by rw [hW1]; exact hat.cg (cg_alloc (cg_refl w (fun _ => False)) _) (fun _ _ h => h)
  have HBK : Hid (W1.heap[w.heap.size]? = some (.cells #[.int .i64 0, .int .i64 0, .slice none 0 0, .slice none 0 0, .int .i64 0] 51)) := by rw [hW1]; exact heap_alloc_new w _
  have HK1 : Hid (K < W1.heap.size) := by rw [hW1]; show K < _; simp; omega
  have HZ1 : Hid (w.heap.size < W1.heap.size) := by rw [hW1]; show _ < _; simp
  have HG1 : Hid (Chg w W1 (fun k => k = R)) := hcg
  have HC0 : Hid (Chg W1 W1 (fun k => k = R) ∧ RdrA W1 R K s0) := ⟨cg_refl _ _, hat1⟩
  have HRK : Hid (R < w.heap.size ∧ K < w.heap.size) := ⟨hRl, hK⟩
  obtain ⟨Z, hZ⟩ : ∃ Z, Z = w.heap.size := ⟨_, rfl⟩
  rw [← hZ] at HBK HZ1
  have HZ : Hid (Z = w.heap.size) := hZ
  have hZR : Z ≠ R := by omega
  clear hat hcg hat1 hZ hRl hK
  rw [frT_as]
  cases h0 : nuT s0 with
  | none =>
    have H0 : Hid (nuT s0 = none) := h0
    clear h0
    go_enter Try.func85, Try.ntmps85
    go_upto_region 1 with fail
    simp only [← hW1, ← HZ.out]
    clear hW1
    go_wp2_with (first
      | (go_at_call 133
         refine (number_rd s0 R K _ HC0.out.2).mono ?_
         rw [H0.out]
         rintro e w1 ⟨hc, hp, -⟩
         obtain rfl := hp rfl
         have HCP : Hid (Chg W1 w1 (fun k => k = R)) := cg_trans HC0.out.1 hc (fun _ _ h => h)
         clear hc hp))
    exact ⟨rfl, cg_trans HG1.out HCP.out (fun _ _ h => h), (fun _ => rfl), fun v r h => by cases h⟩
  | some p0 =>
    obtain ⟨k, s1⟩ := p0
    have H0 : Hid (nuT s0 = some (k, s1)) := h0
    clear h0
    simp only
    cases h1 : nuT s1 with
    | none =>
      have H1 : Hid (nuT s1 = none) := h1
      clear h1
      go_enter Try.func85, Try.ntmps85
      go_upto_region 1 with fail
      simp only [← hW1, ← HZ.out]
      clear hW1
      go_wp2_with (first
        | (go_at_call 133
           refine (number_rd s1 R K _ HC1.out.2).mono ?_
           rw [H1.out]
           rintro e w2 ⟨hc, hp, -⟩
           obtain rfl := hp rfl
           have HCP : Hid (Chg W1 w2 (fun k => k = R)) := cg_trans HC1.out.1 hc (fun _ _ h => h)
           clear hc hp)
        | (go_at_call 133
           refine (number_rd s0 R K _ HC0.out.2).mono ?_
           rw [H0.out]
           rintro e w1 ⟨hc, -, hp⟩
           obtain ⟨rfl, hq⟩ := hp _ _ rfl
           have HC1 : Hid (Chg W1 w1 (fun k => k = R) ∧ RdrA w1 R K s1) := ⟨cg_trans HC0.out.1 hc (fun _ _ h => h), hq⟩
           clear hc hp hq))
      exact ⟨rfl, cg_trans HG1.out HCP.out (fun _ _ h => h), (fun _ => rfl), fun v r h => by cases h⟩
    | some p1 =>
      obtain ⟨g, s2⟩ := p1
      have H1 : Hid (nuT s1 = some (g, s2)) := h1
      clear h1
      simp only
      cases h2 : lisT idT s2 with
      | none =>
        have H2 : Hid (lisT idT s2 = none) := h2
        clear h2
        go_enter Try.func85, Try.ntmps85
        go_upto_region 1 with fail
        simp only [← hW1, ← HZ.out]
        clear hW1
        go_wp2_with (first
          | (go_at_call 134
             refine (listE_rd s2 R K _ HC2.out.2 (Nat.lt_of_lt_of_le HK1.out HC2.out.1.2.2.2.1)).mono ?_
             rw [H2.out]
             rintro e w3 ⟨hc, hp, -⟩
             obtain rfl := hp rfl
             have HCP : Hid (Chg W1 w3 (fun k => k = R)) := cg_trans HC2.out.1 hc (fun _ _ h => h)
             clear hc hp)
          | (go_at_call 133
             refine (number_rd s1 R K _ HC1.out.2).mono ?_
             rw [H1.out]
             rintro e w2 ⟨hc, -, hp⟩
             obtain ⟨rfl, hq⟩ := hp _ _ rfl
             have HC2 : Hid (Chg W1 w2 (fun k => k = R) ∧ RdrA w2 R K s2) := ⟨cg_trans HC1.out.1 hc (fun _ _ h => h), hq⟩
             clear hc hp hq)
          | (go_at_call 133
             refine (number_rd s0 R K _ HC0.out.2).mono ?_
             rw [H0.out]
             rintro e w1 ⟨hc, -, hp⟩
             obtain ⟨rfl, hq⟩ := hp _ _ rfl
             have HC1 : Hid (Chg W1 w1 (fun k => k = R) ∧ RdrA w1 R K s1) := ⟨cg_trans HC0.out.1 hc (fun _ _ h => h), hq⟩
             clear hc hp hq))
        exact ⟨rfl, cg_trans HG1.out HCP.out (fun _ _ h => h), (fun _ => rfl), fun v r h => by cases h⟩
      | some p2 =>
        obtain ⟨v, s3⟩ := p2
        have H2 : Hid (lisT idT s2 = some (v, s3)) := h2
        clear h2
        simp only
        cases h3 : lisT opT s3 with
        | none =>
          have H3 : Hid (lisT opT s3 = none) := h3
          clear h3
          go_enter Try.func85, Try.ntmps85
          go_upto_region 1 with fail
          simp only [← hW1, ← HZ.out]
          clear hW1
          go_wp2_with (first
            | (go_at_call 136
               refine (listP_rd s3 R K _ HC3.out.2 (Nat.lt_of_lt_of_le HK1.out HC3.out.1.2.2.2.1)).mono ?_
               rw [H3.out]
               rintro e w4 ⟨hc, hp, -⟩
               obtain rfl := hp rfl
               have HCP : Hid (Chg W1 w4 (fun k => k = R)) := cg_trans HC3.out.1 hc (fun _ _ h => h)
               clear hc hp)
            | (go_at_call 134
               refine (listE_rd s2 R K _ HC2.out.2 (Nat.lt_of_lt_of_le HK1.out HC2.out.1.2.2.2.1)).mono ?_
               rw [H2.out]
               rintro e w3 ⟨hc, -, hp⟩
               obtain ⟨vE, rfl, ho, hq⟩ := hp _ _ rfl
               obtain ⟨aE, cE, rfl, -, -, -, -⟩ := rdE_own ho
               have HOE3 : Hid (w3.ownsRow w2.heap.size 107 2 (.slice aE v.length cE) v.length (flatE v)) := ho
               have HC3 : Hid (Chg W1 w3 (fun k => k = R) ∧ RdrA w3 R K s3) := ⟨cg_trans HC2.out.1 hc (fun _ _ h => h), hq⟩
               clear hc hp hq ho)
            | (go_at_call 133
               refine (number_rd s1 R K _ HC1.out.2).mono ?_
               rw [H1.out]
               rintro e w2 ⟨hc, -, hp⟩
               obtain ⟨rfl, hq⟩ := hp _ _ rfl
               have HC2 : Hid (Chg W1 w2 (fun k => k = R) ∧ RdrA w2 R K s2) := ⟨cg_trans HC1.out.1 hc (fun _ _ h => h), hq⟩
               clear hc hp hq)
            | (go_at_call 133
               refine (number_rd s0 R K _ HC0.out.2).mono ?_
               rw [H0.out]
               rintro e w1 ⟨hc, -, hp⟩
               obtain ⟨rfl, hq⟩ := hp _ _ rfl
               have HC1 : Hid (Chg W1 w1 (fun k => k = R) ∧ RdrA w1 R K s1) := ⟨cg_trans HC0.out.1 hc (fun _ _ h => h), hq⟩
               clear hc hp hq))
          exact ⟨rfl, cg_trans HG1.out HCP.out (fun _ _ h => h), (fun _ => rfl), fun v r h => by cases h⟩
        | some p3 =>
          obtain ⟨o, s4⟩ := p3
          have H3 : Hid (lisT opT s3 = some (o, s4)) := h3
          clear h3
          simp only
          cases h4 : nuT s4 with
          | none =>
            have H4 : Hid (nuT s4 = none) := h4
            clear h4
            go_enter Try.func85, Try.ntmps85
            go_upto_region 1 with fail
            simp only [← hW1, ← HZ.out]
            clear hW1
            go_wp2_with (first
              | (go_at_call 133
                 refine (number_rd s4 R K _ HC4.out.2).mono ?_
                 rw [H4.out]
                 rintro e w5 ⟨hc, hp, -⟩
                 obtain rfl := hp rfl
                 have HCP : Hid (Chg W1 w5 (fun k => k = R)) := cg_trans HC4.out.1 hc (fun _ _ h => h)
                 clear hc hp)
              | (go_at_call 136
                 refine (listP_rd s3 R K _ HC3.out.2 (Nat.lt_of_lt_of_le HK1.out HC3.out.1.2.2.2.1)).mono ?_
                 rw [H3.out]
                 rintro e w4 ⟨hc, -, hp⟩
                 obtain ⟨vP, rfl, ho, hq⟩ := hp _ _ rfl
                 obtain ⟨aP, cP, rfl, -, -, -, -⟩ := rdP_own ho
                 have HOP4 : Hid (w4.ownsRow w3.heap.size 34 7 (.slice aP o.length cP) o.length (flatP o)) := ho
                 have HC4 : Hid (Chg W1 w4 (fun k => k = R) ∧ RdrA w4 R K s4) := ⟨cg_trans HC3.out.1 hc (fun _ _ h => h), hq⟩
                 have HOE4 : Hid (w4.ownsRow w2.heap.size 107 2 (.slice aE v.length cE) v.length (flatE v)) := cg_own hc HOE3.out (fun j hj e => by have h9 := (HOE3.out.lt j hj).1; have h8 := HC2.out.1.2.2.2.1; have h7 := HRK.out.1; have h6 := HZ1.out; have h5 := HZ.out; omega)
                 clear hc hp hq ho)
              | (go_at_call 134
                 refine (listE_rd s2 R K _ HC2.out.2 (Nat.lt_of_lt_of_le HK1.out HC2.out.1.2.2.2.1)).mono ?_
                 rw [H2.out]
                 rintro e w3 ⟨hc, -, hp⟩
                 obtain ⟨vE, rfl, ho, hq⟩ := hp _ _ rfl
                 obtain ⟨aE, cE, rfl, -, -, -, -⟩ := rdE_own ho
                 have HOE3 : Hid (w3.ownsRow w2.heap.size 107 2 (.slice aE v.length cE) v.length (flatE v)) := ho
                 have HC3 : Hid (Chg W1 w3 (fun k => k = R) ∧ RdrA w3 R K s3) := ⟨cg_trans HC2.out.1 hc (fun _ _ h => h), hq⟩
                 clear hc hp hq ho)
              | (go_at_call 133
                 refine (number_rd s1 R K _ HC1.out.2).mono ?_
                 rw [H1.out]
                 rintro e w2 ⟨hc, -, hp⟩
                 obtain ⟨rfl, hq⟩ := hp _ _ rfl
                 have HC2 : Hid (Chg W1 w2 (fun k => k = R) ∧ RdrA w2 R K s2) := ⟨cg_trans HC1.out.1 hc (fun _ _ h => h), hq⟩
                 clear hc hp hq)
              | (go_at_call 133
                 refine (number_rd s0 R K _ HC0.out.2).mono ?_
                 rw [H0.out]
                 rintro e w1 ⟨hc, -, hp⟩
                 obtain ⟨rfl, hq⟩ := hp _ _ rfl
                 have HC1 : Hid (Chg W1 w1 (fun k => k = R) ∧ RdrA w1 R K s1) := ⟨cg_trans HC0.out.1 hc (fun _ _ h => h), hq⟩
                 clear hc hp hq))
            exact ⟨rfl, cg_trans HG1.out HCP.out (fun _ _ h => h), (fun _ => rfl), fun v r h => by cases h⟩
          | some p4 =>
            obtain ⟨x, s5⟩ := p4
            have H4 : Hid (nuT s4 = some (x, s5)) := h4
            clear h4
            simp only
            go_enter Try.func85, Try.ntmps85
            go_upto_region 1 with fail
            simp only [← hW1, ← HZ.out]
            clear hW1
            go_wp2_with (first
              | (go_at_call 133
                 refine (number_rd s4 R K _ HC4.out.2).mono ?_
                 rw [H4.out]
                 rintro e w5 ⟨hc, -, hp⟩
                 obtain ⟨rfl, hq⟩ := hp _ _ rfl
                 have HC5 : Hid (Chg W1 w5 (fun k => k = R) ∧ RdrA w5 R K s5) := ⟨cg_trans HC4.out.1 hc (fun _ _ h => h), hq⟩
                 have HOE5 : Hid (w5.ownsRow w2.heap.size 107 2 (.slice aE v.length cE) v.length (flatE v)) := cg_own hc HOE4.out (fun j hj e => by have h9 := (HOE4.out.lt j hj).1; have h8 := HC2.out.1.2.2.2.1; have h7 := HRK.out.1; have h6 := HZ1.out; have h5 := HZ.out; omega)
                 have HOP5 : Hid (w5.ownsRow w3.heap.size 34 7 (.slice aP o.length cP) o.length (flatP o)) := cg_own hc HOP4.out (fun j hj e => by have h9 := (HOP4.out.lt j hj).1; have h8 := HC3.out.1.2.2.2.1; have h7 := HRK.out.1; have h6 := HZ1.out; have h5 := HZ.out; omega)
                 have hb5 := cg_heap HC5.out.1 HBK.out hZR
                 have z0 : w5.cell? ⟨Z, 0, none⟩ = some (.int .i64 0) := cell_of_row w5 Z 0 _ _ _ hb5
                 have zf0 : w5.frozen? ⟨Z, 0, none⟩ = false := Lib.frozen_of_heap hb5 _
                 have z1 : w5.cell? ⟨Z, 1, none⟩ = some (.int .i64 0) := cell_of_row w5 Z 1 _ _ _ hb5
                 have zf1 : w5.frozen? ⟨Z, 1, none⟩ = false := Lib.frozen_of_heap hb5 _
                 have z2 : w5.cell? ⟨Z, 2, none⟩ = some (.slice none 0 0) := cell_of_row w5 Z 2 _ _ _ hb5
                 have zf2 : w5.frozen? ⟨Z, 2, none⟩ = false := Lib.frozen_of_heap hb5 _
                 have z3 : w5.cell? ⟨Z, 3, none⟩ = some (.slice none 0 0) := cell_of_row w5 Z 3 _ _ _ hb5
                 have zf3 : w5.frozen? ⟨Z, 3, none⟩ = false := Lib.frozen_of_heap hb5 _
                 have z4 : w5.cell? ⟨Z, 4, none⟩ = some (.int .i64 0) := cell_of_row w5 Z 4 _ _ _ hb5
                 have zf4 : w5.frozen? ⟨Z, 4, none⟩ = false := Lib.frozen_of_heap hb5 _
                 clear hb5
                 clear hc hp hq)
              | (go_at_call 136
                 refine (listP_rd s3 R K _ HC3.out.2 (Nat.lt_of_lt_of_le HK1.out HC3.out.1.2.2.2.1)).mono ?_
                 rw [H3.out]
                 rintro e w4 ⟨hc, -, hp⟩
                 obtain ⟨vP, rfl, ho, hq⟩ := hp _ _ rfl
                 obtain ⟨aP, cP, rfl, -, -, -, -⟩ := rdP_own ho
                 have HOP4 : Hid (w4.ownsRow w3.heap.size 34 7 (.slice aP o.length cP) o.length (flatP o)) := ho
                 have HC4 : Hid (Chg W1 w4 (fun k => k = R) ∧ RdrA w4 R K s4) := ⟨cg_trans HC3.out.1 hc (fun _ _ h => h), hq⟩
                 have HOE4 : Hid (w4.ownsRow w2.heap.size 107 2 (.slice aE v.length cE) v.length (flatE v)) := cg_own hc HOE3.out (fun j hj e => by have h9 := (HOE3.out.lt j hj).1; have h8 := HC2.out.1.2.2.2.1; have h7 := HRK.out.1; have h6 := HZ1.out; have h5 := HZ.out; omega)
                 clear hc hp hq ho)
              | (go_at_call 134
                 refine (listE_rd s2 R K _ HC2.out.2 (Nat.lt_of_lt_of_le HK1.out HC2.out.1.2.2.2.1)).mono ?_
                 rw [H2.out]
                 rintro e w3 ⟨hc, -, hp⟩
                 obtain ⟨vE, rfl, ho, hq⟩ := hp _ _ rfl
                 obtain ⟨aE, cE, rfl, -, -, -, -⟩ := rdE_own ho
                 have HOE3 : Hid (w3.ownsRow w2.heap.size 107 2 (.slice aE v.length cE) v.length (flatE v)) := ho
                 have HC3 : Hid (Chg W1 w3 (fun k => k = R) ∧ RdrA w3 R K s3) := ⟨cg_trans HC2.out.1 hc (fun _ _ h => h), hq⟩
                 clear hc hp hq ho)
              | (go_at_call 133
                 refine (number_rd s1 R K _ HC1.out.2).mono ?_
                 rw [H1.out]
                 rintro e w2 ⟨hc, -, hp⟩
                 obtain ⟨rfl, hq⟩ := hp _ _ rfl
                 have HC2 : Hid (Chg W1 w2 (fun k => k = R) ∧ RdrA w2 R K s2) := ⟨cg_trans HC1.out.1 hc (fun _ _ h => h), hq⟩
                 clear hc hp hq)
              | (go_at_call 133
                 refine (number_rd s0 R K _ HC0.out.2).mono ?_
                 rw [H0.out]
                 rintro e w1 ⟨hc, -, hp⟩
                 obtain ⟨rfl, hq⟩ := hp _ _ rfl
                 have HC1 : Hid (Chg W1 w1 (fun k => k = R) ∧ RdrA w1 R K s1) := ⟨cg_trans HC0.out.1 hc (fun _ _ h => h), hq⟩
                 clear hc hp hq))
            refine bodyPost_ret (v := .agg #[.int .i64 k, .int .i64 g, .slice aE v.length cE, .slice aP o.length cP, .int .i64 x]) ?_ rfl ?_
            · rw [results_cell_fr rfl]
              go_simp
            · have hk := HRK.out
              have hz := HZ.out
              have hz1 := HZ1.out
              have h22 := HC2.out.1.2.2.2.1
              have h33 := HC3.out.1.2.2.2.1
              have r1 : R < Z := by omega
              have r2 : K < Z := by omega
              have r3 : w.heap.size ≤ Z := by omega
              have f := fin1 (o := 4) (v := .int .i64 x) (fin1 (o := 3) (v := .slice aP o.length cP) (fin1 (o := 2) (v := .slice aE v.length cE) (fin1 (o := 1) (v := .int .i64 g) (fin1 (o := 0) (v := .int .i64 k) (⟨cg_trans HG1.out HC5.out.1 (fun _ _ h => h), HC5.out.2⟩) r1 r2 r3) r1 r2 r3) r1 r2 r3) r1 r2 r3) r1 r2 r3
              have q := cg_trans (cg_trans (cg_trans (cg_trans (cg_trans (cg_refl w5 (fun k => k = Z)) (cg_set _ Z 0 (.int .i64 k)) (fun _ _ h => h)) (cg_set _ Z 1 (.int .i64 g)) (fun _ _ h => h)) (cg_set _ Z 2 (.slice aE v.length cE)) (fun _ _ h => h)) (cg_set _ Z 3 (.slice aP o.length cP)) (fun _ _ h => h)) (cg_set _ Z 4 (.int .i64 x)) (fun _ _ h => h)
              refine ⟨f.1, (fun h => by cases h), fun f' r h => ?_⟩
              cases h
              have oE := cg_own q HOE5.out (fun j hj e => by have h9 := (HOE5.out.lt j hj).1; omega)
              have oP := cg_own q HOP5.out (fun j hj e => by have h9 := (HOP5.out.lt j hj).1; omega)
              obtain ⟨_, _, e1, _, _, re, _⟩ := rdE_own oE
              obtain ⟨_, _, e2, _, _, rp, _⟩ := rdP_own oP
              cases e1
              cases e2
              exact ⟨_, _, _, _, _, _, _, _, _, rfl, ⟨rfl, rfl, rfl, re, rp, (fun x e => by have h9 := (HOE5.out.lt x.block (by rw [e]; rfl)).1; omega), fun x e => by have h9 := (HOP5.out.lt x.block (by rw [e]; rfl)).1; omega⟩, f.2⟩
end Go.Proofs.Ytcbnmahbdcjamaa
