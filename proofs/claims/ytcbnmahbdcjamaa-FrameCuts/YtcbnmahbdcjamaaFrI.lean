/- The walk of the reader's op. -/
import Derived.Test.YtcbnmahbdcjamaaFrH
namespace Go.Proofs.Ytcbnmahbdcjamaa
open Go.RowKit
set_option linter.unusedVariables false
set_option linter.unusedSimpArgs false

set_option maxRecDepth 100000 in
set_option maxHeartbeats 4000000 in
theorem op_rd (s0 : List Int) (R K : Nat) (w : World) (hat : RdrA w R K s0) (hK : K < w.heap.size) :
    Calls Try.prog 137 #[.pointer (some ⟨R, 0, none⟩)] w fun e w' => RdQ ((opT s0).map fun p => (p.1.val, p.2)) R K w e w' := by
  have hmf := mkFunc
  have hRl := rdr_lt hat
  obtain ⟨W1, hW1⟩ : ∃ W1, W1 = w.alloc (.cells #[.int .i64 0, .int .i64 0, .int .i64 0, .bool false, .int .i64 0, .int .i64 0, .int .i32 0] 34) := ⟨_, rfl⟩
  have hcg : Chg w W1 (fun k => k = R) := by rw [hW1]; exact cg_alloc (cg_refl _ _) _
  have hat1 : RdrA W1 R K s0 := by rw [hW1]; exact hat.cg (cg_alloc (cg_refl w (fun _ => False)) _) (fun _ _ h => h)
  have HBK : Hid (W1.heap[w.heap.size]? = some (.cells #[.int .i64 0, .int .i64 0, .int .i64 0, .bool false, .int .i64 0, .int .i64 0, .int .i32 0] 34)) := by rw [hW1]; exact heap_alloc_new w _
  have HK1 : Hid (K < W1.heap.size) := by rw [hW1]; show K < _; simp; omega
  have HZ1 : Hid (w.heap.size < W1.heap.size) := by rw [hW1]; show _ < _; simp
  have HG1 : Hid (Chg w W1 (fun k => k = R)) := hcg
  have HC0 : Hid (Chg W1 W1 (fun k => k = R) ∧ RdrA W1 R K s0) := ⟨cg_refl _ _, hat1⟩
  have HRK : Hid (R < w.heap.size ∧ K < w.heap.size) := ⟨hRl, hK⟩
  obtain ⟨Z, hZ⟩ : ∃ Z, Z = w.heap.size := ⟨_, rfl⟩
  rw [← hZ] at HBK HZ1
  have HZ : Hid (Z = w.heap.size) := hZ
  have hZR : Z ≠ R := by omega
  clear hat hcg hat1 hZ hRl hK
  unfold opT
  cases h0 : idT s0 with
  | none =>
    have H0 : Hid (idT s0 = none) := h0
    clear h0
    go_enter Try.func137, Try.ntmps137
    go_upto_region 1 with fail
    simp only [← hW1, ← HZ.out]
    clear hW1
    go_wp2_with (first
      | (go_at_call 156
         refine (id_rd s0 R K _ HC0.out.2 (Nat.lt_of_lt_of_le HK1.out HC0.out.1.2.2.2.1)).mono ?_
         rw [H0.out]
         rintro e w1 ⟨hc, hp, -⟩
         obtain rfl := hp rfl
         have HCP : Hid (Chg W1 w1 (fun k => k = R)) := cg_trans HC0.out.1 hc (fun _ _ h => h)
         clear hc hp))
    exact ⟨rfl, cg_trans HG1.out HCP.out (fun _ _ h => h), (fun _ => rfl), fun v r h => by cases h⟩
  | some p0 =>
    obtain ⟨⟨c, a⟩, s1⟩ := p0
    have H0 : Hid (idT s0 = some ((c, a), s1)) := h0
    clear h0
    simp only
    cases h1 : nuT s1 with
    | none =>
      have H1 : Hid (nuT s1 = none) := h1
      clear h1
      go_enter Try.func137, Try.ntmps137
      go_upto_region 1 with fail
      simp only [← hW1, ← HZ.out]
      clear hW1
      go_wp2_with (first
        | (go_at_call 133
           refine (number_rd s1 R K _ HC1.out.2).mono ?_
           rw [H1.out]
           rintro e w2 ⟨hc, hp, -⟩
           obtain rfl := hp rfl
           have HCP : Hid (Chg W1 w2 (fun k => k = R)) := cg_trans HC1.out.1 hc (fun _ _ h => h)
           clear hc hp)
        | (go_at_call 156
           refine (id_rd s0 R K _ HC0.out.2 (Nat.lt_of_lt_of_le HK1.out HC0.out.1.2.2.2.1)).mono ?_
           rw [H0.out]
           rintro e w1 ⟨hc, -, hp⟩
           obtain ⟨rfl, hq⟩ := hp _ _ rfl
           have HC1 : Hid (Chg W1 w1 (fun k => k = R) ∧ RdrA w1 R K s1) := ⟨cg_trans HC0.out.1 hc (fun _ _ h => h), hq⟩
           clear hc hp hq))
      exact ⟨rfl, cg_trans HG1.out HCP.out (fun _ _ h => h), (fun _ => rfl), fun v r h => by cases h⟩
    | some p1 =>
      obtain ⟨q, s2⟩ := p1
      have H1 : Hid (nuT s1 = some (q, s2)) := h1
      clear h1
      simp only
      cases h2 : upT 1 s2 with
      | none =>
        have H2 : Hid (upT 1 s2 = none) := h2
        clear h2
        go_enter Try.func137, Try.ntmps137
        go_upto_region 1 with fail
        simp only [← hW1, ← HZ.out]
        clear hW1
        go_wp2_with (first
          | (go_at_call 157
             refine (flag_rd s2 R K _ HC2.out.2).mono ?_
             rw [H2.out]
             rintro e w3 ⟨hc, hp, -⟩
             obtain rfl := hp rfl
             have HCP : Hid (Chg W1 w3 (fun k => k = R)) := cg_trans HC2.out.1 hc (fun _ _ h => h)
             clear hc hp)
          | (go_at_call 133
             refine (number_rd s1 R K _ HC1.out.2).mono ?_
             rw [H1.out]
             rintro e w2 ⟨hc, -, hp⟩
             obtain ⟨rfl, hq⟩ := hp _ _ rfl
             have HC2 : Hid (Chg W1 w2 (fun k => k = R) ∧ RdrA w2 R K s2) := ⟨cg_trans HC1.out.1 hc (fun _ _ h => h), hq⟩
             clear hc hp hq)
          | (go_at_call 156
             refine (id_rd s0 R K _ HC0.out.2 (Nat.lt_of_lt_of_le HK1.out HC0.out.1.2.2.2.1)).mono ?_
             rw [H0.out]
             rintro e w1 ⟨hc, -, hp⟩
             obtain ⟨rfl, hq⟩ := hp _ _ rfl
             have HC1 : Hid (Chg W1 w1 (fun k => k = R) ∧ RdrA w1 R K s1) := ⟨cg_trans HC0.out.1 hc (fun _ _ h => h), hq⟩
             clear hc hp hq))
        exact ⟨rfl, cg_trans HG1.out HCP.out (fun _ _ h => h), (fun _ => rfl), fun v r h => by cases h⟩
      | some p2 =>
        obtain ⟨b, s3⟩ := p2
        have H2 : Hid (upT 1 s2 = some (b, s3)) := h2
        clear h2
        simp only
        cases h3 : idT s3 with
        | none =>
          have H3 : Hid (idT s3 = none) := h3
          clear h3
          go_enter Try.func137, Try.ntmps137
          go_upto_region 1 with fail
          simp only [← hW1, ← HZ.out]
          clear hW1
          go_wp2_with (first
            | (go_at_call 156
               refine (id_rd s3 R K _ HC3.out.2 (Nat.lt_of_lt_of_le HK1.out HC3.out.1.2.2.2.1)).mono ?_
               rw [H3.out]
               rintro e w4 ⟨hc, hp, -⟩
               obtain rfl := hp rfl
               have HCP : Hid (Chg W1 w4 (fun k => k = R)) := cg_trans HC3.out.1 hc (fun _ _ h => h)
               clear hc hp)
            | (go_at_call 157
               refine (flag_rd s2 R K _ HC2.out.2).mono ?_
               rw [H2.out]
               rintro e w3 ⟨hc, -, hp⟩
               obtain ⟨rfl, hq⟩ := hp _ _ rfl
               have HC3 : Hid (Chg W1 w3 (fun k => k = R) ∧ RdrA w3 R K s3) := ⟨cg_trans HC2.out.1 hc (fun _ _ h => h), hq⟩
               clear hc hp hq)
            | (go_at_call 133
               refine (number_rd s1 R K _ HC1.out.2).mono ?_
               rw [H1.out]
               rintro e w2 ⟨hc, -, hp⟩
               obtain ⟨rfl, hq⟩ := hp _ _ rfl
               have HC2 : Hid (Chg W1 w2 (fun k => k = R) ∧ RdrA w2 R K s2) := ⟨cg_trans HC1.out.1 hc (fun _ _ h => h), hq⟩
               clear hc hp hq)
            | (go_at_call 156
               refine (id_rd s0 R K _ HC0.out.2 (Nat.lt_of_lt_of_le HK1.out HC0.out.1.2.2.2.1)).mono ?_
               rw [H0.out]
               rintro e w1 ⟨hc, -, hp⟩
               obtain ⟨rfl, hq⟩ := hp _ _ rfl
               have HC1 : Hid (Chg W1 w1 (fun k => k = R) ∧ RdrA w1 R K s1) := ⟨cg_trans HC0.out.1 hc (fun _ _ h => h), hq⟩
               clear hc hp hq))
          exact ⟨rfl, cg_trans HG1.out HCP.out (fun _ _ h => h), (fun _ => rfl), fun v r h => by cases h⟩
        | some p3 =>
          obtain ⟨⟨rc, ra⟩, s4⟩ := p3
          have H3 : Hid (idT s3 = some ((rc, ra), s4)) := h3
          clear h3
          simp only
          by_cases hb : b = 1
          · subst hb
            rw [if_pos rfl]
            have HF1 : decide ((1 : Int) = 1) = true := rfl
            cases h4 : upT 1114111 s4 with
            | none =>
              have H4 : Hid (upT 1114111 s4 = none) := h4
              clear h4
              go_enter Try.func137, Try.ntmps137
              go_upto_region 1 with fail
              simp only [← hW1, ← HZ.out]
              clear hW1
              go_upto_region 2 with (first
                | (go_at_call 156
                   refine (id_rd s3 R K _ HC3.out.2 (Nat.lt_of_lt_of_le HK1.out HC3.out.1.2.2.2.1)).mono ?_
                   rw [H3.out]
                   rintro e w4 ⟨hc, -, hp⟩
                   obtain ⟨rfl, hq⟩ := hp _ _ rfl
                   have HC4 : Hid (Chg W1 w4 (fun k => k = R) ∧ RdrA w4 R K s4) := ⟨cg_trans HC3.out.1 hc (fun _ _ h => h), hq⟩
                   obtain ⟨W6, hW6⟩ : ∃ W6, W6 = w4.alloc (.cells #[.int .i64 c, .int .i64 a, .int .i64 q, .bool true, .int .i64 rc, .int .i64 ra, .int .i32 0] 34) := ⟨_, rfl⟩
                   obtain ⟨Y, hY⟩ : ∃ Y, Y = w4.heap.size := ⟨_, rfl⟩
                   have HYE : Hid (Y = w4.heap.size) := hY
                   have HC6 : Hid (Chg W1 W6 (fun k => k = R) ∧ RdrA W6 R K s4) := by rw [hW6]; exact ⟨cg_alloc HC4.out.1 _, HC4.out.2.cg (cg_alloc (cg_refl w4 (fun _ => False)) _) (fun _ _ h => h)⟩
                   have HBY : Hid (W6.heap[Y]? = some (.cells #[.int .i64 c, .int .i64 a, .int .i64 q, .bool true, .int .i64 rc, .int .i64 ra, .int .i32 0] 34)) := by rw [hW6, hY]; exact heap_alloc_new w4 _
                   have HYZ : Hid (Z < Y) := Nat.lt_of_lt_of_le HZ1.out (by rw [hY]; exact HC4.out.1.2.2.2.1)
                   have hYZ : Y ≠ Z := by have := HYZ.out; omega
                   have hZY : Z ≠ Y := by have := HYZ.out; omega
                   have hbz := cg_heap HC6.out.1 HBK.out hZR
                   have z0 : W6.cell? ⟨Z, 0, none⟩ = some (.int .i64 0) := cell_of_row W6 Z 0 _ _ _ hbz
                   have zf0 : W6.frozen? ⟨Z, 0, none⟩ = false := Lib.frozen_of_heap hbz _
                   have y0 : W6.cell? ⟨Y, 0, none⟩ = some (.int .i64 c) := cell_of_row W6 Y 0 _ _ _ HBY.out
                   have z1 : W6.cell? ⟨Z, 1, none⟩ = some (.int .i64 0) := cell_of_row W6 Z 1 _ _ _ hbz
                   have zf1 : W6.frozen? ⟨Z, 1, none⟩ = false := Lib.frozen_of_heap hbz _
                   have y1 : W6.cell? ⟨Y, 1, none⟩ = some (.int .i64 a) := cell_of_row W6 Y 1 _ _ _ HBY.out
                   have z2 : W6.cell? ⟨Z, 2, none⟩ = some (.int .i64 0) := cell_of_row W6 Z 2 _ _ _ hbz
                   have zf2 : W6.frozen? ⟨Z, 2, none⟩ = false := Lib.frozen_of_heap hbz _
                   have y2 : W6.cell? ⟨Y, 2, none⟩ = some (.int .i64 q) := cell_of_row W6 Y 2 _ _ _ HBY.out
                   have z3 : W6.cell? ⟨Z, 3, none⟩ = some (.bool false) := cell_of_row W6 Z 3 _ _ _ hbz
                   have zf3 : W6.frozen? ⟨Z, 3, none⟩ = false := Lib.frozen_of_heap hbz _
                   have y3 : W6.cell? ⟨Y, 3, none⟩ = some (.bool true) := cell_of_row W6 Y 3 _ _ _ HBY.out
                   have z4 : W6.cell? ⟨Z, 4, none⟩ = some (.int .i64 0) := cell_of_row W6 Z 4 _ _ _ hbz
                   have zf4 : W6.frozen? ⟨Z, 4, none⟩ = false := Lib.frozen_of_heap hbz _
                   have y4 : W6.cell? ⟨Y, 4, none⟩ = some (.int .i64 rc) := cell_of_row W6 Y 4 _ _ _ HBY.out
                   have z5 : W6.cell? ⟨Z, 5, none⟩ = some (.int .i64 0) := cell_of_row W6 Z 5 _ _ _ hbz
                   have zf5 : W6.frozen? ⟨Z, 5, none⟩ = false := Lib.frozen_of_heap hbz _
                   have y5 : W6.cell? ⟨Y, 5, none⟩ = some (.int .i64 ra) := cell_of_row W6 Y 5 _ _ _ HBY.out
                   have z6 : W6.cell? ⟨Z, 6, none⟩ = some (.int .i32 0) := cell_of_row W6 Z 6 _ _ _ hbz
                   have zf6 : W6.frozen? ⟨Z, 6, none⟩ = false := Lib.frozen_of_heap hbz _
                   have y6 : W6.cell? ⟨Y, 6, none⟩ = some (.int .i32 0) := cell_of_row W6 Y 6 _ _ _ HBY.out
                   have yf6 : W6.frozen? ⟨Y, 6, none⟩ = false := Lib.frozen_of_heap HBY.out _
                   clear hbz hY
                   clear hc hp hq)
                | (go_at_call 157
                   refine (flag_rd s2 R K _ HC2.out.2).mono ?_
                   rw [H2.out]
                   rintro e w3 ⟨hc, -, hp⟩
                   obtain ⟨rfl, hq⟩ := hp _ _ rfl
                   have HC3 : Hid (Chg W1 w3 (fun k => k = R) ∧ RdrA w3 R K s3) := ⟨cg_trans HC2.out.1 hc (fun _ _ h => h), hq⟩
                   clear hc hp hq)
                | (go_at_call 133
                   refine (number_rd s1 R K _ HC1.out.2).mono ?_
                   rw [H1.out]
                   rintro e w2 ⟨hc, -, hp⟩
                   obtain ⟨rfl, hq⟩ := hp _ _ rfl
                   have HC2 : Hid (Chg W1 w2 (fun k => k = R) ∧ RdrA w2 R K s2) := ⟨cg_trans HC1.out.1 hc (fun _ _ h => h), hq⟩
                   clear hc hp hq)
                | (go_at_call 156
                   refine (id_rd s0 R K _ HC0.out.2 (Nat.lt_of_lt_of_le HK1.out HC0.out.1.2.2.2.1)).mono ?_
                   rw [H0.out]
                   rintro e w1 ⟨hc, -, hp⟩
                   obtain ⟨rfl, hq⟩ := hp _ _ rfl
                   have HC1 : Hid (Chg W1 w1 (fun k => k = R) ∧ RdrA w1 R K s1) := ⟨cg_trans HC0.out.1 hc (fun _ _ h => h), hq⟩
                   clear hc hp hq))
              simp only [← hW6, ← HYE.out]
              clear hW6
              go_wp2_with (go_at_call 158; refine (char_rd s4 R K _ HC6.out.2).mono ?_; rw [H4.out]; rintro e w7 ⟨hc, hp, -⟩; obtain rfl := hp rfl; have HCP : Hid (Chg W1 w7 (fun k => k = R)) := cg_trans HC6.out.1 hc (fun _ _ h => h); clear hc hp)
              exact ⟨rfl, cg_trans HG1.out HCP.out (fun _ _ h => h), (fun _ => rfl), fun v r h => by cases h⟩
            | some p4 =>
              obtain ⟨ch, s5⟩ := p4
              have H4 : Hid (upT 1114111 s4 = some (ch, s5)) := h4
              clear h4
              go_enter Try.func137, Try.ntmps137
              go_upto_region 1 with fail
              simp only [← hW1, ← HZ.out]
              clear hW1
              go_upto_region 2 with (first
                | (go_at_call 156
                   refine (id_rd s3 R K _ HC3.out.2 (Nat.lt_of_lt_of_le HK1.out HC3.out.1.2.2.2.1)).mono ?_
                   rw [H3.out]
                   rintro e w4 ⟨hc, -, hp⟩
                   obtain ⟨rfl, hq⟩ := hp _ _ rfl
                   have HC4 : Hid (Chg W1 w4 (fun k => k = R) ∧ RdrA w4 R K s4) := ⟨cg_trans HC3.out.1 hc (fun _ _ h => h), hq⟩
                   obtain ⟨W6, hW6⟩ : ∃ W6, W6 = w4.alloc (.cells #[.int .i64 c, .int .i64 a, .int .i64 q, .bool true, .int .i64 rc, .int .i64 ra, .int .i32 0] 34) := ⟨_, rfl⟩
                   obtain ⟨Y, hY⟩ : ∃ Y, Y = w4.heap.size := ⟨_, rfl⟩
                   have HYE : Hid (Y = w4.heap.size) := hY
                   have HC6 : Hid (Chg W1 W6 (fun k => k = R) ∧ RdrA W6 R K s4) := by rw [hW6]; exact ⟨cg_alloc HC4.out.1 _, HC4.out.2.cg (cg_alloc (cg_refl w4 (fun _ => False)) _) (fun _ _ h => h)⟩
                   have HBY : Hid (W6.heap[Y]? = some (.cells #[.int .i64 c, .int .i64 a, .int .i64 q, .bool true, .int .i64 rc, .int .i64 ra, .int .i32 0] 34)) := by rw [hW6, hY]; exact heap_alloc_new w4 _
                   have HYZ : Hid (Z < Y) := Nat.lt_of_lt_of_le HZ1.out (by rw [hY]; exact HC4.out.1.2.2.2.1)
                   have hYZ : Y ≠ Z := by have := HYZ.out; omega
                   have hZY : Z ≠ Y := by have := HYZ.out; omega
                   have hbz := cg_heap HC6.out.1 HBK.out hZR
                   have z0 : W6.cell? ⟨Z, 0, none⟩ = some (.int .i64 0) := cell_of_row W6 Z 0 _ _ _ hbz
                   have zf0 : W6.frozen? ⟨Z, 0, none⟩ = false := Lib.frozen_of_heap hbz _
                   have y0 : W6.cell? ⟨Y, 0, none⟩ = some (.int .i64 c) := cell_of_row W6 Y 0 _ _ _ HBY.out
                   have z1 : W6.cell? ⟨Z, 1, none⟩ = some (.int .i64 0) := cell_of_row W6 Z 1 _ _ _ hbz
                   have zf1 : W6.frozen? ⟨Z, 1, none⟩ = false := Lib.frozen_of_heap hbz _
                   have y1 : W6.cell? ⟨Y, 1, none⟩ = some (.int .i64 a) := cell_of_row W6 Y 1 _ _ _ HBY.out
                   have z2 : W6.cell? ⟨Z, 2, none⟩ = some (.int .i64 0) := cell_of_row W6 Z 2 _ _ _ hbz
                   have zf2 : W6.frozen? ⟨Z, 2, none⟩ = false := Lib.frozen_of_heap hbz _
                   have y2 : W6.cell? ⟨Y, 2, none⟩ = some (.int .i64 q) := cell_of_row W6 Y 2 _ _ _ HBY.out
                   have z3 : W6.cell? ⟨Z, 3, none⟩ = some (.bool false) := cell_of_row W6 Z 3 _ _ _ hbz
                   have zf3 : W6.frozen? ⟨Z, 3, none⟩ = false := Lib.frozen_of_heap hbz _
                   have y3 : W6.cell? ⟨Y, 3, none⟩ = some (.bool true) := cell_of_row W6 Y 3 _ _ _ HBY.out
                   have z4 : W6.cell? ⟨Z, 4, none⟩ = some (.int .i64 0) := cell_of_row W6 Z 4 _ _ _ hbz
                   have zf4 : W6.frozen? ⟨Z, 4, none⟩ = false := Lib.frozen_of_heap hbz _
                   have y4 : W6.cell? ⟨Y, 4, none⟩ = some (.int .i64 rc) := cell_of_row W6 Y 4 _ _ _ HBY.out
                   have z5 : W6.cell? ⟨Z, 5, none⟩ = some (.int .i64 0) := cell_of_row W6 Z 5 _ _ _ hbz
                   have zf5 : W6.frozen? ⟨Z, 5, none⟩ = false := Lib.frozen_of_heap hbz _
                   have y5 : W6.cell? ⟨Y, 5, none⟩ = some (.int .i64 ra) := cell_of_row W6 Y 5 _ _ _ HBY.out
                   have z6 : W6.cell? ⟨Z, 6, none⟩ = some (.int .i32 0) := cell_of_row W6 Z 6 _ _ _ hbz
                   have zf6 : W6.frozen? ⟨Z, 6, none⟩ = false := Lib.frozen_of_heap hbz _
                   have y6 : W6.cell? ⟨Y, 6, none⟩ = some (.int .i32 0) := cell_of_row W6 Y 6 _ _ _ HBY.out
                   have yf6 : W6.frozen? ⟨Y, 6, none⟩ = false := Lib.frozen_of_heap HBY.out _
                   clear hbz hY
                   clear hc hp hq)
                | (go_at_call 157
                   refine (flag_rd s2 R K _ HC2.out.2).mono ?_
                   rw [H2.out]
                   rintro e w3 ⟨hc, -, hp⟩
                   obtain ⟨rfl, hq⟩ := hp _ _ rfl
                   have HC3 : Hid (Chg W1 w3 (fun k => k = R) ∧ RdrA w3 R K s3) := ⟨cg_trans HC2.out.1 hc (fun _ _ h => h), hq⟩
                   clear hc hp hq)
                | (go_at_call 133
                   refine (number_rd s1 R K _ HC1.out.2).mono ?_
                   rw [H1.out]
                   rintro e w2 ⟨hc, -, hp⟩
                   obtain ⟨rfl, hq⟩ := hp _ _ rfl
                   have HC2 : Hid (Chg W1 w2 (fun k => k = R) ∧ RdrA w2 R K s2) := ⟨cg_trans HC1.out.1 hc (fun _ _ h => h), hq⟩
                   clear hc hp hq)
                | (go_at_call 156
                   refine (id_rd s0 R K _ HC0.out.2 (Nat.lt_of_lt_of_le HK1.out HC0.out.1.2.2.2.1)).mono ?_
                   rw [H0.out]
                   rintro e w1 ⟨hc, -, hp⟩
                   obtain ⟨rfl, hq⟩ := hp _ _ rfl
                   have HC1 : Hid (Chg W1 w1 (fun k => k = R) ∧ RdrA w1 R K s1) := ⟨cg_trans HC0.out.1 hc (fun _ _ h => h), hq⟩
                   clear hc hp hq))
              simp only [← hW6, ← HYE.out]
              clear hW6
              go_upto_region 3 with fail
              rename_i QQ KK hKK
              have HKK : Hid (type_of% hKK) := hKK
              clear hKK
              go_wp2_with (go_at_call 158
                           refine (char_rd s4 R K _ HC6.out.2).mono ?_
                           rw [H4.out]
                           rintro e w7 ⟨hc, -, hp⟩
                           obtain ⟨rfl, hq⟩ := hp _ _ rfl
                           have HC7 : Hid (Chg W1 w7 (fun k => k = R) ∧ RdrA w7 R K s5) := ⟨cg_trans HC6.out.1 hc (fun _ _ h => h), hq⟩
                           have hYR : Y ≠ R := by have := HYZ.out; have := HRK.out; have := HZ.out; omega
                           have hby7 := cg_heap hc HBY.out hYR
                           have hbz7 := cg_heap HC7.out.1 HBK.out hZR
                           clear z0 z1 z2 z3 z4 z5 z6 zf0 zf1 zf2 zf3 zf4 zf5 zf6 y0 y1 y2 y3 y4 y5 y6 yf6
                           have u6 : w7.cell? ⟨Y, 6, none⟩ = some (.int .i32 0) := cell_of_row w7 Y 6 _ _ _ hby7
                           have uf6 : w7.frozen? ⟨Y, 6, none⟩ = false := Lib.frozen_of_heap hby7 _
                           have HBY7 : Hid (w7.heap[Y]? = some (.cells #[.int .i64 c, .int .i64 a, .int .i64 q, .bool true, .int .i64 rc, .int .i64 ra, .int .i32 0] 34)) := hby7
                           have HBZ7 : Hid (w7.heap[Z]? = some (.cells #[.int .i64 0, .int .i64 0, .int .i64 0, .bool false, .int .i64 0, .int .i64 0, .int .i32 0] 34)) := hbz7
                           clear hc hp hq hby7 hbz7)
              obtain ⟨W8, hW8⟩ : ∃ W8, W8 = w7.setCell ⟨Y, 6, none⟩ (.int .i32 ch) := ⟨_, rfl⟩
              have HW8 : Hid (W8 = w7.setCell ⟨Y, 6, none⟩ (.int .i32 ch)) := hW8
              have hby8 : W8.heap[Y]? = some (.cells #[.int .i64 c, .int .i64 a, .int .i64 q, .bool true, .int .i64 rc, .int .i64 ra, .int .i32 ch] 34) := by rw [hW8, heap_setX w7 Y 6 _ _ _ _ HBY7.out]; rfl
              have hbz8 := cg_heap (cg_set w7 Y 6 (.int .i32 ch)) HBZ7.out hZY
              rw [← hW8] at hbz8
              rw [← hW8]
              clear hW8 u6 uf6
              have z0 : W8.cell? ⟨Z, 0, none⟩ = some (.int .i64 0) := cell_of_row W8 Z 0 _ _ _ hbz8
              have zf0 : W8.frozen? ⟨Z, 0, none⟩ = false := Lib.frozen_of_heap hbz8 _
              have y0 : W8.cell? ⟨Y, 0, none⟩ = some (.int .i64 c) := cell_of_row W8 Y 0 _ _ _ hby8
              have z1 : W8.cell? ⟨Z, 1, none⟩ = some (.int .i64 0) := cell_of_row W8 Z 1 _ _ _ hbz8
              have zf1 : W8.frozen? ⟨Z, 1, none⟩ = false := Lib.frozen_of_heap hbz8 _
              have y1 : W8.cell? ⟨Y, 1, none⟩ = some (.int .i64 a) := cell_of_row W8 Y 1 _ _ _ hby8
              have z2 : W8.cell? ⟨Z, 2, none⟩ = some (.int .i64 0) := cell_of_row W8 Z 2 _ _ _ hbz8
              have zf2 : W8.frozen? ⟨Z, 2, none⟩ = false := Lib.frozen_of_heap hbz8 _
              have y2 : W8.cell? ⟨Y, 2, none⟩ = some (.int .i64 q) := cell_of_row W8 Y 2 _ _ _ hby8
              have z3 : W8.cell? ⟨Z, 3, none⟩ = some (.bool false) := cell_of_row W8 Z 3 _ _ _ hbz8
              have zf3 : W8.frozen? ⟨Z, 3, none⟩ = false := Lib.frozen_of_heap hbz8 _
              have y3 : W8.cell? ⟨Y, 3, none⟩ = some (.bool true) := cell_of_row W8 Y 3 _ _ _ hby8
              have z4 : W8.cell? ⟨Z, 4, none⟩ = some (.int .i64 0) := cell_of_row W8 Z 4 _ _ _ hbz8
              have zf4 : W8.frozen? ⟨Z, 4, none⟩ = false := Lib.frozen_of_heap hbz8 _
              have y4 : W8.cell? ⟨Y, 4, none⟩ = some (.int .i64 rc) := cell_of_row W8 Y 4 _ _ _ hby8
              have z5 : W8.cell? ⟨Z, 5, none⟩ = some (.int .i64 0) := cell_of_row W8 Z 5 _ _ _ hbz8
              have zf5 : W8.frozen? ⟨Z, 5, none⟩ = false := Lib.frozen_of_heap hbz8 _
              have y5 : W8.cell? ⟨Y, 5, none⟩ = some (.int .i64 ra) := cell_of_row W8 Y 5 _ _ _ hby8
              have z6 : W8.cell? ⟨Z, 6, none⟩ = some (.int .i32 0) := cell_of_row W8 Z 6 _ _ _ hbz8
              have zf6 : W8.frozen? ⟨Z, 6, none⟩ = false := Lib.frozen_of_heap hbz8 _
              have y6 : W8.cell? ⟨Y, 6, none⟩ = some (.int .i32 ch) := cell_of_row W8 Y 6 _ _ _ hby8
              have yf6 : W8.frozen? ⟨Y, 6, none⟩ = false := Lib.frozen_of_heap hby8 _
              clear hby8 hbz8
              refine HKK.out _ _ ?_
              go_wp2
              refine bodyPost_ret (v := .agg #[.int .i64 c, .int .i64 a, .int .i64 q, .bool true, .int .i64 rc, .int .i64 ra, .int .i32 ch]) ?_ rfl ?_
              · rw [results_cell_fr rfl]
                go_simp
              · have hk := HRK.out
                have hz := HZ.out
                have hzy := HYZ.out
                have r1 : R < Z := by omega
                have r2 : K < Z := by omega
                have r3 : w.heap.size ≤ Z := by omega
                have HF8 := fin1 (o := 6) (v := .int .i32 ch) ⟨cg_trans HG1.out HC7.out.1 (fun _ _ h => h), HC7.out.2⟩ (show R < Y by omega) (show K < Y by omega) (show w.heap.size ≤ Y by omega)
                rw [← HW8.out] at HF8
                have f := fin1 (o := 6) (v := .int .i32 ch) (fin1 (o := 5) (v := .int .i64 ra) (fin1 (o := 4) (v := .int .i64 rc) (fin1 (o := 3) (v := .bool true) (fin1 (o := 2) (v := .int .i64 q) (fin1 (o := 1) (v := .int .i64 a) (fin1 (o := 0) (v := .int .i64 c) (HF8) r1 r2 r3) r1 r2 r3) r1 r2 r3) r1 r2 r3) r1 r2 r3) r1 r2 r3) r1 r2 r3
                refine ⟨f.1, (fun h => by cases h), fun v r h => ?_⟩
                cases h
                exact ⟨rfl, f.2⟩
          · rw [if_neg hb]
            have HF0 : decide (b = 1) = false := decide_eq_false hb
            go_enter Try.func137, Try.ntmps137
            go_upto_region 1 with fail
            simp only [← hW1, ← HZ.out]
            clear hW1
            go_upto_region 2 with (first
              | (go_at_call 156
                 refine (id_rd s3 R K _ HC3.out.2 (Nat.lt_of_lt_of_le HK1.out HC3.out.1.2.2.2.1)).mono ?_
                 rw [H3.out]
                 rintro e w4 ⟨hc, -, hp⟩
                 obtain ⟨rfl, hq⟩ := hp _ _ rfl
                 have HC4 : Hid (Chg W1 w4 (fun k => k = R) ∧ RdrA w4 R K s4) := ⟨cg_trans HC3.out.1 hc (fun _ _ h => h), hq⟩
                 obtain ⟨W6, hW6⟩ : ∃ W6, W6 = w4.alloc (.cells #[.int .i64 c, .int .i64 a, .int .i64 q, .bool false, .int .i64 rc, .int .i64 ra, .int .i32 0] 34) := ⟨_, rfl⟩
                 obtain ⟨Y, hY⟩ : ∃ Y, Y = w4.heap.size := ⟨_, rfl⟩
                 have HYE : Hid (Y = w4.heap.size) := hY
                 have HC6 : Hid (Chg W1 W6 (fun k => k = R) ∧ RdrA W6 R K s4) := by rw [hW6]; exact ⟨cg_alloc HC4.out.1 _, HC4.out.2.cg (cg_alloc (cg_refl w4 (fun _ => False)) _) (fun _ _ h => h)⟩
                 have HBY : Hid (W6.heap[Y]? = some (.cells #[.int .i64 c, .int .i64 a, .int .i64 q, .bool false, .int .i64 rc, .int .i64 ra, .int .i32 0] 34)) := by rw [hW6, hY]; exact heap_alloc_new w4 _
                 have HYZ : Hid (Z < Y) := Nat.lt_of_lt_of_le HZ1.out (by rw [hY]; exact HC4.out.1.2.2.2.1)
                 have hYZ : Y ≠ Z := by have := HYZ.out; omega
                 have hZY : Z ≠ Y := by have := HYZ.out; omega
                 have hbz := cg_heap HC6.out.1 HBK.out hZR
                 have z0 : W6.cell? ⟨Z, 0, none⟩ = some (.int .i64 0) := cell_of_row W6 Z 0 _ _ _ hbz
                 have zf0 : W6.frozen? ⟨Z, 0, none⟩ = false := Lib.frozen_of_heap hbz _
                 have y0 : W6.cell? ⟨Y, 0, none⟩ = some (.int .i64 c) := cell_of_row W6 Y 0 _ _ _ HBY.out
                 have z1 : W6.cell? ⟨Z, 1, none⟩ = some (.int .i64 0) := cell_of_row W6 Z 1 _ _ _ hbz
                 have zf1 : W6.frozen? ⟨Z, 1, none⟩ = false := Lib.frozen_of_heap hbz _
                 have y1 : W6.cell? ⟨Y, 1, none⟩ = some (.int .i64 a) := cell_of_row W6 Y 1 _ _ _ HBY.out
                 have z2 : W6.cell? ⟨Z, 2, none⟩ = some (.int .i64 0) := cell_of_row W6 Z 2 _ _ _ hbz
                 have zf2 : W6.frozen? ⟨Z, 2, none⟩ = false := Lib.frozen_of_heap hbz _
                 have y2 : W6.cell? ⟨Y, 2, none⟩ = some (.int .i64 q) := cell_of_row W6 Y 2 _ _ _ HBY.out
                 have z3 : W6.cell? ⟨Z, 3, none⟩ = some (.bool false) := cell_of_row W6 Z 3 _ _ _ hbz
                 have zf3 : W6.frozen? ⟨Z, 3, none⟩ = false := Lib.frozen_of_heap hbz _
                 have y3 : W6.cell? ⟨Y, 3, none⟩ = some (.bool false) := cell_of_row W6 Y 3 _ _ _ HBY.out
                 have z4 : W6.cell? ⟨Z, 4, none⟩ = some (.int .i64 0) := cell_of_row W6 Z 4 _ _ _ hbz
                 have zf4 : W6.frozen? ⟨Z, 4, none⟩ = false := Lib.frozen_of_heap hbz _
                 have y4 : W6.cell? ⟨Y, 4, none⟩ = some (.int .i64 rc) := cell_of_row W6 Y 4 _ _ _ HBY.out
                 have z5 : W6.cell? ⟨Z, 5, none⟩ = some (.int .i64 0) := cell_of_row W6 Z 5 _ _ _ hbz
                 have zf5 : W6.frozen? ⟨Z, 5, none⟩ = false := Lib.frozen_of_heap hbz _
                 have y5 : W6.cell? ⟨Y, 5, none⟩ = some (.int .i64 ra) := cell_of_row W6 Y 5 _ _ _ HBY.out
                 have z6 : W6.cell? ⟨Z, 6, none⟩ = some (.int .i32 0) := cell_of_row W6 Z 6 _ _ _ hbz
                 have zf6 : W6.frozen? ⟨Z, 6, none⟩ = false := Lib.frozen_of_heap hbz _
                 have y6 : W6.cell? ⟨Y, 6, none⟩ = some (.int .i32 0) := cell_of_row W6 Y 6 _ _ _ HBY.out
                 have yf6 : W6.frozen? ⟨Y, 6, none⟩ = false := Lib.frozen_of_heap HBY.out _
                 clear hbz hY
                 clear hc hp hq)
              | (go_at_call 157
                 refine (flag_rd s2 R K _ HC2.out.2).mono ?_
                 rw [H2.out]
                 rintro e w3 ⟨hc, -, hp⟩
                 obtain ⟨rfl, hq⟩ := hp _ _ rfl
                 have HC3 : Hid (Chg W1 w3 (fun k => k = R) ∧ RdrA w3 R K s3) := ⟨cg_trans HC2.out.1 hc (fun _ _ h => h), hq⟩
                 clear hc hp hq)
              | (go_at_call 133
                 refine (number_rd s1 R K _ HC1.out.2).mono ?_
                 rw [H1.out]
                 rintro e w2 ⟨hc, -, hp⟩
                 obtain ⟨rfl, hq⟩ := hp _ _ rfl
                 have HC2 : Hid (Chg W1 w2 (fun k => k = R) ∧ RdrA w2 R K s2) := ⟨cg_trans HC1.out.1 hc (fun _ _ h => h), hq⟩
                 clear hc hp hq)
              | (go_at_call 156
                 refine (id_rd s0 R K _ HC0.out.2 (Nat.lt_of_lt_of_le HK1.out HC0.out.1.2.2.2.1)).mono ?_
                 rw [H0.out]
                 rintro e w1 ⟨hc, -, hp⟩
                 obtain ⟨rfl, hq⟩ := hp _ _ rfl
                 have HC1 : Hid (Chg W1 w1 (fun k => k = R) ∧ RdrA w1 R K s1) := ⟨cg_trans HC0.out.1 hc (fun _ _ h => h), hq⟩
                 clear hc hp hq))
            simp only [← hW6, ← HYE.out]
            clear hW6
            go_wp2
            refine bodyPost_ret (v := .agg #[.int .i64 c, .int .i64 a, .int .i64 q, .bool false, .int .i64 rc, .int .i64 ra, .int .i32 0]) ?_ rfl ?_
            · rw [results_cell_fr rfl]
              go_simp
            · have hk := HRK.out
              have hz := HZ.out
              have hzy := HYZ.out
              have r1 : R < Z := by omega
              have r2 : K < Z := by omega
              have r3 : w.heap.size ≤ Z := by omega
              have f := fin1 (o := 6) (v := .int .i32 0) (fin1 (o := 5) (v := .int .i64 ra) (fin1 (o := 4) (v := .int .i64 rc) (fin1 (o := 3) (v := .bool false) (fin1 (o := 2) (v := .int .i64 q) (fin1 (o := 1) (v := .int .i64 a) (fin1 (o := 0) (v := .int .i64 c) (⟨cg_trans HG1.out HC6.out.1 (fun _ _ h => h), HC6.out.2⟩) r1 r2 r3) r1 r2 r3) r1 r2 r3) r1 r2 r3) r1 r2 r3) r1 r2 r3) r1 r2 r3
              refine ⟨f.1, (fun h => by cases h), fun v r h => ?_⟩
              cases h
              exact ⟨rfl, f.2⟩
end Go.Proofs.Ytcbnmahbdcjamaa
