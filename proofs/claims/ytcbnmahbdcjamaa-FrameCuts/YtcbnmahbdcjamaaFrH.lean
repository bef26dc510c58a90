/- The walks of the reader's id, entry and op. -/
import Derived.Test.YtcbnmahbdcjamaaFrG
namespace Go.Proofs.Ytcbnmahbdcjamaa
open Go.RowKit
set_option linter.unusedVariables false
set_option linter.unusedSimpArgs false

theorem mkFunc (fn : Fn) (first cap : Array Value) (w : World) : (Instr.makeFunc fn first cap).run Try.prog w = .ok (.func fn first cap) w := rfl
theorem results_cell_fr {fn : Func} {p : Tmp} {ty : TypeId} (h : fn.results = #[.cell p ty]) (tmps : Array Value) (P : Program) (w : World) :
    (results fn tmps).run P w = ((asAddr (tmps.getD p undef)).run P w).andThen fun a w₁ => (loadVar ty a).run P w₁ := by
  simp only [results, h]
  simp [Sem.run_bind, Result.andThen]
/-- A store into a block of the call's own. -/
theorem fin1 {w W : World} {R K Z o : Nat} {r : List Int} {v : Value} (h : Chg w W (fun k => k = R) ∧ RdrA W R K r) (hR : R < Z) (hK : K < Z) (hZ : w.heap.size ≤ Z) : Chg w (W.setCell ⟨Z, o, none⟩ v) (fun k => k = R) ∧ RdrA (W.setCell ⟨Z, o, none⟩ v) R K r := by
  obtain ⟨h1, h2, h3, a, c, h4, h5, h6, h7⟩ := h
  have hcg := cg_set W Z o v
  have hZR : R ≠ Z := by omega
  refine ⟨cg_trans h1 hcg (fun k hk e => by omega), h2, h3, a, c, cg_heap hcg h4 hZR, rd_cg h5 hcg (fun b off e _ => ?_), h6, h7⟩
  have := h7 _ e
  simp only at this
  omega
/-- A block of the call's own behind calls that read. -/
theorem own_blk {w W1 W : World} {R Z : Nat} {o : Obj} (hZ : W1.heap[Z]? = some o) (hc : Chg W1 W (fun k => k = R)) (hR : Z ≠ R) : W.heap[Z]? = some o := cg_heap hc hZ hR
set_option maxRecDepth 100000 in
set_option maxHeartbeats 1000000 in
theorem id_rd (s : List Int) (R K : Nat) (w : World) (hat : RdrA w R K s) (hK : K < w.heap.size) :
    Calls Try.prog 156 #[.pointer (some ⟨R, 0, none⟩)] w fun e w' => RdQ ((idT s).map fun p => (.agg #[.int .i64 p.1.1, .int .i64 p.1.2], p.2)) R K w e w' := by
  have hmf := mkFunc
  have hRl := rdr_lt hat
  obtain ⟨W1, hW1⟩ : ∃ W1, W1 = w.alloc (.cells #[.int .i64 0, .int .i64 0] 32) := ⟨_, rfl⟩
  have hcg : Chg w W1 (fun k => k = R) := by rw [hW1]; exact cg_alloc (cg_refl _ _) _
  have hat1 : RdrA W1 R K s := by rw [hW1]; exact hat.cg (cg_alloc (cg_refl w (fun _ => False)) _) (fun _ _ h => h)
  have HBK : Hid (W1.heap[w.heap.size]? = some (.cells #[.int .i64 0, .int .i64 0] 32)) := by rw [hW1]; exact heap_alloc_new w _
  have HG1 : Hid (Chg w W1 (fun k => k = R)) := hcg
  have HN1 : Hid (Calls Try.prog 133 #[.pointer (some ⟨R, 0, none⟩)] W1 fun e w' => RdQ ((nuT s).map fun p => (.int .i64 p.1, p.2)) R K W1 e w') := number_rd s R K W1 hat1
  have HRK : Hid (R < w.heap.size ∧ K < w.heap.size) := ⟨hRl, hK⟩
  obtain ⟨Z, hZ⟩ : ∃ Z, Z = w.heap.size := ⟨_, rfl⟩
  rw [← hZ] at HBK
  have HZ : Hid (Z = w.heap.size) := hZ
  have hZR : Z ≠ R := by omega
  clear hat hcg hat1 hZ hRl hK
  unfold idT
  cases h1 : nuT s with
  | none =>
    rw [h1] at HN1
    clear h1
    go_enter Try.func156, Try.ntmps156
    go_upto_region 1 with fail
    simp only [← hW1, ← HZ.out]
    clear hW1
    go_wp2_with (go_at_call 133; refine HN1.out.mono ?_; rintro e w2 ⟨hc, hp, -⟩; obtain rfl := hp rfl; have HC : Hid (Chg W1 w2 (fun k => k = R)) := hc; clear hc hp)
    exact ⟨rfl, cg_trans HG1.out HC.out (fun _ _ h => h), (fun _ => rfl), fun v r h => by cases h⟩
  | some p =>
    obtain ⟨c, s1⟩ := p
    rw [h1] at HN1
    simp only
    cases h2 : nuT s1 with
    | none =>
      have H2 : Hid (nuT s1 = none) := h2
      clear h1 h2
      go_enter Try.func156, Try.ntmps156
      go_upto_region 1 with fail
      simp only [← hW1, ← HZ.out]
      clear hW1
      go_wp2_with (first
        | (go_at_call 133; refine (number_rd s1 R K _ HC2.out.2).mono ?_; rw [H2.out]; rintro e w3 ⟨hc, hp, -⟩; obtain rfl := hp rfl; have HC3 : Hid (Chg w2 w3 (fun k => k = R)) := hc; clear hc hp)
        | (go_at_call 133; refine HN1.out.mono ?_; rintro e w2 ⟨hc, -, hp⟩; obtain ⟨rfl, hq⟩ := hp _ _ rfl; have HC2 : Hid (Chg W1 w2 (fun k => k = R) ∧ RdrA w2 R K s1) := ⟨hc, hq⟩; clear hc hp hq))
      exact ⟨rfl, cg_trans HG1.out (cg_trans HC2.out.1 HC3.out (fun _ _ h => h)) (fun _ _ h => h), (fun _ => rfl), fun v r h => by cases h⟩
    | some q =>
      obtain ⟨a, s2⟩ := q
      have H2 : Hid (nuT s1 = some (a, s2)) := h2
      clear h1 h2
      go_enter Try.func156, Try.ntmps156
      go_upto_region 1 with fail
      simp only [← hW1, ← HZ.out]
      clear hW1
      go_wp2_with (first
        | (go_at_call 133
           refine (number_rd s1 R K _ HC2.out.2).mono ?_
           rw [H2.out]
           rintro e w3 ⟨hc, -, hp⟩
           obtain ⟨rfl, hq⟩ := hp _ _ rfl
           have HC3 : Hid (Chg w2 w3 (fun k => k = R) ∧ RdrA w3 R K s2) := ⟨hc, hq⟩
           have hb3 := cg_heap (cg_trans HC2.out.1 hc (fun _ _ h => h)) HBK.out hZR
           have z0 : w3.cell? ⟨Z, 0, none⟩ = some (.int .i64 0) := cell_of_row w3 Z 0 _ _ _ hb3
           have z1 : w3.cell? ⟨Z, 1, none⟩ = some (.int .i64 0) := cell_of_row w3 Z 1 _ _ _ hb3
           have zf0 : w3.frozen? ⟨Z, 0, none⟩ = false := Lib.frozen_of_heap hb3 _
           have zf1 : w3.frozen? ⟨Z, 1, none⟩ = false := Lib.frozen_of_heap hb3 _
           clear hc hp hq hb3)
        | (go_at_call 133; refine HN1.out.mono ?_; rintro e w2 ⟨hc, -, hp⟩; obtain ⟨rfl, hq⟩ := hp _ _ rfl; have HC2 : Hid (Chg W1 w2 (fun k => k = R) ∧ RdrA w2 R K s1) := ⟨hc, hq⟩; clear hc hp hq))
      refine bodyPost_ret (v := .agg #[.int .i64 c, .int .i64 a]) ?_ rfl ?_
      · rw [results_cell_fr rfl]
        go_simp
      · have hk := HRK.out
        have hz := HZ.out
        have f := fin1 (o := 1) (v := .int .i64 a) (fin1 (o := 0) (v := .int .i64 c) ⟨cg_trans HG1.out (cg_trans HC2.out.1 HC3.out.1 (fun _ _ h => h)) (fun _ _ h => h), HC3.out.2⟩ (show R < Z by omega) (show K < Z by omega) (show w.heap.size ≤ Z by omega)) (show R < Z by omega) (show K < Z by omega) (show w.heap.size ≤ Z by omega)
        refine ⟨f.1, (fun h => by cases h), fun v r h => ?_⟩
        cases h
        exact ⟨rfl, f.2⟩
set_option maxRecDepth 100000 in
set_option maxHeartbeats 1000000 in
theorem entry_rd (s : List Int) (R K : Nat) (w : World) (hat : RdrA w R K s) (hK : K < w.heap.size) :
    Calls Try.prog 135 #[.pointer (some ⟨R, 0, none⟩)] w fun e w' => RdQ ((idT s).map fun p => (.agg #[.int .i64 p.1.1, .int .i64 p.1.2], p.2)) R K w e w' := by
  have hmf := mkFunc
  have hRl := rdr_lt hat
  obtain ⟨W1, hW1⟩ : ∃ W1, W1 = w.alloc (.cells #[.int .i64 0, .int .i64 0] 107) := ⟨_, rfl⟩
  have hcg : Chg w W1 (fun k => k = R) := by rw [hW1]; exact cg_alloc (cg_refl _ _) _
  have hat1 : RdrA W1 R K s := by rw [hW1]; exact hat.cg (cg_alloc (cg_refl w (fun _ => False)) _) (fun _ _ h => h)
  have HBK : Hid (W1.heap[w.heap.size]? = some (.cells #[.int .i64 0, .int .i64 0] 107)) := by rw [hW1]; exact heap_alloc_new w _
  have HG1 : Hid (Chg w W1 (fun k => k = R)) := hcg
  have HN1 : Hid (Calls Try.prog 133 #[.pointer (some ⟨R, 0, none⟩)] W1 fun e w' => RdQ ((nuT s).map fun p => (.int .i64 p.1, p.2)) R K W1 e w') := number_rd s R K W1 hat1
  have HRK : Hid (R < w.heap.size ∧ K < w.heap.size) := ⟨hRl, hK⟩
  obtain ⟨Z, hZ⟩ : ∃ Z, Z = w.heap.size := ⟨_, rfl⟩
  rw [← hZ] at HBK
  have HZ : Hid (Z = w.heap.size) := hZ
  have hZR : Z ≠ R := by omega
  clear hat hcg hat1 hZ hRl hK
  unfold idT
  cases h1 : nuT s with
  | none =>
    rw [h1] at HN1
    clear h1
    go_enter Try.func135, Try.ntmps135
    go_upto_region 1 with fail
    simp only [← hW1, ← HZ.out]
    clear hW1
    go_wp2_with (go_at_call 133; refine HN1.out.mono ?_; rintro e w2 ⟨hc, hp, -⟩; obtain rfl := hp rfl; have HC : Hid (Chg W1 w2 (fun k => k = R)) := hc; clear hc hp)
    exact ⟨rfl, cg_trans HG1.out HC.out (fun _ _ h => h), (fun _ => rfl), fun v r h => by cases h⟩
  | some p =>
    obtain ⟨c, s1⟩ := p
    rw [h1] at HN1
    simp only
    cases h2 : nuT s1 with
    | none =>
      have H2 : Hid (nuT s1 = none) := h2
      clear h1 h2
      go_enter Try.func135, Try.ntmps135
      go_upto_region 1 with fail
      simp only [← hW1, ← HZ.out]
      clear hW1
      go_wp2_with (first
        | (go_at_call 133; refine (number_rd s1 R K _ HC2.out.2).mono ?_; rw [H2.out]; rintro e w3 ⟨hc, hp, -⟩; obtain rfl := hp rfl; have HC3 : Hid (Chg w2 w3 (fun k => k = R)) := hc; clear hc hp)
        | (go_at_call 133; refine HN1.out.mono ?_; rintro e w2 ⟨hc, -, hp⟩; obtain ⟨rfl, hq⟩ := hp _ _ rfl; have HC2 : Hid (Chg W1 w2 (fun k => k = R) ∧ RdrA w2 R K s1) := ⟨hc, hq⟩; clear hc hp hq))
      exact ⟨rfl, cg_trans HG1.out (cg_trans HC2.out.1 HC3.out (fun _ _ h => h)) (fun _ _ h => h), (fun _ => rfl), fun v r h => by cases h⟩
    | some q =>
      obtain ⟨a, s2⟩ := q
      have H2 : Hid (nuT s1 = some (a, s2)) := h2
      clear h1 h2
      go_enter Try.func135, Try.ntmps135
      go_upto_region 1 with fail
      simp only [← hW1, ← HZ.out]
      clear hW1
      go_wp2_with (first
        | (go_at_call 133
           refine (number_rd s1 R K _ HC2.out.2).mono ?_
           rw [H2.out]
           rintro e w3 ⟨hc, -, hp⟩
           obtain ⟨rfl, hq⟩ := hp _ _ rfl
           have HC3 : Hid (Chg w2 w3 (fun k => k = R) ∧ RdrA w3 R K s2) := ⟨hc, hq⟩
           have hb3 := cg_heap (cg_trans HC2.out.1 hc (fun _ _ h => h)) HBK.out hZR
           have z0 : w3.cell? ⟨Z, 0, none⟩ = some (.int .i64 0) := cell_of_row w3 Z 0 _ _ _ hb3
           have z1 : w3.cell? ⟨Z, 1, none⟩ = some (.int .i64 0) := cell_of_row w3 Z 1 _ _ _ hb3
           have zf0 : w3.frozen? ⟨Z, 0, none⟩ = false := Lib.frozen_of_heap hb3 _
           have zf1 : w3.frozen? ⟨Z, 1, none⟩ = false := Lib.frozen_of_heap hb3 _
           clear hc hp hq hb3)
        | (go_at_call 133; refine HN1.out.mono ?_; rintro e w2 ⟨hc, -, hp⟩; obtain ⟨rfl, hq⟩ := hp _ _ rfl; have HC2 : Hid (Chg W1 w2 (fun k => k = R) ∧ RdrA w2 R K s1) := ⟨hc, hq⟩; clear hc hp hq))
      refine bodyPost_ret (v := .agg #[.int .i64 c, .int .i64 a]) ?_ rfl ?_
      · rw [results_cell_fr rfl]
        go_simp
      · have hk := HRK.out
        have hz := HZ.out
        have f := fin1 (o := 1) (v := .int .i64 a) (fin1 (o := 0) (v := .int .i64 c) ⟨cg_trans HG1.out (cg_trans HC2.out.1 HC3.out.1 (fun _ _ h => h)) (fun _ _ h => h), HC3.out.2⟩ (show R < Z by omega) (show K < Z by omega) (show w.heap.size ≤ Z by omega)) (show R < Z by omega) (show K < Z by omega) (show w.heap.size ≤ Z by omega)
        refine ⟨f.1, (fun h => by cases h), fun v r h => ?_⟩
        cases h
        exact ⟨rfl, f.2⟩
end Go.Proofs.Ytcbnmahbdcjamaa
