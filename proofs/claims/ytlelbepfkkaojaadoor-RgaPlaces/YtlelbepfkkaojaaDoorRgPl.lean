/- RgaPlaces: At and Ahead of a text, and what they have to do with one another. -/
import Derived.Test.YtlelbepfkkaojaaDoorRgKp
namespace Go.Proofs.YtlelbepfkkaojaaDoor
open Go.RowKit Go.Shelf Go.Maps Go.Sort
set_option linter.unusedVariables false
set_option linter.unusedSimpArgs false

theorem sel_true : (L : List Bool) → (k : Nat) → k < cnt L → L.getD (sel L k) false = true ∧ cnt (L.take (sel L k)) = k
  | [], k, h => by simp [cnt] at h
  | true :: r, 0, h => by simp [sel, cnt]
  | true :: r, k + 1, h => by
    obtain ⟨h1, h2⟩ := sel_true r k (by simp [cnt] at h; omega)
    rw [sel]
    refine ⟨by simpa using h1, ?_⟩
    rw [List.take_succ_cons, cnt, h2]
    simp; omega
  | false :: r, k, h => by
    obtain ⟨h1, h2⟩ := sel_true r k (by simpa [cnt] using h)
    rw [sel]
    refine ⟨by simpa using h1, ?_⟩
    rw [List.take_succ_cons, cnt, h2]
    simp
theorem filt_sel {α : Type} (f : α → Bool) : (A : List α) → (A.filter f).length = cnt (A.map f) ∧ ∀ k, k < cnt (A.map f) → (A.filter f)[k]? = A[sel (A.map f) k]?
  | [] => ⟨rfl, fun k h => by simp [cnt] at h⟩
  | x :: r => by
    obtain ⟨h1, h2⟩ := filt_sel f r
    cases hx : f x
    · rw [List.filter_cons_of_neg (by simp [hx]), List.map_cons, hx]
      refine ⟨by rw [h1, cnt]; simp, fun k hk => ?_⟩
      rw [sel, List.getElem?_cons_succ]
      exact h2 k (by simpa [cnt] using hk)
    · rw [List.filter_cons_of_pos hx, List.map_cons, hx]
      refine ⟨by rw [List.length_cons, h1, cnt]; simp; omega, fun k hk => ?_⟩
      cases k with
      | zero => rfl
      | succ k =>
        rw [sel, List.getElem?_cons_succ, List.getElem?_cons_succ]
        exact h2 k (by simp [cnt] at hk; omega)
theorem marks_map (O : List Opn) : marks O = ((seqE O).map Opn.id).map fun i => !deadE O i := by
  unfold marks
  rw [List.map_map]
  rfl
theorem visI_cnt (O : List Opn) : (visI (els O)).length = cnt (marks O) := by
  rw [visI_eq, marks_map]
  exact (filt_sel _ _).1
theorem visC_cnt (O : List Opn) : (visC (els O)).length = cnt (marks O) := by
  rw [← visI_cnt]
  unfold visC visI
  rw [List.length_map, List.length_map]
/-- The element at a place. -/
theorem place_at {O : List Opn} (hv : Rv O) (p : Nat) (hp : p < cnt (marks O)) :
    sel (marks O) p < (els O).length ∧ idAt O (sel (marks O) p) = (visI (els O)).getD p (0, 0) ∧ rnk (marks O) (fIx O ((visI (els O)).getD p (0, 0))) = p ∧ aliveE O ((visI (els O)).getD p (0, 0)) = true ∧ (Lit.int .i64 ((visI (els O)).getD p (0, 0)).2).wf = true := by
  have hl : sel (marks O) p < (els O).length := by
    have := sel_lt (marks O) p hp
    rw [marks_len] at this
    rw [els_len]
    exact this
  have h1 := idAt_some O _ hl
  have h2 : (visI (els O))[p]? = ((seqE O).map Opn.id)[sel (marks O) p]? := by
    have h3 := (filt_sel (fun i => !deadE O i) ((seqE O).map Opn.id)).2 p (by rw [← marks_map]; exact hp)
    rw [visI_eq, h3, ← marks_map]
  have h4 : (visI (els O)).getD p (0, 0) = idAt O (sel (marks O) p) := by
    rw [List.getD_eq_getElem?_getD, h2, h1]
    rfl
  have h5 : fIx O ((visI (els O)).getD p (0, 0)) = (sel (marks O) p : Int) := fIx_at O hv _ _ hl h4.symm
  obtain ⟨t1, t2⟩ := sel_true (marks O) p hp
  refine ⟨hl, h4.symm, ?_, ?_, ?_⟩
  · rw [h5]
    unfold rnk
    rw [Int.toNat_natCast]
    exact t2
  · rw [← seen_alive O hv, h5]
    unfold seenB
    rw [Int.toNat_natCast, t1]
    simp
  · have hm : (visI (els O)).getD p (0, 0) ∈ (seqE O).map Opn.id := by
      rw [h4]
      exact List.mem_of_getElem? h1
    obtain ⟨o, ho, e⟩ := List.mem_map.1 hm
    rw [← e]
    exact (wf_a (rv_op hv o ((seqE_mem O o).1 ho).1)).1
theorem results_cell_pl {fn : Func} {p q : Tmp} {ty : TypeId} (h : fn.results = #[.cell p ty, .tmp q]) (tmps : Array Value) (P : Program) (w : World) :
    (results fn tmps).run P w = ((asAddr (tmps.getD p undef)).run P w).andThen fun a w₁ => ((loadVar ty a).run P w₁).andThen fun v w₂ => .ok (.tuple #[v, tmps.getD q undef]) w₂ := by
  simp only [results, h]
  simp [Sem.run_bind, Result.andThen]
set_option maxHeartbeats 2000000 in
set_option maxRecDepth 100000 in
theorem at_rga {P B Q M : Nat} {ve vo vi : Value} {O : List Opn} (hl : O.length ≤ 99000) (k : Int) (hk : k ≤ 9223372036854775807) (w : World) (h : TxAt w P B ve vo vi Q M O) (hT : TabD w) :
    Calls Tryd.prog 10 #[.pointer (some ⟨P, 0, none⟩), .int .i64 k] w fun e w' => (selB (marks O) k = false → ∃ x y, e = .returned (.tuple #[.agg #[.int .i64 x, .int .i64 y], .bool false])) ∧ (selB (marks O) k = true → e = .returned (.tuple #[.agg #[.int .i64 (idAt O (sel (marks O) k.toNat)).1, .int .i64 (idAt O (sel (marks O) k.toNat)).2], .bool true])) ∧ Below w.heap.size w w' := by
  obtain ⟨W1, hW1⟩ : ∃ W1, W1 = w.alloc (.cells #[.int .i64 0, .int .i64 0] 30) := ⟨_, rfl⟩
  obtain ⟨N, hN⟩ : ∃ N, N = w.heap.size := ⟨_, rfl⟩
  have hb1 : Below w.heap.size w W1 := by rw [hW1]; exact (Below.refl _ w).alloc (Nat.le_refl _) _
  have hx1 : W1.heap[N]? = some (.cells #[.int .i64 0, .int .i64 0] 30) := by rw [hW1, hN]; exact heap_alloc_new w _
  have h1 := h.later hb1
  have c1 := h1.cells.2.1
  have HSL : Hid (Calls Tryd.prog 25 #[.pointer (some ⟨Q, 0, none⟩), .int .i64 k] W1 fun e w' => e = .returned (.tuple #[.int .i64 (selI (marks O) k), .bool (selB (marks O) k)]) ∧ w' = W1) := select_any Q B vi (marks O) k W1 h1.idx (by rw [marks_len]; have := seqE_len O; omega) hk (hT.later hb1)
  have HBS : Hid (∀ x y, Below w.heap.size w ((W1.setCell ⟨N, 0, none⟩ (.int .i64 x)).setCell ⟨N, 1, none⟩ (.int .i64 y))) := fun x y => hb1.trans (cg_bel (cg_trans (cg_set W1 N 0 _) (cg_set _ N 1 _) (fun k _ hk => hk)) hb1.size (fun k q => by rw [q, hN]; exact Nat.le_refl _))
  have n0 : W1.cell? ⟨N, 0, none⟩ = some (.int .i64 0) := cell_of_row W1 N 0 _ _ _ hx1
  have n1 : W1.cell? ⟨N, 1, none⟩ = some (.int .i64 0) := cell_of_row W1 N 1 _ _ _ hx1
  have f0 : W1.frozen? ⟨N, 0, none⟩ = false := Lib.frozen_of_heap hx1 _
  have f1 : W1.frozen? ⟨N, 1, none⟩ = false := Lib.frozen_of_heap hx1 _
  cases hz : selB (marks O) k
  · rw [hz] at HSL
    generalize selI (marks O) k = R at HSL
    clear h h1 hT hb1 hx1
    go_enter Tryd.func10, Tryd.ntmps10
    go_upto_region 1 with fail
    rw [← hN, ← hW1]
    clear hN hW1
    go_wp2_with (go_at_call 25; refine HSL.out.mono ?_; rintro e w2 ⟨rfl, hw⟩; subst hw)
    refine bodyPost_ret (v := .tuple #[.agg #[.int .i64 0, .int .i64 0], .bool false]) ?_ rfl ?_
    · rw [results_cell_pl rfl]
      go_simp
    · exact ⟨fun _ => ⟨0, 0, rfl⟩, fun h => (by cases h), HBS.out _ _⟩
  · rw [hz] at HSL
    have hzz := hz
    unfold selB at hzz
    simp only [Bool.and_eq_true, decide_eq_true_eq] at hzz
    obtain ⟨m, rfl⟩ : ∃ m : Nat, k = (m : Int) := ⟨k.toNat, by omega⟩
    have hm : m < cnt (marks O) := by omega
    have hsI : selI (marks O) (m : Int) = (sel (marks O) m : Int) := by unfold selI; rw [if_pos (by omega), Int.toNat_natCast]
    rw [hsI] at HSL
    have hlt := sel_lt (marks O) m hm
    rw [marks_len, ← els_len] at hlt
    obtain ⟨g, cap, hve, _, _, e0, e1, _⟩ := own_el h1.elm _ hlt
    have c0 := h1.cells.1
    rw [hve] at c0
    rw [Int.toNat_natCast]
    have HID : Hid ((idAt O (sel (marks O) m)) = (((els O).getD (sel (marks O) m) (0, 0, 0, false)).1, ((els O).getD (sel (marks O) m) (0, 0, 0, false)).2.1)) := rfl
    generalize sel (marks O) m = r at *
    generalize ((els O).getD r (0, 0, 0, false)).1 = x at e0 HID
    generalize ((els O).getD r (0, 0, 0, false)).2.1 = y at e1 HID
    rw [HID.out]
    generalize (els O).length = len at c0 hlt
    have hr0 : (0 : Int) ≤ (r : Int) := by omega
    have hr1 : (r : Int) < (len : Int) := by omega
    clear h h1 hT hb1 hx1 hve hz hzz hm hsI HID
    go_enter Tryd.func10, Tryd.ntmps10
    go_upto_region 1 with fail
    rw [← hN, ← hW1]
    clear hN hW1
    go_wp2_with (go_at_call 25; refine HSL.out.mono ?_; rintro e w2 ⟨rfl, hw⟩; subst hw)
    refine bodyPost_ret (v := .tuple #[.agg #[.int .i64 x, .int .i64 y], .bool true]) ?_ rfl ?_
    · rw [results_cell_pl rfl]
      go_simp
    · exact ⟨fun h => (by cases h), fun _ => rfl, HBS.out _ _⟩
set_option maxHeartbeats 1000000 in
theorem ahead_rga {P B Q M : Nat} {ve vo vi : Value} {O : List Opn} (hv : Rv O) (hl : O.length ≤ 99000) (i : Int × Int) (hi : (Lit.int .i64 i.2).wf = true) (w : World) (h : TxAt w P B ve vo vi Q M O) :
    Calls Tryd.prog 11 #[.pointer (some ⟨P, 0, none⟩), .agg #[.int .i64 i.1, .int .i64 i.2]] w fun e w' => e = .returned (.int .i64 (rnk (marks O) (fIx O i) : Int)) ∧ Gw w w' := by
  obtain ⟨i1, i2⟩ := i
  have mixed : Tryd.prog.follows .mixedOrders = true := by kernel_rfl
  obtain ⟨W1, hW1⟩ : ∃ W1, W1 = w.alloc (.cells #[.int .i64 i1, .int .i64 i2] 30) := ⟨_, rfl⟩
  have hg1 : Gw w W1 := by rw [hW1]; exact gw_alloc w _
  have hN : W1.heap[w.heap.size]? = some (.cells #[.int .i64 i1, .int .i64 i2] 30) := by rw [hW1]; exact heap_alloc_new w _
  obtain ⟨n0, n1⟩ := box2 hN
  have h1 := h.later hg1.below
  have g0 := cell_g n0
  have g1 := cell_g n1
  have c1 := cell_g h1.cells.2.1
  have hgr : ∀ n os, Gw w (grow (W1.drewN n) os) := fun n os => hg1.trans ⟨n, os, rfl⟩
  have hml : (marks O).length ≤ 100000 := by rw [marks_len]; have := seqE_len O; omega
  have hfx : fIx O (i1, i2) ≤ 9223372036854775807 := by
    have hsl := seqE_len O
    cases hh : hasE O (i1, i2)
    · rw [fIx_none O _ hh]; omega
    · obtain ⟨n, e, hn, _⟩ := fIx_some O hv _ hh
      rw [e]; omega
  have HFN : Hid (∀ n os, Calls Tryd.prog 17 #[.pointer (some ⟨P, 0, none⟩), .agg #[.int .i64 i1, .int .i64 i2]] (grow (W1.drewN n) os) fun e w' => e = .returned (.int .i64 (fIx O (i1, i2))) ∧ ∃ q os', w' = grow ((grow (W1.drewN n) os).drewN q) os') := fun n os => find_rga hv (by omega) (i1, i2) hi _ (h.later (hgr n os).below)
  have HRK : Hid (∀ n os, Calls Tryd.prog 26 #[.pointer (some ⟨Q, 0, none⟩), .int .i64 (fIx O (i1, i2))] (grow (W1.drewN n) os) fun e w' => e = .returned (.int .i64 (rnk (marks O) (fIx O (i1, i2)) : Int)) ∧ ∃ q, w' = (grow (W1.drewN n) os).drewN q) := fun n os => rankX_any Q B vi (marks O) _ _ (h.later (hgr n os).below).idx hml hfx
  have HGR : Hid (∀ n os, Gw w (grow (W1.drewN n) os)) := hgr
  generalize rnk (marks O) (fIx O (i1, i2)) = z at *
  generalize fIx O (i1, i2) = R at *
  obtain ⟨N, hNe⟩ : ∃ N, N = w.heap.size := ⟨_, rfl⟩
  rw [← hNe] at g0 g1 n0 n1
  clear h h1 hv hl hi hg1 hN hgr hml hfx
  go_enter Tryd.func11, Tryd.ntmps11
  go_upto_region 1 with fail
  rw [← hNe, ← hW1]
  clear hNe hW1
  go_quiet_grown (first
    | (go_at_call 17; refine Calls.grown_of (HFN.out _ _))
    | (go_at_call 26; refine Calls.grown_of ((HRK.out _ _).mono (fun e w' hh => ⟨hh.1, hh.2.choose, #[], by rw [grow_empty]; exact hh.2.choose_spec⟩))))
  go_wp2
  go_ret
  exact ⟨rfl, HGR.out _ _⟩
theorem s_at {w0 w : World} {P : Nat} {O : List Opn} {hs : Nat → Prop} (h : RgS w0 w P O hs) (hT : TabD w0) (hl : O.length ≤ 99000) (k : Int) (hk : k ≤ 9223372036854775807) :
    Calls Tryd.prog 10 #[.pointer (some ⟨P, 0, none⟩), .int .i64 k] w fun e w' => (selB (marks O) k = false → ∃ x y, e = .returned (.tuple #[.agg #[.int .i64 x, .int .i64 y], .bool false])) ∧ (selB (marks O) k = true → e = .returned (.tuple #[.agg #[.int .i64 (idAt O (sel (marks O) k.toNat)).1, .int .i64 (idAt O (sel (marks O) k.toNat)).2], .bool true])) ∧ Below w.heap.size w w' := by
  have hb0 := h.below
  obtain ⟨hv, ve, vo, vi, Q, M, h1, h2, h3⟩ := h
  exact at_rga hl k hk w (B := w0.heap.size) h1 (hT.later hb0)
theorem s_ahead {w0 w : World} {P : Nat} {O : List Opn} {hs : Nat → Prop} (h : RgS w0 w P O hs) (hl : O.length ≤ 99000) (i1 i2 : Int) (hi : (Lit.int .i64 i2).wf = true) :
    Calls Tryd.prog 11 #[.pointer (some ⟨P, 0, none⟩), .agg #[.int .i64 i1, .int .i64 i2]] w fun e w' => e = .returned (.int .i64 (rnk (marks O) (fIx O (i1, i2)) : Int)) ∧ Gw w w' := by
  obtain ⟨hv, ve, vo, vi, Q, M, h1, h2, h3⟩ := h
  exact ahead_rga hv hl (i1, i2) hi w (B := w0.heap.size) h1
end Go.Proofs.YtlelbepfkkaojaaDoor
