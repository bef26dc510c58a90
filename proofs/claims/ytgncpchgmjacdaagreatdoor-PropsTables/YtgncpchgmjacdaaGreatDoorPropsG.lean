/- The walk of the library's Insert of one range into a row of the caller's own. -/
import Derived.Test.YtgncpchgmjacdaaGreatDoorPropsF
import Derived.Test.YtgncpchgmjacdaaGreatDoorPropsE
import Derived.Shelf.Spec.SlicesInsertGrow
import Derived.Deep.RegionLaw
namespace Go.Proofs.YtgncpchgmjacdaaGreatDoor
open Go.RowKit
set_option linter.unusedVariables false

theorem info_R : (Tryz.prog.info? 39).map (fun i => (i.zero, i.size, i.bytes)) = some (some (.agg #[.int .i32 0, .int .i32 0, .string ⟨#[]⟩]), 3, 24) := by kernel_rfl
/-- What Insert leaves: the caller's row with one range more. -/
def InsPost (B : Nat) (rs : List Rg) (v : Value) (w : World) (e : Ending) (w' : World) : Prop :=
  ∃ v', e = .returned v' ∧ w'.ownsRow B 39 3 v' rs.length (flatR rs) ∧ w.grownBy w' v.ownBlock
theorem news_R {w : World} {vb : Nat} {x : Rg} {t : TypeId} (h : w.heap[vb]? = some (.cells (encR x).toArray t)) : ∀ j u, (encR x)[j]? = some u → w.cell? ⟨vb, 0 + j, none⟩ = some u := by
  intro j u hu
  rw [Nat.zero_add, cell_of_row w vb j _ _ _ h]
  simpa using hu

set_option maxHeartbeats 4000000 in
theorem insert_end (rs : List Rg) (x : Rg) (B : Nat) (v : Value) (vb : Nat) (w : World) (hown : w.ownsRow B 39 3 v rs.length (flatR rs)) (hB : B ≤ w.heap.size)
    (hv : w.heap[vb]? = some (.cells (encR x).toArray 39)) (hl : rs.length ≤ 100000000) :
    Calls Tryz.prog 72 #[v, .int .i64 rs.length, .slice (some ⟨vb, 0, none⟩) 1 1] w (InsPost B (rs ++ [x]) v w) := by
  obtain ⟨i0, hi, hz0, hz1, hz2⟩ := info_parts info_R
  have HI : Hid (Tryz.prog.info? 39 = some i0 ∧ i0.zero = some (.agg #[.int .i32 0, .int .i32 0, .string ⟨#[]⟩]) ∧ i0.size = 3 ∧ i0.bytes = 24) := ⟨hi, hz0, hz1, hz2⟩
  clear hi hz0 hz1 hz2
  have HO : Hid (w.ownsRow B 39 3 v rs.length (flatR rs)) := hown
  have HN : Hid (∀ j u, (encR x)[j]? = some u → w.cell? ((⟨vb, 0, none⟩ : Addr).add j) = some u) := by
    intro j u hu
    rw [add_lit]; exact news_R hv j u hu
  have HFIN : Hid (∀ v' w', w'.ownsRow B 39 3 v' (rs.length + 1) (flatR rs ++ encR x) → w.grownBy w' v.ownBlock → InsPost B (rs ++ [x]) v w (.returned v') w') := by
    intro v' w' h1 h2
    refine ⟨v', rfl, ?_, h2⟩
    rw [flatR_app, List.length_append, List.length_singleton, flatR_one]
    have : flatR ([] : List Rg) = [] := rfl
    rw [this, List.append_nil]
    exact h1
  obtain ⟨n, hn⟩ : ∃ n, n = rs.length := ⟨_, rfl⟩
  have HLN : Hid (n = rs.length) := hn
  rw [← hn] at HO HFIN hl hown ⊢
  rcases hown.2 with ⟨rfl, h0⟩ | ⟨g, cap, cur, rfl, hbg, hg, hnc, hm, hs, ht⟩
  · have hn0 : n = 0 := by omega
    clear hn hv hown
    subst hn0
    go_enter Tryz.func72, Tryz.ntmps72
    go_wp2_with (at_builtin; refine wpList_append_own _ rfl _ _ 23 rfl B 39 i0 _ 3 24 Tryz.underlying23 HI.out.1 HI.out.2.1 HI.out.2.2.1 HI.out.2.2.2 rfl (by decide) _ 0 (flatR rs) rfl HO.out ⟨vb, 0, none⟩ 1 1 (encR x) rfl rfl HN.out (flatR_one' x) (by unfold maxLen; omega) (by omega) hB (fun v' w' h1 h2 _ => ?_); have HF := HFIN.out v' w' h1 h2; have HFF : Hid _ := HF; clear HF h1 h2)
    go_ret
    exact HFF.out
  · have hm' : cap ≤ 9223372036854775807 := by simpa [maxLen] using hm
    have hcut := cutR_from g 0 n cap n (Nat.le_refl _) hnc
    clear hn hv hown hg hs ht hm hbg
    go_enter Tryz.func72, Tryz.ntmps72
    go_wp2_with (at_builtin; refine wpList_append_own _ rfl _ _ 23 rfl B 39 i0 _ 3 24 Tryz.underlying23 HI.out.1 HI.out.2.1 HI.out.2.2.1 HI.out.2.2.2 rfl (by decide) _ n (flatR rs) rfl HO.out ⟨vb, 0, none⟩ 1 1 (encR x) rfl rfl HN.out (flatR_one' x) (by unfold maxLen; omega) (by omega) hB (fun v' w' h1 h2 _ => ?_); have HF := HFIN.out v' w' h1 h2; have HFF : Hid _ := HF; clear HF h1 h2)
    all_goals
      go_ret
      exact HFF.out

/-- What a row's cells are behind one record put in at i. -/
theorem shift_cells (L F E : List Value) (n i : Nat) (hi : i ≤ n) (hL : 3 * n + 3 ≤ L.length) (hF : L.take (n * 3) = F) (hE : E.length = 3)
    (L1 L2 : List Value) (h1 : L1 = L.take ((i + 1) * 3) ++ (F.drop (3 * i) ++ L.drop ((i + 1) * 3 + (F.drop (3 * i)).length))) (h2 : L2 = L1.take (i * 3) ++ (E ++ L1.drop (i * 3 + E.length))) :
    L2.take ((n + 1) * 3) = F.take (3 * i) ++ (E ++ F.drop (3 * i)) := by
  have hFl : F.length = n * 3 := by rw [← hF, List.length_take]; omega
  have ht : (L.take ((i + 1) * 3)).length = (i + 1) * 3 := by rw [List.length_take]; omega
  have e1 : L1.take (i * 3) = F.take (3 * i) := by
    rw [h1, List.take_append_of_le_length (by rw [ht]; omega), List.take_take, ← hF, List.take_take]
    congr 1
    omega
  have e2 : L1.drop (i * 3 + E.length) = F.drop (3 * i) ++ L.drop ((i + 1) * 3 + (F.drop (3 * i)).length) := by
    rw [h1, hE, show i * 3 + 3 = (L.take ((i + 1) * 3)).length by rw [ht]; omega, List.drop_left']
    rfl
  rw [h2, e1, e2, ← List.append_assoc, ← List.append_assoc]
  rw [List.take_append_of_le_length (by simp [hFl, hE]; omega), List.take_of_length_le (by simp [hFl, hE]; omega), List.append_assoc]
theorem grown_of_shift {w w' : World} {g : Nat} (hsz : w'.heap.size = w.heap.size) (h2 : w'.os = w.os) (h3 : w'.tape = w.tape) (h4 : w'.output = w.output) (hb : ∀ k, k ≠ g → w'.heap[k]? = w.heap[k]?) : w.grownBy w' (some g) :=
  ⟨h2, h3, h4, by omega, fun k _ hk => hb k (fun e => hk (by rw [e]))⟩

set_option maxHeartbeats 4000000 in
theorem insert_shift (rs : List Rg) (x : Rg) (B g cap : Nat) (cur : Array Value) (vb i : Nat) (w : World) (hbg : B ≤ g) (hg : w.heap[g]? = some (.cells cur 39 (0, 0))) (hm : cap ≤ maxLen) (hs : cur.size = cap * 3)
    (ht : cur.toList.take (rs.length * 3) = flatR rs) (hi : i < rs.length) (hroom : rs.length + 1 ≤ cap) (hvg : vb ≠ g)
    (hv : w.heap[vb]? = some (.cells (encR x).toArray 39)) :
    Calls Tryz.prog 72 #[.slice (some ⟨g, 0, none⟩) rs.length cap, .int .i64 i, .slice (some ⟨vb, 0, none⟩) 1 1] w (InsPost B (rs.take i ++ x :: rs.drop i) (.slice (some ⟨g, 0, none⟩) rs.length cap) w) := by
  obtain ⟨n, hn⟩ : ∃ n, n = rs.length := ⟨_, rfl⟩
  rw [← hn] at ht hi hroom ⊢
  obtain ⟨F, hF⟩ : ∃ F, F = flatR rs := ⟨_, rfl⟩
  rw [← hF] at ht
  have hFl : F.length = 3 * n := by rw [hF, flatR_len, hn]
  have hF1 : ∀ v ∈ F, v.oneCell' = true := by rw [hF]; exact flatR_cells rs
  have hm' : cap ≤ 9223372036854775807 := by simpa [maxLen] using hm
  have hcell : ∀ j v, F[j]? = some v → w.cell? ⟨g, j, none⟩ = some v := by
    intro j v hj
    rw [cell_of_row w g j _ _ _ hg]
    rw [← ht, List.getElem?_take] at hj
    split at hj
    · simpa using hj
    · cases hj
  have hsome : ∀ j, j < cap * 3 → (w.cell? ⟨g, j, none⟩).isSome = true := by
    intro j hj
    rw [cell_of_row w g j _ _ _ hg, Array.getElem?_eq_getElem (by omega)]; rfl
  have hfz : ∀ j, w.frozen? ⟨g, j, none⟩ = false := fun j => Lib.frozen_of_heap hg j
  have hsz : (Tryz.prog.info? 39).map (·.size) = some 3 := by kernel_rfl
  have hshg : w.shape? g = some (39, cap * 3) := by simp [World.shape?, hg, hs]
  have hshv : w.shape? vb = some (39, 3) := by simp [World.shape?, hv, encR]
  have hov : ∀ lb cb, (callFunc 106 #[.slice (some ⟨vb, 0, none⟩) 1 1, .slice (some ⟨g, (i + 1) * 3, none⟩) lb cb]).run Tryz.prog w = .ok (.value (.bool false)) w := fun lb cb => by
    rw [run_callFunc_extern Tryz.func106 (by kernel_rfl) (by kernel_rfl) (by kernel_rfl) (e := Extern.SlicesOverlaps.overlaps #[23, 23] #[4]) (by kernel_rfl),
      Lib.run_overlaps_apart w 23 4 39 Tryz.underlying23 3 Tryz.sizeOf39 ⟨vb, 0, none⟩ ⟨g, (i + 1) * 3, none⟩ 1 1 lb cb hvg 39 39 3 (cap * 3) hshv hshg (by omega) (Lib.frozen_of_heap hv 0) (Lib.frozen_of_heap hv 3)]
    rfl
  obtain ⟨D, hD⟩ : ∃ D, D = F.drop (3 * i) := ⟨_, rfl⟩
  have hDl : D.length = (n - i) * 3 := by rw [hD, List.length_drop, hFl]; omega
  obtain ⟨E, hE⟩ : ∃ E, E = encR x := ⟨_, rfl⟩
  have hEl : E.length = 3 := by rw [hE]; rfl
  have hcp1 : ∀ ty dc sc, (Builtin.copy_ #[23, 23] ty #[.slice (some ⟨g, (i + 1) * 3, none⟩) (n - i) dc, .slice (some ⟨g, i * 3, none⟩) (n + 1 - i) sc]).run Tryz.prog w.drew = .ok (goInt ((n - i : Nat) : Int)) (w.drew.setCells g ((i + 1) * 3) D) := fun ty dc sc =>
    run_copyK w.drew _ _ ty 39 3 g ((i + 1) * 3) (n - i) dc ⟨g, i * 3, none⟩ (n + 1 - i) sc (n - i) D Tryz.underlying23 hsz (by simp only [Nat.min_def]; split <;> omega) hDl
      (fun j v hj => by rw [add_lit]; exact hcell (i * 3 + j) v (by rw [hD, List.getElem?_drop] at hj; rw [show i * 3 + j = 3 * i + j by omega]; exact hj))
      (fun j hj => hsome _ (by omega)) (fun j hj => hfz _) (fun v hv => hF1 v (by rw [hD] at hv; exact List.mem_of_mem_drop hv))
  obtain ⟨W1, hW1⟩ : ∃ W1, W1 = w.drew.setCells g ((i + 1) * 3) D := ⟨_, rfl⟩
  rw [← hW1] at hcp1
  have hg1 : W1.heap[g]? = some (.cells (setL cur ((i + 1) * 3) D) 39 (0, 0)) := by rw [hW1]; exact heap_setCells g D _ w.drew cur _ _ hg
  have hv1 : W1.heap[vb]? = some (.cells (encR x).toArray 39) := by rw [hW1, heap_setCells_other g vb hvg]; exact hv
  have hcp2 : ∀ ty dc, (Builtin.copy_ #[23, 23] ty #[.slice (some ⟨g, i * 3, none⟩) (n + 1 - i) dc, .slice (some ⟨vb, 0, none⟩) 1 1]).run Tryz.prog W1 = .ok (goInt 1) (W1.setCells g (i * 3) E) := fun ty dc =>
    run_copyK W1 _ _ ty 39 3 g (i * 3) (n + 1 - i) dc ⟨vb, 0, none⟩ 1 1 1 E Tryz.underlying23 hsz (by simp only [Nat.min_def]; split <;> omega) (by rw [hEl])
      (fun j v hj => by rw [add_lit]; exact news_R hv1 j v (by rw [← hE]; exact hj))
      (fun j hj => by rw [cell_of_row W1 g _ _ _ _ hg1, Array.getElem?_eq_getElem (by rw [setL_size]; omega)]; rfl)
      (fun j hj => Lib.frozen_of_heap hg1 _) (fun v hv => flatR_one' x v (by rw [← hE]; exact hv))
  have HFIN : Hid (InsPost B (rs.take i ++ x :: rs.drop i) (.slice (some ⟨g, 0, none⟩) n cap) w (.returned (.slice (some ⟨g, 0, none⟩) (n + 1) cap)) (W1.setCells g (i * 3) E)) := by
    have hg2 := heap_setCells g E (i * 3) W1 _ _ _ hg1
    obtain ⟨s1, s2, s3, s4⟩ := size_setCells g E (i * 3) W1
    obtain ⟨r1, r2, r3, r4⟩ := size_setCells g D ((i + 1) * 3) w.drew
    rw [← hW1] at r1 r2 r3 r4
    have hlen : (rs.take i ++ x :: rs.drop i).length = n + 1 := by simp; omega
    have hfl : flatR (rs.take i ++ x :: rs.drop i) = F.take (3 * i) ++ (E ++ F.drop (3 * i)) := by
      rw [flatR_app, flatR_one, (flatR_take rs i (by omega)).1, (flatR_take rs i (by omega)).2, ← hF, hE]
    refine ⟨_, rfl, ⟨?_, .inr ⟨g, cap, _, by rw [hlen], hbg, hg2, by rw [hlen]; exact hroom, hm, by rw [setL_size, setL_size]; exact hs, ?_⟩⟩, ?_⟩
    · rw [flatR_len]; omega
    · rw [hlen, hfl]
      refine shift_cells cur.toList F E n i (by omega) (by simp [hs]; omega) ht hEl (setL cur ((i + 1) * 3) D).toList _ ?_ ?_
      · rw [setL_list D cur _ (by rw [hDl, hs]; omega), ← hD]
      · rw [setL_list E _ _ (by rw [setL_size, hEl, hs]; omega)]
    · refine grown_of_shift (by rw [s1, r1]; rfl) (by rw [s2, r2]; rfl) (by rw [s3, r3]; rfl) (by rw [s4, r4]; rfl) (fun k hk => ?_)
      rw [heap_setCells_other g k hk, hW1, heap_setCells_other g k hk]
      rfl
  have c1 : ∀ W, (Instr.slice 23 (.slice (some ⟨g, 0, none⟩) n cap) (some (.int .i64 i)) none none).run Tryz.prog W = .ok (.slice (some ⟨g, i * 3, none⟩) (n - i) (cap - i)) W := fun W => by
    have := cutR_from g 0 n cap i (by omega) (by omega) W
    rw [if_neg (by omega), Nat.zero_add] at this
    exact this
  have c2 : ∀ W, (Instr.slice 23 (.slice (some ⟨g, 0, none⟩) n cap) none (some (.int .i64 ((n : Int) + 1))) none).run Tryz.prog W = .ok (.slice (some ⟨g, 0, none⟩) (n + 1) cap) W := fun W => by
    have := cutR_to (some ⟨g, 0, none⟩) n cap (n + 1) (by omega) W
    rw [Int.natCast_add] at this
    exact this
  have c3 : ∀ W, (Instr.slice 23 (.slice (some ⟨g, 0, none⟩) (n + 1) cap) (some (.int .i64 ((i : Int) + 1))) none none).run Tryz.prog W = .ok (.slice (some ⟨g, (i + 1) * 3, none⟩) (n - i) (cap - (i + 1))) W := fun W => by
    have := cutR_from g 0 (n + 1) cap (i + 1) (by omega) (by omega) W
    rw [if_neg (by omega), Nat.zero_add, Int.natCast_add, show n + 1 - (i + 1) = n - i by omega] at this
    exact this
  have c4 : ∀ W, (Instr.slice 23 (.slice (some ⟨g, 0, none⟩) (n + 1) cap) (some (.int .i64 i)) none none).run Tryz.prog W = .ok (.slice (some ⟨g, i * 3, none⟩) (n + 1 - i) (cap - i)) W := fun W => by
    have := cutR_from g 0 (n + 1) cap i (by omega) (by omega) W
    rw [if_neg (by omega), Nat.zero_add] at this
    exact this
  have hz2 : ¬ ((i : Int) = (n : Int)) := by omega
  have hz3 : ¬ ((cap : Int) < (n : Int) + 1) := by omega
  have hnn : n ≤ 9223372036854775806 := by omega
  have HW1 : Hid (W1 = w.drew.setCells g ((i + 1) * 3) D) := hW1
  have hw1 : IntKind.i64.wrap ((i : Int) + 1) = (i : Int) + 1 := by rw [IntKind.wrap_i64]; omega
  have hb1 : (0 : Int) ≤ (i : Int) + 1 := by omega
  have hb5 : (i : Int) + 1 ≤ (n : Int) + 1 := by omega
  have htn : ((i : Int) + 1).toNat = i + 1 := by omega
  have hb2 : ¬ (cap = i + 1) := by omega
  have hb3 : (i : Int) ≤ (n : Int) + 1 := by omega
  have hb4 : ¬ (cap = i) := by omega
  clear hn hF hFl hF1 hcell hsome hfz hsz hshg hshv hD hDl hE hEl hg1 hv1 hg hs ht hv hm hW1
  go_enter Tryz.func72, Tryz.ntmps72
  go_wp2_with (simp only [hov])
  go_region_law (refine step_copy_runI rfl _ _ 23 23 rfl _ _ (by simp [Act.eval, Act.put]) (by simp [Act.eval, Act.put]) (hcp1 _ _ _) ?_)
  go_wp2_with (at_builtin; refine wpList_copy_runI _ rfl _ _ 23 23 rfl _ _ rfl rfl (hcp2 _ _) ?_)
  go_ret
  exact HFIN.out
end Go.Proofs.YtgncpchgmjacdaaGreatDoor
