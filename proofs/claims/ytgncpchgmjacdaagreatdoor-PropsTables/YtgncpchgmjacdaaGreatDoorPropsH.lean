/- The walk of the library's Insert of one range where there is no room; all of Insert together. -/
import Derived.Test.YtgncpchgmjacdaaGreatDoorPropsG
namespace Go.Proofs.YtgncpchgmjacdaaGreatDoor
open Go.RowKit
set_option linter.unusedVariables false

theorem grow_cells (F E Z : List Value) (n i : Nat) (hi : i ≤ n) (hF : F.length = 3 * n) (hE : E.length = 3) (L0 L1 L2 : List Value) (h0 : L0 = F.take (3 * i) ++ Z) (hZ : 3 * (n + 1 - i) ≤ Z.length)
    (h1 : L1 = L0.take (i * 3) ++ (E ++ L0.drop (i * 3 + E.length))) (h2 : L2 = L1.take ((i + 1) * 3) ++ (F.drop (3 * i) ++ L1.drop ((i + 1) * 3 + (F.drop (3 * i)).length))) :
    L2.take ((n + 1) * 3) = F.take (3 * i) ++ (E ++ F.drop (3 * i)) := by
  have hm : (F.take (3 * i)).length = 3 * i := by rw [List.length_take]; omega
  have e0 : L0.take (i * 3) = F.take (3 * i) := by
    rw [h0, show i * 3 = (F.take (3 * i)).length by rw [hm]; omega, List.take_left']; rfl
  have e1 : L1.take ((i + 1) * 3) = F.take (3 * i) ++ E := by
    rw [h1, e0, ← List.append_assoc, show (i + 1) * 3 = (F.take (3 * i) ++ E).length by rw [List.length_append, hm, hE]; omega, List.take_left']; rfl
  have hd : (F.drop (3 * i)).length = 3 * n - 3 * i := by rw [List.length_drop, hF]
  rw [h2, e1, ← List.append_assoc]
  rw [List.take_append_of_le_length (by simp [hm, hE, hd]; omega), List.take_of_length_le (by simp [hm, hE, hd]; omega), List.append_assoc]

set_option maxHeartbeats 4000000 in
theorem insert_grow (rs : List Rg) (x : Rg) (B g cap : Nat) (cur : Array Value) (vb i : Nat) (w : World) (hB : B ≤ w.heap.size) (hg : w.heap[g]? = some (.cells cur 39 (0, 0))) (hnc : rs.length ≤ cap)
    (ht : cur.toList.take (rs.length * 3) = flatR rs) (hi : i < rs.length) (hroom : cap < rs.length + 1) (hl : rs.length ≤ 100000000)
    (hv : w.heap[vb]? = some (.cells (encR x).toArray 39)) :
    Calls Tryz.prog 72 #[.slice (some ⟨g, 0, none⟩) rs.length cap, .int .i64 i, .slice (some ⟨vb, 0, none⟩) 1 1] w (InsPost B (rs.take i ++ x :: rs.drop i) (.slice (some ⟨g, 0, none⟩) rs.length cap) w) := by
  obtain ⟨n, hn⟩ : ∃ n, n = rs.length := ⟨_, rfl⟩
  rw [← hn] at ht hi hroom hnc hl ⊢
  obtain rfl : cap = n := by omega
  obtain ⟨F, hF⟩ : ∃ F, F = flatR rs := ⟨_, rfl⟩
  rw [← hF] at ht
  have hFl : F.length = 3 * cap := by rw [hF, flatR_len, hn]
  have hF1 : ∀ v ∈ F, v.oneCell' = true := by rw [hF]; exact flatR_cells rs
  have hcell : ∀ j v, F[j]? = some v → w.cell? ⟨g, j, none⟩ = some v := by
    intro j v hj
    rw [cell_of_row w g j _ _ _ hg]
    rw [← ht, List.getElem?_take] at hj
    split at hj
    · simpa using hj
    · cases hj
  obtain ⟨i0, hi0, hz0, hzs, hzb⟩ := info_parts info_R
  have hsz : (Tryz.prog.info? 39).map (·.size) = some 3 := by kernel_rfl
  obtain ⟨k, hk⟩ : ∃ k, k = cap + 1 - i := ⟨_, rfl⟩
  have hik : i + k = cap + 1 := by omega
  have hkk : (cap : Int) + 1 - (i : Int) = (k : Int) := by omega
  have hgw : g < w.heap.size := (Array.getElem?_eq_some_iff.1 hg).1
  have hvw : vb < w.heap.size := (Array.getElem?_eq_some_iff.1 hv).1
  have hold : (Builtin.firstCells i0.size i (.slice (some ⟨g, 0, none⟩) i cap)).run Tryz.prog w.drew = .ok (F.take (3 * i)).toArray w.drew := by
    rw [hzs]
    exact run_firstCells_some w.drew 3 i ⟨g, 0, none⟩ i cap (F.take (3 * i)) (by rw [List.length_take]; omega) (fun j v hj => by
      rw [add_lit, Nat.zero_add]
      rw [List.getElem?_take] at hj
      split at hj
      · exact hcell j v hj
      · cases hj)
  obtain ⟨Z3, hZ3⟩ : ∃ Z3 : Value, Z3 = .agg #[.int .i32 0, .int .i32 0, .string ⟨#[]⟩] := ⟨_, rfl⟩
  rw [← hZ3] at hz0
  obtain ⟨G, hG⟩ : ∃ G, G = grownCap w (cap + 1) cap 39 := ⟨_, rfl⟩
  obtain ⟨ROW, hROW⟩ : ∃ ROW : Array Value, ROW = (F.take (3 * i)).toArray ++ Builtin.zeroCells Z3.cells k ++ Builtin.zeroCells Z3.cells (G - (cap + 1)) := ⟨_, rfl⟩
  have hrz : ∀ ty, (Builtin.append_ #[23, 3] ty #[.slice (some ⟨g, 0, none⟩) i cap, .int .i64 ((cap : Int) + 1 - (i : Int))]).run Tryz.prog w =
      .ok (.slice (some ⟨w.heap.size, 0, none⟩) (cap + 1) G) (w.drew.alloc (.cells ROW 39)) := fun ty => by
    have h := Lib.run_append_grow_zeros w 23 3 ty 39 i0 _ .i64 .i64 Tryz.underlying23 Tryz.underlying3 hi0 hz0 (some ⟨g, 0, none⟩) i cap (F.take (3 * i)) hold k (by omega) (by omega) (by omega) (by omega) (by rw [hzb]; omega) (by rw [hzb, hik]; exact growslice_fits hroom (by omega))
    rw [hik] at h
    rw [hkk, hG, hROW, hG]
    exact h
  have hzc : ∀ m, (Builtin.zeroCells Z3.cells m).size = 3 * m := fun m => by rw [hZ3]; simp [Builtin.zeroCells, Value.cells]; omega
  have hGn : cap + 1 ≤ G := by rw [hG]; exact grownCap_ge w _ _ _
  have hGm : G ≤ maxLen := by rw [hG]; exact grownCap_le_maxLen w (cap + 1) cap 39 (by unfold maxLen; omega)
  have hG63 : G ≤ 9223372036854775807 := by simpa [maxLen] using hGm
  have hRs : ROW.size = G * 3 := by
    rw [hROW, Array.size_append, Array.size_append, hzc, hzc]
    simp
    omega
  have hRl : ROW.toList = F.take (3 * i) ++ ((Builtin.zeroCells Z3.cells k).toList ++ (Builtin.zeroCells Z3.cells (G - (cap + 1))).toList) := by
    rw [hROW]; simp
  have hZl : 3 * (cap + 1 - i) ≤ ((Builtin.zeroCells Z3.cells k).toList ++ (Builtin.zeroCells Z3.cells (G - (cap + 1))).toList).length := by
    rw [List.length_append, Array.length_toList, Array.length_toList, hzc, hzc]; omega
  obtain ⟨N, hN⟩ : ∃ N, N = w.heap.size := ⟨_, rfl⟩
  obtain ⟨W1, hW1⟩ : ∃ W1, W1 = w.drew.alloc (.cells ROW 39) := ⟨_, rfl⟩
  rw [← hW1, ← hN] at hrz
  have hB1 : Below w.heap.size w W1 := by rw [hW1]; exact (Below.refl _ w).drew.alloc (Nat.le_refl _) _
  have hg1 : W1.heap[N]? = some (.cells ROW 39 (0, 0)) := by rw [hW1, hN]; exact heap_alloc_new w.drew _
  have hv1 : W1.heap[vb]? = some (.cells (encR x).toArray 39) := by rw [hB1.block vb hvw]; exact hv
  obtain ⟨D, hD⟩ : ∃ D, D = F.drop (3 * i) := ⟨_, rfl⟩
  have hDl : D.length = (cap - i) * 3 := by rw [hD, List.length_drop, hFl]; omega
  obtain ⟨E, hE⟩ : ∃ E, E = encR x := ⟨_, rfl⟩
  have hEl : E.length = 3 := by rw [hE]; rfl
  have hcpA : ∀ ty dc, (Builtin.copy_ #[23, 23] ty #[.slice (some ⟨N, i * 3, none⟩) (cap + 1 - i) dc, .slice (some ⟨vb, 0, none⟩) 1 1]).run Tryz.prog W1 = .ok (goInt 1) (W1.setCells N (i * 3) E) := fun ty dc =>
    run_copyK W1 _ _ ty 39 3 N (i * 3) (cap + 1 - i) dc ⟨vb, 0, none⟩ 1 1 1 E Tryz.underlying23 hsz (by simp only [Nat.min_def]; split <;> omega) (by rw [hEl])
      (fun j v hj => by rw [add_lit]; exact news_R hv1 j v (by rw [← hE]; exact hj))
      (fun j hj => by rw [cell_of_row W1 N _ _ _ _ hg1, Array.getElem?_eq_getElem (by rw [hRs]; omega)]; rfl)
      (fun j hj => Lib.frozen_of_heap hg1 _) (fun v hv => flatR_one' x v (by rw [← hE]; exact hv))
  obtain ⟨W2, hW2⟩ : ∃ W2, W2 = W1.setCells N (i * 3) E := ⟨_, rfl⟩
  rw [← hW2] at hcpA
  have hg2 : W2.heap[N]? = some (.cells (setL ROW (i * 3) E) 39 (0, 0)) := by rw [hW2]; exact heap_setCells N E _ W1 _ _ _ hg1
  have hgo : ∀ j v, F[j]? = some v → W2.cell? ⟨g, j, none⟩ = some v := by
    intro j v hj
    have h1 : W2.heap[g]? = w.heap[g]? := by rw [hW2, heap_setCells_other N g (by omega)]; exact hB1.block g hgw
    rw [World.cell?_of_block (w := w) (w' := W2) h1]
    exact hcell j v hj
  have hcpB : ∀ ty dc sc, (Builtin.copy_ #[23, 23] ty #[.slice (some ⟨N, (i + 1) * 3, none⟩) (cap - i) dc, .slice (some ⟨g, i * 3, none⟩) (cap - i) sc]).run Tryz.prog W2.drew = .ok (goInt ((cap - i : Nat) : Int)) (W2.drew.setCells N ((i + 1) * 3) D) := fun ty dc sc =>
    run_copyK W2.drew _ _ ty 39 3 N ((i + 1) * 3) (cap - i) dc ⟨g, i * 3, none⟩ (cap - i) sc (cap - i) D Tryz.underlying23 hsz (by simp only [Nat.min_def]; split <;> omega) hDl
      (fun j v hj => by rw [add_lit]; exact hgo (i * 3 + j) v (by rw [hD, List.getElem?_drop] at hj; rw [show i * 3 + j = 3 * i + j by omega]; exact hj))
      (fun j hj => by
        rw [show W2.drew.cell? ⟨N, (i + 1) * 3 + j, none⟩ = W2.cell? ⟨N, (i + 1) * 3 + j, none⟩ from rfl, cell_of_row W2 N _ _ _ _ hg2, Array.getElem?_eq_getElem (by rw [setL_size, hRs]; omega)]; rfl)
      (fun j hj => Lib.frozen_of_heap (w := W2) hg2 _) (fun v hv => hF1 v (by rw [hD] at hv; exact List.mem_of_mem_drop hv))
  have HFIN : Hid (InsPost B (rs.take i ++ x :: rs.drop i) (.slice (some ⟨g, 0, none⟩) cap cap) w (.returned (.slice (some ⟨N, 0, none⟩) (cap + 1) G)) (W2.drew.setCells N ((i + 1) * 3) D)) := by
    have hg3 := heap_setCells N D ((i + 1) * 3) W2.drew _ _ _ hg2
    obtain ⟨s1, s2, s3, s4⟩ := size_setCells N D ((i + 1) * 3) W2.drew
    obtain ⟨r1, r2, r3, r4⟩ := size_setCells N E (i * 3) W1
    rw [← hW2] at r1 r2 r3 r4
    have hlen : (rs.take i ++ x :: rs.drop i).length = cap + 1 := by simp; omega
    have hfl : flatR (rs.take i ++ x :: rs.drop i) = F.take (3 * i) ++ (E ++ F.drop (3 * i)) := by
      rw [flatR_app, flatR_one, (flatR_take rs i (by omega)).1, (flatR_take rs i (by omega)).2, ← hF, hE]
    refine ⟨_, rfl, ⟨?_, .inr ⟨N, G, _, by rw [hlen], by omega, hg3, by rw [hlen]; exact hGn, hGm, by rw [setL_size, setL_size]; exact hRs, ?_⟩⟩, ?_⟩
    · rw [flatR_len]; omega
    · rw [hlen, hfl]
      refine grow_cells F E _ cap i (by omega) hFl hEl ROW.toList (setL ROW (i * 3) E).toList _ hRl hZl ?_ ?_
      · rw [setL_list E ROW _ (by rw [hEl, hRs]; omega)]
      · rw [setL_list D _ _ (by rw [setL_size, hDl, hRs]; omega), ← hD]
    · refine ⟨by rw [s2]; exact r2.trans hB1.os, by rw [s3]; exact r3.trans hB1.tape, by rw [s4]; exact r4.trans hB1.output, ?_, fun k hk _ => ?_⟩
      · rw [s1]
        show w.heap.size ≤ W2.heap.size
        rw [r1]; exact hB1.size
      · rw [heap_setCells_other N k (by omega)]
        show W2.heap[k]? = _
        rw [hW2, heap_setCells_other N k (by omega)]
        exact hB1.block k hk
  have c1 : ∀ W, (Instr.slice 23 (.slice (some ⟨g, 0, none⟩) cap cap) (some (.int .i64 i)) none none).run Tryz.prog W = .ok (.slice (some ⟨g, i * 3, none⟩) (cap - i) (cap - i)) W := fun W => by
    have := cutR_from g 0 cap cap i (by omega) (by omega) W
    rw [if_neg (by omega), Nat.zero_add] at this
    exact this
  have c2 : ∀ W, (Instr.slice 23 (.slice (some ⟨g, 0, none⟩) cap cap) none (some (.int .i64 i)) none).run Tryz.prog W = .ok (.slice (some ⟨g, 0, none⟩) i cap) W := cutR_to (some ⟨g, 0, none⟩) cap cap i (by omega)
  have c3 : ∀ W, (Instr.slice 23 (.slice (some ⟨N, 0, none⟩) (cap + 1) G) (some (.int .i64 i)) none none).run Tryz.prog W = .ok (.slice (some ⟨N, i * 3, none⟩) (cap + 1 - i) (G - i)) W := fun W => by
    have := cutR_from N 0 (cap + 1) G i (by omega) (by omega) W
    rw [if_neg (by omega), Nat.zero_add] at this
    exact this
  have hz2 : ¬ ((i : Int) = (cap : Int)) := by omega
  have hz3 : (cap : Int) < (cap : Int) + 1 := by omega
  have hw1 : IntKind.i64.wrap ((i : Int) + 1) = (i : Int) + 1 := by rw [IntKind.wrap_i64]; omega
  have hb1 : (0 : Int) ≤ (i : Int) + 1 := by omega
  have hb5 : (i : Int) + 1 ≤ (cap : Int) + 1 := by omega
  have htn : ((i : Int) + 1).toNat = i + 1 := by omega
  have hb2 : ¬ (G = i + 1) := by omega
  have hb3 : (i : Int) ≤ (cap : Int) := by omega
  have hb4 : ¬ (cap = i) := by omega
  clear hn hF hFl hF1 hcell hsz hD hDl hE hEl hg1 hv1 hg hv ht hW1 hW2 hg2 hgo hi0 hz0 hzs hzb hold hROW hRs hRl hZl hzc hG hGm hB1 hkk hik hk hZ3 hgw hvw hN hB hGn hroom
  go_enter Tryz.func72, Tryz.ntmps72
  go_wp2_with (first
    | (at_builtin; refine Lib.wpList_append_run _ rfl _ _ _ _ rfl _ _ rfl rfl _ _ (hrz _) ?_)
    | (at_builtin; refine wpList_copy_runI _ rfl _ _ 23 23 rfl _ _ rfl rfl (hcpA _ _) ?_))
  go_region_law (refine step_copy_runI rfl _ _ 23 23 rfl _ _ (by simp [Act.eval, Act.put]) (by simp [Act.eval, Act.put]) (hcpB _ _ _) ?_)
  go_wp2
  go_ret
  exact HFIN.out

/-- Insert of one range at any place of the caller's own row. -/
theorem insert_any (rs : List Rg) (x : Rg) (B : Nat) (v : Value) (vb i : Nat) (w : World) (hown : w.ownsRow B 39 3 v rs.length (flatR rs)) (hB : B ≤ w.heap.size) (hi : i ≤ rs.length)
    (hv : w.heap[vb]? = some (.cells (encR x).toArray 39)) (hne : v.ownBlock ≠ some vb) (hl : rs.length ≤ 100000000) :
    Calls Tryz.prog 72 #[v, .int .i64 i, .slice (some ⟨vb, 0, none⟩) 1 1] w (InsPost B (rs.take i ++ x :: rs.drop i) v w) := by
  rcases Nat.eq_or_lt_of_le hi with rfl | hlt
  · have := insert_end rs x B v vb w hown hB hv hl
    rw [List.take_length, List.drop_length]
    exact this
  · rcases hown.2 with ⟨rfl, h0⟩ | ⟨g, cap, cur, rfl, hbg, hg, hnc, hm, hs, ht⟩
    · omega
    · have hvg : vb ≠ g := fun e => hne (by rw [e]; rfl)
      by_cases hroom : rs.length + 1 ≤ cap
      · exact insert_shift rs x B g cap cur vb i w hbg hg hm hs ht hlt hroom hvg hv
      · exact insert_grow rs x B g cap cur vb i w hB hg hnc ht hlt (by omega) hl hv
end Go.Proofs.YtgncpchgmjacdaaGreatDoor
