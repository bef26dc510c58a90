/- Plain laws of rows of elements (four cells each); the walk of the library's Insert of one element into a row of the caller's own. Written by mkins.py. -/
import Derived.Test.YtlelbepfkkaojaaDoorIxI
import Derived.Test.YtlelbepfkkaojaaDoorRgM
namespace Go.Proofs.YtlelbepfkkaojaaDoor
open Go.RowKit
set_option linter.unusedVariables false

/-- An element in memory: its ID, its character, is it alive. -/
abbrev El := Int × Int × Int × Bool
/-- Its cells. -/
def encEl (x : El) : List Value := [.int .i64 x.1, .int .i64 x.2.1, .int .i32 x.2.2.1, .bool x.2.2.2]
def flatEl (rs : List El) : List Value := rs.flatMap encEl
theorem flatEl_app (a b : List El) : flatEl (a ++ b) = flatEl a ++ flatEl b := by simp [flatEl]
theorem flatEl_one (x : El) (b : List El) : flatEl (x :: b) = encEl x ++ flatEl b := by simp [flatEl]
theorem flatEl_len : (rs : List El) → (flatEl rs).length = 4 * rs.length
  | [] => rfl
  | b :: r => by
    have h3 : (encEl b).length = 4 := rfl
    rw [flatEl_one, List.length_append, flatEl_len r, h3, List.length_cons]
    omega
theorem flatEl_take (rs : List El) (i : Nat) (h : i ≤ rs.length) : flatEl (rs.take i) = (flatEl rs).take (4 * i) ∧ flatEl (rs.drop i) = (flatEl rs).drop (4 * i) := by
  have e : flatEl rs = flatEl (rs.take i) ++ flatEl (rs.drop i) := by rw [← flatEl_app, List.take_append_drop]
  have hl : (flatEl (rs.take i)).length = 4 * i := by rw [flatEl_len]; simp; omega
  constructor
  · rw [e, ← hl, List.take_left']; rfl
  · rw [e, ← hl, List.drop_left']; rfl
theorem flatEl_one' (x : El) : ∀ v ∈ encEl x, v.oneCell' = true := by
  intro v hv
  simp [encEl] at hv
  rcases hv with rfl | rfl | rfl | rfl <;> rfl
theorem flatEl_cells (rs : List El) : ∀ v ∈ flatEl rs, v.oneCell' = true := by
  intro v hv
  simp only [flatEl, List.mem_flatMap] at hv
  obtain ⟨x, _, hx⟩ := hv
  exact flatEl_one' x v hx
/-- A slice of ranges that is cut at its beginning. -/
theorem cutEl_from (b off len cap lo : Nat) (h1 : lo ≤ len) (h2 : len ≤ cap) (W : World) : (Instr.slice 47 (.slice (some ⟨b, off, none⟩) len cap) (some (.int .i64 lo)) none none).run Tryd.prog W = .ok (.slice (some ⟨b, if cap = lo then off else off + lo * 4, none⟩) (len - lo) (cap - lo)) W := by
  have g0 : (0 : Int) ≤ (lo : Int) := by omega
  have g1 : (lo : Int) ≤ (len : Int) := by omega
  by_cases h : cap = lo
  · subst h
    go_simp
  · go_simp
theorem cutEl_to (a : Option Addr) (len cap n : Nat) (h : n ≤ cap) (W : World) : (Instr.slice 47 (.slice a len cap) none (some (.int .i64 n)) none).run Tryd.prog W = .ok (.slice a n cap) W := by
  have h0 : (0 : Int) ≤ (n : Int) := by omega
  have h1 : (n : Int) ≤ (cap : Int) := by omega
  go_simp

theorem info_El : (Tryd.prog.info? 56).map (fun i => (i.zero, i.size, i.bytes)) = some (some (.agg #[.int .i64 0, .int .i64 0, .int .i32 0, .bool false]), 4, 24) := by kernel_rfl
/-- What Insert leaves: the caller's row with one range more. -/
def InsPostE (B : Nat) (rs : List El) (v : Value) (w : World) (e : Ending) (w' : World) : Prop :=
  ∃ v', e = .returned v' ∧ w'.ownsRow B 56 4 v' rs.length (flatEl rs) ∧ w.grownBy w' v.ownBlock ∧ AtX w v.ownBlock v'
theorem news_El {w : World} {vb : Nat} {x : El} {t : TypeId} (h : w.heap[vb]? = some (.cells (encEl x).toArray t)) : ∀ j u, (encEl x)[j]? = some u → w.cell? ⟨vb, 0 + j, none⟩ = some u := by
  intro j u hu
  rw [Nat.zero_add, cell_of_row w vb j _ _ _ h]
  simpa using hu

set_option maxHeartbeats 4000000 in
theorem insEl_end (rs : List El) (x : El) (B : Nat) (v : Value) (vb : Nat) (w : World) (hown : w.ownsRow B 56 4 v rs.length (flatEl rs)) (hB : B ≤ w.heap.size)
    (hv : w.heap[vb]? = some (.cells (encEl x).toArray 56)) (hl : rs.length ≤ 100000000) :
    Calls Tryd.prog 37 #[v, .int .i64 rs.length, .slice (some ⟨vb, 0, none⟩) 1 1] w (InsPostE B (rs ++ [x]) v w) := by
  obtain ⟨i0, hi, hz0, hz1, hz2⟩ := info_parts info_El
  have HI : Hid (Tryd.prog.info? 56 = some i0 ∧ i0.zero = some (.agg #[.int .i64 0, .int .i64 0, .int .i32 0, .bool false]) ∧ i0.size = 4 ∧ i0.bytes = 24) := ⟨hi, hz0, hz1, hz2⟩
  clear hi hz0 hz1 hz2
  have HO : Hid (w.ownsRow B 56 4 v rs.length (flatEl rs)) := hown
  have HN : Hid (∀ j u, (encEl x)[j]? = some u → w.cell? ((⟨vb, 0, none⟩ : Addr).add j) = some u) := by
    intro j u hu
    rw [add_lit]; exact news_El hv j u hu
  have HFIN : Hid (∀ v' w', w'.ownsRow B 56 4 v' (rs.length + 1) (flatEl rs ++ encEl x) → w.grownBy w' v.ownBlock → AtX w v.ownBlock v' → InsPostE B (rs ++ [x]) v w (.returned v') w') := by
    intro v' w' h1 h2 h3
    refine ⟨v', rfl, ?_, h2, h3⟩
    rw [flatEl_app, List.length_append, List.length_singleton, flatEl_one]
    have : flatEl ([] : List El) = [] := rfl
    rw [this, List.append_nil]
    exact h1
  obtain ⟨n, hn⟩ : ∃ n, n = rs.length := ⟨_, rfl⟩
  have HLN : Hid (n = rs.length) := hn
  rw [← hn] at HO HFIN hl hown ⊢
  rcases hown.2 with ⟨rfl, h0⟩ | ⟨g, cap, cur, rfl, hbg, hg, hnc, hm, hs, ht⟩
  · have hn0 : n = 0 := by omega
    clear hn hv hown
    subst hn0
    go_enter Tryd.func37, Tryd.ntmps37
    go_wp2_with (at_builtin; refine wpList_append_lies _ rfl _ _ 47 rfl B 56 i0 _ 4 24 Tryd.underlying47 HI.out.1 HI.out.2.1 HI.out.2.2.1 HI.out.2.2.2 rfl (by decide) _ 0 (flatEl rs) rfl HO.out ⟨vb, 0, none⟩ 1 1 (encEl x) rfl rfl HN.out (flatEl_one' x) (by decide) (by unfold maxLen; omega) (by omega) hB _ rfl (fun g' cap' w' h1 h2 h3 _ => ?_); have HF := HFIN.out _ w' h1 h2 (fun k hk => by cases hk; rcases h3 with h3 | h3; exact .inl h3; exact .inr (Nat.le_of_eq h3.symm)); have HFF : Hid _ := HF; clear HF h1 h2 h3)
    go_ret
    exact HFF.out
  · have hm' : cap ≤ 9223372036854775807 := by simpa [maxLen] using hm
    have hcut := cutEl_from g 0 n cap n (Nat.le_refl _) hnc
    clear hn hv hown hg hs ht hm hbg
    go_enter Tryd.func37, Tryd.ntmps37
    go_wp2_with (at_builtin; refine wpList_append_lies _ rfl _ _ 47 rfl B 56 i0 _ 4 24 Tryd.underlying47 HI.out.1 HI.out.2.1 HI.out.2.2.1 HI.out.2.2.2 rfl (by decide) _ n (flatEl rs) rfl HO.out ⟨vb, 0, none⟩ 1 1 (encEl x) rfl rfl HN.out (flatEl_one' x) (by decide) (by unfold maxLen; omega) (by omega) hB _ rfl (fun g' cap' w' h1 h2 h3 _ => ?_); have HF := HFIN.out _ w' h1 h2 (fun k hk => by cases hk; rcases h3 with h3 | h3; exact .inl h3; exact .inr (Nat.le_of_eq h3.symm)); have HFF : Hid _ := HF; clear HF h1 h2 h3)
    all_goals
      go_ret
      exact HFF.out

/-- What a row's cells are behind one record put in at i. -/
theorem shift_cells4 (L F E : List Value) (n i : Nat) (hi : i ≤ n) (hL : 4 * n + 4 ≤ L.length) (hF : L.take (n * 4) = F) (hE : E.length = 4)
    (L1 L2 : List Value) (h1 : L1 = L.take ((i + 1) * 4) ++ (F.drop (4 * i) ++ L.drop ((i + 1) * 4 + (F.drop (4 * i)).length))) (h2 : L2 = L1.take (i * 4) ++ (E ++ L1.drop (i * 4 + E.length))) :
    L2.take ((n + 1) * 4) = F.take (4 * i) ++ (E ++ F.drop (4 * i)) := by
  have hFl : F.length = n * 4 := by rw [← hF, List.length_take]; omega
  have ht : (L.take ((i + 1) * 4)).length = (i + 1) * 4 := by rw [List.length_take]; omega
  have e1 : L1.take (i * 4) = F.take (4 * i) := by
    rw [h1, List.take_append_of_le_length (by rw [ht]; omega), List.take_take, ← hF, List.take_take]
    congr 1
    omega
  have e2 : L1.drop (i * 4 + E.length) = F.drop (4 * i) ++ L.drop ((i + 1) * 4 + (F.drop (4 * i)).length) := by
    rw [h1, hE, show i * 4 + 4 = (L.take ((i + 1) * 4)).length by rw [ht]; omega, List.drop_left']
    rfl
  rw [h2, e1, e2, ← List.append_assoc, ← List.append_assoc]
  rw [List.take_append_of_le_length (by simp [hFl, hE]; omega), List.take_of_length_le (by simp [hFl, hE]; omega), List.append_assoc]
set_option maxHeartbeats 4000000 in
theorem insEl_shift (rs : List El) (x : El) (B g cap : Nat) (cur : Array Value) (vb i : Nat) (w : World) (hbg : B ≤ g) (hg : w.heap[g]? = some (.cells cur 56 (0, 0))) (hm : cap ≤ maxLen) (hs : cur.size = cap * 4)
    (ht : cur.toList.take (rs.length * 4) = flatEl rs) (hi : i < rs.length) (hroom : rs.length + 1 ≤ cap) (hvg : vb ≠ g)
    (hv : w.heap[vb]? = some (.cells (encEl x).toArray 56)) :
    Calls Tryd.prog 37 #[.slice (some ⟨g, 0, none⟩) rs.length cap, .int .i64 i, .slice (some ⟨vb, 0, none⟩) 1 1] w (InsPostE B (rs.take i ++ x :: rs.drop i) (.slice (some ⟨g, 0, none⟩) rs.length cap) w) := by
  obtain ⟨n, hn⟩ : ∃ n, n = rs.length := ⟨_, rfl⟩
  rw [← hn] at ht hi hroom ⊢
  obtain ⟨F, hF⟩ : ∃ F, F = flatEl rs := ⟨_, rfl⟩
  rw [← hF] at ht
  have hFl : F.length = 4 * n := by rw [hF, flatEl_len, hn]
  have hF1 : ∀ v ∈ F, v.oneCell' = true := by rw [hF]; exact flatEl_cells rs
  have hm' : cap ≤ 9223372036854775807 := by simpa [maxLen] using hm
  have hcell : ∀ j v, F[j]? = some v → w.cell? ⟨g, j, none⟩ = some v := by
    intro j v hj
    rw [cell_of_row w g j _ _ _ hg]
    rw [← ht, List.getElem?_take] at hj
    split at hj
    · simpa using hj
    · cases hj
  have hsome : ∀ j, j < cap * 4 → (w.cell? ⟨g, j, none⟩).isSome = true := by
    intro j hj
    rw [cell_of_row w g j _ _ _ hg, Array.getElem?_eq_getElem (by omega)]; rfl
  have hfz : ∀ j, w.frozen? ⟨g, j, none⟩ = false := fun j => Lib.frozen_of_heap hg j
  have hsz : (Tryd.prog.info? 56).map (·.size) = some 4 := by kernel_rfl
  have hshg : w.shape? g = some (56, cap * 4) := by simp [World.shape?, hg, hs]
  have hshv : w.shape? vb = some (56, 4) := by simp [World.shape?, hv, encEl]
  have hov : ∀ lb cb, (callFunc 47 #[.slice (some ⟨vb, 0, none⟩) 1 1, .slice (some ⟨g, (i + 1) * 4, none⟩) lb cb]).run Tryd.prog w = .ok (.value (.bool false)) w := fun lb cb => by
    rw [run_callFunc_extern Tryd.func47 (by kernel_rfl) (by kernel_rfl) (by kernel_rfl) (e := Extern.SlicesOverlaps.overlaps #[47, 47] #[4]) (by kernel_rfl),
      Lib.run_overlaps_apart w 47 4 56 Tryd.underlying47 4 Tryd.sizeOf56 ⟨vb, 0, none⟩ ⟨g, (i + 1) * 4, none⟩ 1 1 lb cb hvg 56 56 4 (cap * 4) hshv hshg (by omega) (Lib.frozen_of_heap hv 0) (Lib.frozen_of_heap hv 4)]
    rfl
  obtain ⟨D, hD⟩ : ∃ D, D = F.drop (4 * i) := ⟨_, rfl⟩
  have hDl : D.length = (n - i) * 4 := by rw [hD, List.length_drop, hFl]; omega
  obtain ⟨E, hE⟩ : ∃ E, E = encEl x := ⟨_, rfl⟩
  have hEl : E.length = 4 := by rw [hE]; rfl
  have hcp1 : ∀ ty dc sc, (Builtin.copy_ #[47, 47] ty #[.slice (some ⟨g, (i + 1) * 4, none⟩) (n - i) dc, .slice (some ⟨g, i * 4, none⟩) (n + 1 - i) sc]).run Tryd.prog w.drew = .ok (goInt ((n - i : Nat) : Int)) (w.drew.setCells g ((i + 1) * 4) D) := fun ty dc sc =>
    run_copyK w.drew _ _ ty 56 4 g ((i + 1) * 4) (n - i) dc ⟨g, i * 4, none⟩ (n + 1 - i) sc (n - i) D Tryd.underlying47 hsz (by simp only [Nat.min_def]; split <;> omega) hDl
      (fun j v hj => by rw [add_lit]; exact hcell (i * 4 + j) v (by rw [hD, List.getElem?_drop] at hj; rw [show i * 4 + j = 4 * i + j by omega]; exact hj))
      (fun j hj => hsome _ (by omega)) (fun j hj => hfz _) (fun v hv => hF1 v (by rw [hD] at hv; exact List.mem_of_mem_drop hv))
  obtain ⟨W1, hW1⟩ : ∃ W1, W1 = w.drew.setCells g ((i + 1) * 4) D := ⟨_, rfl⟩
  rw [← hW1] at hcp1
  have hg1 : W1.heap[g]? = some (.cells (setL cur ((i + 1) * 4) D) 56 (0, 0)) := by rw [hW1]; exact heap_setCells g D _ w.drew cur _ _ hg
  have hv1 : W1.heap[vb]? = some (.cells (encEl x).toArray 56) := by rw [hW1, heap_setCells_other g vb hvg]; exact hv
  have hcp2 : ∀ ty dc, (Builtin.copy_ #[47, 47] ty #[.slice (some ⟨g, i * 4, none⟩) (n + 1 - i) dc, .slice (some ⟨vb, 0, none⟩) 1 1]).run Tryd.prog W1 = .ok (goInt 1) (W1.setCells g (i * 4) E) := fun ty dc =>
    run_copyK W1 _ _ ty 56 4 g (i * 4) (n + 1 - i) dc ⟨vb, 0, none⟩ 1 1 1 E Tryd.underlying47 hsz (by simp only [Nat.min_def]; split <;> omega) (by rw [hEl])
      (fun j v hj => by rw [add_lit]; exact news_El hv1 j v (by rw [← hE]; exact hj))
      (fun j hj => by rw [cell_of_row W1 g _ _ _ _ hg1, Array.getElem?_eq_getElem (by rw [setL_size]; omega)]; rfl)
      (fun j hj => Lib.frozen_of_heap hg1 _) (fun v hv => flatEl_one' x v (by rw [← hE]; exact hv))
  have HFIN : Hid (InsPostE B (rs.take i ++ x :: rs.drop i) (.slice (some ⟨g, 0, none⟩) n cap) w (.returned (.slice (some ⟨g, 0, none⟩) (n + 1) cap)) (W1.setCells g (i * 4) E)) := by
    have hg2 := heap_setCells g E (i * 4) W1 _ _ _ hg1
    obtain ⟨s1, s2, s3, s4⟩ := size_setCells g E (i * 4) W1
    obtain ⟨r1, r2, r3, r4⟩ := size_setCells g D ((i + 1) * 4) w.drew
    rw [← hW1] at r1 r2 r3 r4
    have hlen : (rs.take i ++ x :: rs.drop i).length = n + 1 := by simp; omega
    have hfl : flatEl (rs.take i ++ x :: rs.drop i) = F.take (4 * i) ++ (E ++ F.drop (4 * i)) := by
      rw [flatEl_app, flatEl_one, (flatEl_take rs i (by omega)).1, (flatEl_take rs i (by omega)).2, ← hF, hE]
    refine ⟨_, rfl, ⟨?_, .inr ⟨g, cap, _, by rw [hlen], hbg, hg2, by rw [hlen]; exact hroom, hm, by rw [setL_size, setL_size]; exact hs, ?_⟩⟩, ?_, fun k hk => .inl hk⟩
    · rw [flatEl_len]; omega
    · rw [hlen, hfl]
      refine shift_cells4 cur.toList F E n i (by omega) (by simp [hs]; omega) ht hEl (setL cur ((i + 1) * 4) D).toList _ ?_ ?_
      · rw [setL_list D cur _ (by rw [hDl, hs]; omega), ← hD]
      · rw [setL_list E _ _ (by rw [setL_size, hEl, hs]; omega)]
    · refine grown_of_shift (by rw [s1, r1]; rfl) (by rw [s2, r2]; rfl) (by rw [s3, r3]; rfl) (by rw [s4, r4]; rfl) (fun k hk => ?_)
      rw [heap_setCells_other g k hk, hW1, heap_setCells_other g k hk]
      rfl
  have c1 : ∀ W, (Instr.slice 47 (.slice (some ⟨g, 0, none⟩) n cap) (some (.int .i64 i)) none none).run Tryd.prog W = .ok (.slice (some ⟨g, i * 4, none⟩) (n - i) (cap - i)) W := fun W => by
    have := cutEl_from g 0 n cap i (by omega) (by omega) W
    rw [if_neg (by omega), Nat.zero_add] at this
    exact this
  have c2 : ∀ W, (Instr.slice 47 (.slice (some ⟨g, 0, none⟩) n cap) none (some (.int .i64 ((n : Int) + 1))) none).run Tryd.prog W = .ok (.slice (some ⟨g, 0, none⟩) (n + 1) cap) W := fun W => by
    have := cutEl_to (some ⟨g, 0, none⟩) n cap (n + 1) (by omega) W
    rw [Int.natCast_add] at this
    exact this
  have c3 : ∀ W, (Instr.slice 47 (.slice (some ⟨g, 0, none⟩) (n + 1) cap) (some (.int .i64 ((i : Int) + 1))) none none).run Tryd.prog W = .ok (.slice (some ⟨g, (i + 1) * 4, none⟩) (n - i) (cap - (i + 1))) W := fun W => by
    have := cutEl_from g 0 (n + 1) cap (i + 1) (by omega) (by omega) W
    rw [if_neg (by omega), Nat.zero_add, Int.natCast_add, show n + 1 - (i + 1) = n - i by omega] at this
    exact this
  have c4 : ∀ W, (Instr.slice 47 (.slice (some ⟨g, 0, none⟩) (n + 1) cap) (some (.int .i64 i)) none none).run Tryd.prog W = .ok (.slice (some ⟨g, i * 4, none⟩) (n + 1 - i) (cap - i)) W := fun W => by
    have := cutEl_from g 0 (n + 1) cap i (by omega) (by omega) W
    rw [if_neg (by omega), Nat.zero_add] at this
    exact this
  have hz2 : ¬ ((i : Int) = (n : Int)) := by omega
  have hz3 : ¬ ((cap : Int) < (n : Int) + 1) := by omega
  have hnn : n ≤ 9223372036854775806 := by omega
  have HW1 : Hid (W1 = w.drew.setCells g ((i + 1) * 4) D) := hW1
  have hw1 : IntKind.i64.wrap ((i : Int) + 1) = (i : Int) + 1 := by rw [IntKind.wrap_i64]; omega
  have hb1 : (0 : Int) ≤ (i : Int) + 1 := by omega
  have hb5 : (i : Int) + 1 ≤ (n : Int) + 1 := by omega
  have htn : ((i : Int) + 1).toNat = i + 1 := by omega
  have hb2 : ¬ (cap = i + 1) := by omega
  have hb3 : (i : Int) ≤ (n : Int) + 1 := by omega
  have hb4 : ¬ (cap = i) := by omega
  clear hn hF hFl hF1 hcell hsome hfz hsz hshg hshv hD hDl hE hEl hg1 hv1 hg hs ht hv hm hW1
  go_enter Tryd.func37, Tryd.ntmps37
  go_wp2_with (simp only [hov])
  go_region_law (refine step_copy_runI rfl _ _ 47 47 rfl _ _ (by simp [Act.eval, Act.put]) (by simp [Act.eval, Act.put]) (hcp1 _ _ _) ?_)
  go_wp2_with (at_builtin; refine wpList_copy_runI _ rfl _ _ 47 47 rfl _ _ rfl rfl (hcp2 _ _) ?_)
  go_ret
  exact HFIN.out

theorem grow_cells4 (F E Z : List Value) (n i : Nat) (hi : i ≤ n) (hF : F.length = 4 * n) (hE : E.length = 4) (L0 L1 L2 : List Value) (h0 : L0 = F.take (4 * i) ++ Z) (hZ : 4 * (n + 1 - i) ≤ Z.length)
    (h1 : L1 = L0.take (i * 4) ++ (E ++ L0.drop (i * 4 + E.length))) (h2 : L2 = L1.take ((i + 1) * 4) ++ (F.drop (4 * i) ++ L1.drop ((i + 1) * 4 + (F.drop (4 * i)).length))) :
    L2.take ((n + 1) * 4) = F.take (4 * i) ++ (E ++ F.drop (4 * i)) := by
  have hm : (F.take (4 * i)).length = 4 * i := by rw [List.length_take]; omega
  have e0 : L0.take (i * 4) = F.take (4 * i) := by
    rw [h0, show i * 4 = (F.take (4 * i)).length by rw [hm]; omega, List.take_left']; rfl
  have e1 : L1.take ((i + 1) * 4) = F.take (4 * i) ++ E := by
    rw [h1, e0, ← List.append_assoc, show (i + 1) * 4 = (F.take (4 * i) ++ E).length by rw [List.length_append, hm, hE]; omega, List.take_left']; rfl
  have hd : (F.drop (4 * i)).length = 4 * n - 4 * i := by rw [List.length_drop, hF]
  rw [h2, e1, ← List.append_assoc]
  rw [List.take_append_of_le_length (by simp [hm, hE, hd]; omega), List.take_of_length_le (by simp [hm, hE, hd]; omega), List.append_assoc]

set_option maxHeartbeats 4000000 in
theorem insEl_grow (rs : List El) (x : El) (B g cap : Nat) (cur : Array Value) (vb i : Nat) (w : World) (hB : B ≤ w.heap.size) (hg : w.heap[g]? = some (.cells cur 56 (0, 0))) (hnc : rs.length ≤ cap)
    (ht : cur.toList.take (rs.length * 4) = flatEl rs) (hi : i < rs.length) (hroom : cap < rs.length + 1) (hl : rs.length ≤ 100000000)
    (hv : w.heap[vb]? = some (.cells (encEl x).toArray 56)) :
    Calls Tryd.prog 37 #[.slice (some ⟨g, 0, none⟩) rs.length cap, .int .i64 i, .slice (some ⟨vb, 0, none⟩) 1 1] w (InsPostE B (rs.take i ++ x :: rs.drop i) (.slice (some ⟨g, 0, none⟩) rs.length cap) w) := by
  obtain ⟨n, hn⟩ : ∃ n, n = rs.length := ⟨_, rfl⟩
  rw [← hn] at ht hi hroom hnc hl ⊢
  obtain rfl : cap = n := by omega
  obtain ⟨F, hF⟩ : ∃ F, F = flatEl rs := ⟨_, rfl⟩
  rw [← hF] at ht
  have hFl : F.length = 4 * cap := by rw [hF, flatEl_len, hn]
  have hF1 : ∀ v ∈ F, v.oneCell' = true := by rw [hF]; exact flatEl_cells rs
  have hcell : ∀ j v, F[j]? = some v → w.cell? ⟨g, j, none⟩ = some v := by
    intro j v hj
    rw [cell_of_row w g j _ _ _ hg]
    rw [← ht, List.getElem?_take] at hj
    split at hj
    · simpa using hj
    · cases hj
  obtain ⟨i0, hi0, hz0, hzs, hzb⟩ := info_parts info_El
  have hsz : (Tryd.prog.info? 56).map (·.size) = some 4 := by kernel_rfl
  obtain ⟨k, hk⟩ : ∃ k, k = cap + 1 - i := ⟨_, rfl⟩
  have hik : i + k = cap + 1 := by omega
  have hkk : (cap : Int) + 1 - (i : Int) = (k : Int) := by omega
  have hgw : g < w.heap.size := (Array.getElem?_eq_some_iff.1 hg).1
  have hvw : vb < w.heap.size := (Array.getElem?_eq_some_iff.1 hv).1
  have hold : (Builtin.firstCells i0.size i (.slice (some ⟨g, 0, none⟩) i cap)).run Tryd.prog w.drew = .ok (F.take (4 * i)).toArray w.drew := by
    rw [hzs]
    exact run_firstCells_some w.drew 4 i ⟨g, 0, none⟩ i cap (F.take (4 * i)) (by rw [List.length_take]; omega) (fun j v hj => by
      rw [add_lit, Nat.zero_add]
      rw [List.getElem?_take] at hj
      split at hj
      · exact hcell j v hj
      · cases hj)
  obtain ⟨Z3, hZ3⟩ : ∃ Z3 : Value, Z3 = .agg #[.int .i64 0, .int .i64 0, .int .i32 0, .bool false] := ⟨_, rfl⟩
  rw [← hZ3] at hz0
  obtain ⟨G, hG⟩ : ∃ G, G = grownCap w (cap + 1) cap 56 := ⟨_, rfl⟩
  obtain ⟨ROW, hROW⟩ : ∃ ROW : Array Value, ROW = (F.take (4 * i)).toArray ++ Builtin.zeroCells Z3.cells k ++ Builtin.zeroCells Z3.cells (G - (cap + 1)) := ⟨_, rfl⟩
  have hrz : ∀ ty, (Builtin.append_ #[47, 3] ty #[.slice (some ⟨g, 0, none⟩) i cap, .int .i64 ((cap : Int) + 1 - (i : Int))]).run Tryd.prog w =
      .ok (.slice (some ⟨w.heap.size, 0, none⟩) (cap + 1) G) (w.drew.alloc (.cells ROW 56)) := fun ty => by
    have h := Lib.run_append_grow_zeros w 47 3 ty 56 i0 _ .i64 .i64 Tryd.underlying47 Tryd.underlying3 hi0 hz0 (some ⟨g, 0, none⟩) i cap (F.take (4 * i)) hold k (by omega) (by omega) (by omega) (by omega) (by rw [hzb]; omega) (by rw [hzb, hik]; exact growslice_fits hroom (by omega))
    rw [hik] at h
    rw [hkk, hG, hROW, hG]
    exact h
  have hzc : ∀ m, (Builtin.zeroCells Z3.cells m).size = 4 * m := fun m => by rw [hZ3]; simp [Builtin.zeroCells, Value.cells]; omega
  have hGn : cap + 1 ≤ G := by rw [hG]; exact grownCap_ge w _ _ _
  have hGm : G ≤ maxLen := by rw [hG]; exact grownCap_le_maxLen w (cap + 1) cap 56 (by unfold maxLen; omega)
  have hG63 : G ≤ 9223372036854775807 := by simpa [maxLen] using hGm
  have hRs : ROW.size = G * 4 := by
    rw [hROW, Array.size_append, Array.size_append, hzc, hzc]
    simp
    omega
  have hRl : ROW.toList = F.take (4 * i) ++ ((Builtin.zeroCells Z3.cells k).toList ++ (Builtin.zeroCells Z3.cells (G - (cap + 1))).toList) := by
    rw [hROW]; simp
  have hZl : 4 * (cap + 1 - i) ≤ ((Builtin.zeroCells Z3.cells k).toList ++ (Builtin.zeroCells Z3.cells (G - (cap + 1))).toList).length := by
    rw [List.length_append, Array.length_toList, Array.length_toList, hzc, hzc]; omega
  obtain ⟨N, hN⟩ : ∃ N, N = w.heap.size := ⟨_, rfl⟩
  obtain ⟨W1, hW1⟩ : ∃ W1, W1 = w.drew.alloc (.cells ROW 56) := ⟨_, rfl⟩
  rw [← hW1, ← hN] at hrz
  have hB1 : Below w.heap.size w W1 := by rw [hW1]; exact (Below.refl _ w).drew.alloc (Nat.le_refl _) _
  have hg1 : W1.heap[N]? = some (.cells ROW 56 (0, 0)) := by rw [hW1, hN]; exact heap_alloc_new w.drew _
  have hv1 : W1.heap[vb]? = some (.cells (encEl x).toArray 56) := by rw [hB1.block vb hvw]; exact hv
  obtain ⟨D, hD⟩ : ∃ D, D = F.drop (4 * i) := ⟨_, rfl⟩
  have hDl : D.length = (cap - i) * 4 := by rw [hD, List.length_drop, hFl]; omega
  obtain ⟨E, hE⟩ : ∃ E, E = encEl x := ⟨_, rfl⟩
  have hEl : E.length = 4 := by rw [hE]; rfl
  have hcpA : ∀ ty dc, (Builtin.copy_ #[47, 47] ty #[.slice (some ⟨N, i * 4, none⟩) (cap + 1 - i) dc, .slice (some ⟨vb, 0, none⟩) 1 1]).run Tryd.prog W1 = .ok (goInt 1) (W1.setCells N (i * 4) E) := fun ty dc =>
    run_copyK W1 _ _ ty 56 4 N (i * 4) (cap + 1 - i) dc ⟨vb, 0, none⟩ 1 1 1 E Tryd.underlying47 hsz (by simp only [Nat.min_def]; split <;> omega) (by rw [hEl])
      (fun j v hj => by rw [add_lit]; exact news_El hv1 j v (by rw [← hE]; exact hj))
      (fun j hj => by rw [cell_of_row W1 N _ _ _ _ hg1, Array.getElem?_eq_getElem (by rw [hRs]; omega)]; rfl)
      (fun j hj => Lib.frozen_of_heap hg1 _) (fun v hv => flatEl_one' x v (by rw [← hE]; exact hv))
  obtain ⟨W2, hW2⟩ : ∃ W2, W2 = W1.setCells N (i * 4) E := ⟨_, rfl⟩
  rw [← hW2] at hcpA
  have hg2 : W2.heap[N]? = some (.cells (setL ROW (i * 4) E) 56 (0, 0)) := by rw [hW2]; exact heap_setCells N E _ W1 _ _ _ hg1
  have hgo : ∀ j v, F[j]? = some v → W2.cell? ⟨g, j, none⟩ = some v := by
    intro j v hj
    have h1 : W2.heap[g]? = w.heap[g]? := by rw [hW2, heap_setCells_other N g (by omega)]; exact hB1.block g hgw
    rw [World.cell?_of_block (w := w) (w' := W2) h1]
    exact hcell j v hj
  have hcpB : ∀ ty dc sc, (Builtin.copy_ #[47, 47] ty #[.slice (some ⟨N, (i + 1) * 4, none⟩) (cap - i) dc, .slice (some ⟨g, i * 4, none⟩) (cap - i) sc]).run Tryd.prog W2.drew = .ok (goInt ((cap - i : Nat) : Int)) (W2.drew.setCells N ((i + 1) * 4) D) := fun ty dc sc =>
    run_copyK W2.drew _ _ ty 56 4 N ((i + 1) * 4) (cap - i) dc ⟨g, i * 4, none⟩ (cap - i) sc (cap - i) D Tryd.underlying47 hsz (by simp only [Nat.min_def]; split <;> omega) hDl
      (fun j v hj => by rw [add_lit]; exact hgo (i * 4 + j) v (by rw [hD, List.getElem?_drop] at hj; rw [show i * 4 + j = 4 * i + j by omega]; exact hj))
      (fun j hj => by
        rw [show W2.drew.cell? ⟨N, (i + 1) * 4 + j, none⟩ = W2.cell? ⟨N, (i + 1) * 4 + j, none⟩ from rfl, cell_of_row W2 N _ _ _ _ hg2, Array.getElem?_eq_getElem (by rw [setL_size, hRs]; omega)]; rfl)
      (fun j hj => Lib.frozen_of_heap (w := W2) hg2 _) (fun v hv => hF1 v (by rw [hD] at hv; exact List.mem_of_mem_drop hv))
  have HFIN : Hid (InsPostE B (rs.take i ++ x :: rs.drop i) (.slice (some ⟨g, 0, none⟩) cap cap) w (.returned (.slice (some ⟨N, 0, none⟩) (cap + 1) G)) (W2.drew.setCells N ((i + 1) * 4) D)) := by
    have hg3 := heap_setCells N D ((i + 1) * 4) W2.drew _ _ _ hg2
    obtain ⟨s1, s2, s3, s4⟩ := size_setCells N D ((i + 1) * 4) W2.drew
    obtain ⟨r1, r2, r3, r4⟩ := size_setCells N E (i * 4) W1
    rw [← hW2] at r1 r2 r3 r4
    have hlen : (rs.take i ++ x :: rs.drop i).length = cap + 1 := by simp; omega
    have hfl : flatEl (rs.take i ++ x :: rs.drop i) = F.take (4 * i) ++ (E ++ F.drop (4 * i)) := by
      rw [flatEl_app, flatEl_one, (flatEl_take rs i (by omega)).1, (flatEl_take rs i (by omega)).2, ← hF, hE]
    refine ⟨_, rfl, ⟨?_, .inr ⟨N, G, _, by rw [hlen], by omega, hg3, by rw [hlen]; exact hGn, hGm, by rw [setL_size, setL_size]; exact hRs, ?_⟩⟩, ?_, fun k hk => .inr (by have e : N = k := Option.some.inj hk; omega)⟩
    · rw [flatEl_len]; omega
    · rw [hlen, hfl]
      refine grow_cells4 F E _ cap i (by omega) hFl hEl ROW.toList (setL ROW (i * 4) E).toList _ hRl hZl ?_ ?_
      · rw [setL_list E ROW _ (by rw [hEl, hRs]; omega)]
      · rw [setL_list D _ _ (by rw [setL_size, hDl, hRs]; omega), ← hD]
    · refine ⟨by rw [s2]; exact r2.trans hB1.os, by rw [s3]; exact r3.trans hB1.tape, by rw [s4]; exact r4.trans hB1.output, ?_, fun k hk _ => ?_⟩
      · rw [s1]
        show w.heap.size ≤ W2.heap.size
        rw [r1]; exact hB1.size
      · rw [heap_setCells_other N k (by omega)]
        show W2.heap[k]? = _
        rw [hW2, heap_setCells_other N k (by omega)]
        exact hB1.block k hk
  have c1 : ∀ W, (Instr.slice 47 (.slice (some ⟨g, 0, none⟩) cap cap) (some (.int .i64 i)) none none).run Tryd.prog W = .ok (.slice (some ⟨g, i * 4, none⟩) (cap - i) (cap - i)) W := fun W => by
    have := cutEl_from g 0 cap cap i (by omega) (by omega) W
    rw [if_neg (by omega), Nat.zero_add] at this
    exact this
  have c2 : ∀ W, (Instr.slice 47 (.slice (some ⟨g, 0, none⟩) cap cap) none (some (.int .i64 i)) none).run Tryd.prog W = .ok (.slice (some ⟨g, 0, none⟩) i cap) W := cutEl_to (some ⟨g, 0, none⟩) cap cap i (by omega)
  have c3 : ∀ W, (Instr.slice 47 (.slice (some ⟨N, 0, none⟩) (cap + 1) G) (some (.int .i64 i)) none none).run Tryd.prog W = .ok (.slice (some ⟨N, i * 4, none⟩) (cap + 1 - i) (G - i)) W := fun W => by
    have := cutEl_from N 0 (cap + 1) G i (by omega) (by omega) W
    rw [if_neg (by omega), Nat.zero_add] at this
    exact this
  have hz2 : ¬ ((i : Int) = (cap : Int)) := by omega
  have hz3 : (cap : Int) < (cap : Int) + 1 := by omega
  have hw1 : IntKind.i64.wrap ((i : Int) + 1) = (i : Int) + 1 := by rw [IntKind.wrap_i64]; omega
  have hb1 : (0 : Int) ≤ (i : Int) + 1 := by omega
  have hb5 : (i : Int) + 1 ≤ (cap : Int) + 1 := by omega
  have htn : ((i : Int) + 1).toNat = i + 1 := by omega
  have hb2 : ¬ (G = i + 1) := by omega
  have hb3 : (i : Int) ≤ (cap : Int) := by omega
  have hb4 : ¬ (cap = i) := by omega
  clear hn hF hFl hF1 hcell hsz hD hDl hE hEl hg1 hv1 hg hv ht hW1 hW2 hg2 hgo hi0 hz0 hzs hzb hold hROW hRs hRl hZl hzc hG hGm hB1 hkk hik hk hZ3 hgw hvw hN hB hGn hroom
  go_enter Tryd.func37, Tryd.ntmps37
  go_wp2_with (first
    | (at_builtin; refine Lib.wpList_append_run _ rfl _ _ _ _ rfl _ _ rfl rfl _ _ (hrz _) ?_)
    | (at_builtin; refine wpList_copy_runI _ rfl _ _ 47 47 rfl _ _ rfl rfl (hcpA _ _) ?_))
  go_region_law (refine step_copy_runI rfl _ _ 47 47 rfl _ _ (by simp [Act.eval, Act.put]) (by simp [Act.eval, Act.put]) (hcpB _ _ _) ?_)
  go_wp2
  go_ret
  exact HFIN.out

/-- Insert of one range at any place of the caller's own row. -/
theorem insEl_any (rs : List El) (x : El) (B : Nat) (v : Value) (vb i : Nat) (w : World) (hown : w.ownsRow B 56 4 v rs.length (flatEl rs)) (hB : B ≤ w.heap.size) (hi : i ≤ rs.length)
    (hv : w.heap[vb]? = some (.cells (encEl x).toArray 56)) (hne : v.ownBlock ≠ some vb) (hl : rs.length ≤ 100000000) :
    Calls Tryd.prog 37 #[v, .int .i64 i, .slice (some ⟨vb, 0, none⟩) 1 1] w (InsPostE B (rs.take i ++ x :: rs.drop i) v w) := by
  rcases Nat.eq_or_lt_of_le hi with rfl | hlt
  · have := insEl_end rs x B v vb w hown hB hv hl
    rw [List.take_length, List.drop_length]
    exact this
  · rcases hown.2 with ⟨rfl, h0⟩ | ⟨g, cap, cur, rfl, hbg, hg, hnc, hm, hs, ht⟩
    · omega
    · have hvg : vb ≠ g := fun e => hne (by rw [e]; rfl)
      by_cases hroom : rs.length + 1 ≤ cap
      · exact insEl_shift rs x B g cap cur vb i w hbg hg hm hs ht hlt hroom hvg hv
      · exact insEl_grow rs x B g cap cur vb i w hB hg hnc ht hlt (by omega) hl hv
end Go.Proofs.YtlelbepfkkaojaaDoor
