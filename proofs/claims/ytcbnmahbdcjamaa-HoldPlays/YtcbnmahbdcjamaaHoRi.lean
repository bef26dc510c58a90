/- The walk of the reference's All. -/
import Derived.Test.YtcbnmahbdcjamaaHoRh
import Derived.Deep.RegionHeld3
namespace Go.Proofs.Ytcbnmahbdcjamaa
open Go.RowKit Go.Sort
set_option linter.unusedVariables false
set_option linter.unusedSimpArgs false

theorem own_laterK9 {w w' : World} {B n s : Nat} {e : TypeId} {v : Value} {xs : List Value} (h : w.ownsRow B e s v n xs) (hb : Below w.heap.size w w') : w'.ownsRow B e s v n xs := cg_own (Q := fun _ => False) (cg_below hb _) h (fun _ _ q => q)
theorem flat_setK9 {α β : Type} (f : α → List β) (k : Nat) (hf : ∀ x, (f x).length = k) : (L : List α) → (i : Nat) → i < L.length → (o : α) → (L.set i o).flatMap f = (L.flatMap f).take (i * k) ++ (f o ++ (L.flatMap f).drop (i * k + k))
  | [], i, h, _ => by simp at h
  | x :: r, 0, _, o => by
    have h1 := hf x
    rw [List.set_cons_zero, List.flatMap_cons, List.flatMap_cons]
    rw [Nat.zero_mul, List.take_zero, List.nil_append, Nat.zero_add, List.drop_append, h1]
    simp [← h1]
  | x :: r, i + 1, h, o => by
    have ih := flat_setK9 f k hf r i (by simpa using h) o
    have h1 := hf x
    rw [List.set_cons_succ, List.flatMap_cons, ih, List.flatMap_cons, show (i + 1) * k = k + i * k by rw [Nat.add_mul]; omega]
    rw [List.take_append, List.drop_append, h1]
    rw [List.take_of_length_le (l := f x) (by omega), List.drop_of_length_le (l := f x) (by omega)]
    simp only [List.append_assoc, List.nil_append]
    rw [show k + i * k - k = i * k by omega, show k + i * k + k - k = i * k + k by omega]
theorem flat_takeK9 {β : Type} (T E : List β) (n i k : Nat) (hE : E.length = k) (hi : i * k + k ≤ n) (hn : n ≤ T.length) : (T.take (i * k) ++ (E ++ T.drop (i * k + k))).take n = (T.take n).take (i * k) ++ (E ++ (T.take n).drop (i * k + k)) := by
  rw [List.take_append, List.take_append, List.drop_take, List.take_take]
  have h1 : (T.take (i * k)).length = i * k := by rw [List.length_take]; omega
  rw [h1, List.take_take, hE]
  rw [show min n (i * k) = min (i * k) n by omega, List.take_of_length_le (l := E) (by omega), show n - i * k - k = n - (i * k + k) by omega]
theorem own_setP9 {w : World} {B g n cap : Nat} {e : TypeId} {L : List Opn} (h : w.ownsRow B e 7 (.slice (some ⟨g, 0, none⟩) n cap) n (flatP L)) (i : Nat) (hi : i < n) (o : Opn) :
    (w.setCells g (i * 7) (encP o)).ownsRow B e 7 (.slice (some ⟨g, 0, none⟩) n cap) n (flatP (L.set i o)) := by
  have hl : L.length = n := by have := h.1; rw [flatP_len] at this; omega
  rcases h.2 with ⟨h0, _⟩ | ⟨g', cap', cur, hv, hb, hg, hn, hm, hs, ht⟩
  · cases h0
  · cases hv
    refine ⟨by rw [flatP_len]; simp; omega, .inr ⟨g, cap, _, rfl, hb, heap_setCells g (encP o) (i * 7) w cur e (0, 0) hg, hn, hm, by rw [setL_size]; exact hs, ?_⟩⟩
    have hs' : cur.toList.length = cap * 7 := by simpa using hs
    have he : (encP o).length = 7 := rfl
    rw [setL_list _ _ _ (by rw [he, hs]; omega), he, flat_takeK9 cur.toList (encP o) (n * 7) i 7 rfl (by omega) (by omega), ht]
    exact (flat_setK9 encP 7 (fun _ => rfl) L i (by omega) o).symm
theorem thereK9 {w : World} {B g n cap : Nat} {e : TypeId} {xs : List Value} (h : w.ownsRow B e 7 (.slice (some ⟨g, 0, none⟩) n cap) n xs) (i : Nat) (hi : i < n) : w.there g (i * 7) 7 := by
  rcases h.2 with ⟨h0, _⟩ | ⟨g', cap', cur, hv, hb, hg, hn, hm, hs, ht⟩
  · cases h0
  · cases hv
    intro j hj
    refine ⟨?_, Lib.frozen_of_heap hg _⟩
    rw [cell_of_row w g (i * 7 + j) _ _ _ hg, Array.getElem?_eq_getElem (by omega)]
    rfl
set_option maxRecDepth 100000 in
set_option maxHeartbeats 8000000 in
theorem rf_all {B T r : Nat} {l M : List Opn} {v : Value} (w : World) (h : RfH w B T r M v) (hA : AscK l) (hp : l.Perm M) (hl : M.length ≤ 100000) :
    Calls Try.prog 50 #[.pointer (some ⟨T, 0, none⟩)] w fun e w' => ∃ a c, e = .returned (.slice a l.length c) ∧ w'.ownsRow w.heap.size 34 7 (.slice a l.length c) l.length (flatP l) ∧ Below w.heap.size w w' := by
  obtain ⟨i0, hi, hz0, hz1, hz2⟩ := info_parts info_P
  have mixed : Try.prog.follows .mixedOrders = true := by kernel_rfl
  obtain ⟨a, cap, rfl, g1, g2, g3, g4⟩ := h.rd
  obtain ⟨n, hn⟩ : ∃ n, n = M.length := ⟨_, rfl⟩
  rw [← hn] at g1 g3 h hl
  have hll : l.length = n := by rw [hp.length_eq, hn]
  have HN : Hid (n = M.length) := hn
  have HR : Hid (∀ V, Below w.heap.size w V → RdP V a n M) := fun V hV => g3.later hV
  have HT : Hid (∀ V, Below w.heap.size w V → V.cell? ⟨T, 1, none⟩ = some (.slice a n cap) ∧ V.frozen? ⟨T, 1, none⟩ = false) := fun V hV => (h.later hV).cells.2
  have HFI : Hid (fiK M n = l) := by rw [hn]; exact fi_all hA hp
  have HRK : Hid (∀ i, i < n → rkK M (M.getD i op0) < M.length) := fun i hi => rk_lt hA hp _ (by simp [List.getD, List.getElem?_eq_getElem (show i < M.length by omega)])
  rw [hll]
  obtain ⟨w2, hrun, hown2, hgrow2⟩ := run_makeSlice_full (P := Try.prog) (w := w) w.heap.size 22 34 i0 op0.val 7 Try.underlying22 hi hz0 hz1 .i64 .i64 n (by omega) (by rw [hz2]; omega) (by unfold maxLen; omega) (Nat.le_refl _)
  rw [made_P] at hown2
  obtain ⟨H, hH⟩ : ∃ H, H = w.heap.size := ⟨_, rfl⟩
  have HHE : Hid (H = w.heap.size) := hH
  have HO2 : Hid (w2.ownsRow w.heap.size 34 7 (.slice (some ⟨H, 0, none⟩) n n) n (flatP (fiK M 0))) := by
    show World.ownsRow _ _ _ _ _ _ _
    rw [hH]
    rw [show fiK M 0 = List.replicate n op0 by rw [hn]; rfl]
    exact hown2
  have HB2 : Hid (Below w.heap.size w w2) := (Below.refl _ w).grown hgrow2 (Nat.le_refl _) (fun k hk => by cases hk)
  rw [← hH] at hrun
  obtain ⟨k1, k2⟩ := HT.out w (Below.refl _ _)
  clear h g1 g3 g4 hn hA hp hll hown2 hgrow2 hH
  go_enter Try.func50, Try.ntmps50
  go_upto_region 3 with fail
  clear hrun k1 k2
  go_loopw [4] (fun x4 wr => ∃ i : Nat, x4 = .int .i64 (i : Int) ∧ i ≤ n ∧ wr.ownsRow w.heap.size 34 7 (.slice (some ⟨H, 0, none⟩) n n) n (flatP (fiK M i)) ∧ Below w.heap.size w wr) (fun x4 _ => n - (RowKit.intOf x4).toNat)
  case atStart => exact ⟨0, rfl, by omega, HO2.out, HB2.out⟩
  case round =>
    obtain ⟨i, h4, hin, ho, hb⟩ := hrel
    subst h4
    have HO : Hid (wr.ownsRow w.heap.size 34 7 (.slice (some ⟨H, 0, none⟩) n n) n (flatP (fiK M i))) := ho
    have HB : Hid (Below w.heap.size w wr) := hb
    obtain ⟨k1, k2⟩ := HT.out wr hb
    clear ho hb
    by_cases hlt : i < n
    · have HRL : Hid (rkK M (M.getD i op0) < M.length) := HRK.out i hlt
      obtain ⟨F, hF⟩ : ∃ F, M.getD i op0 = F := ⟨_, rfl⟩
      have HF : Hid (M.getD i op0 = F) := hF
      rw [hF] at HRL
      have hi0 : (0 : Int) ≤ (i : Int) := by omega
      have hi1 : (i : Int) < (n : Int) := by omega
      clear hF
      go_upto_region 7 with fail
      clear k1 k2
      obtain ⟨wo, hwo⟩ : ∃ wo, wo = wr := ⟨_, rfl⟩
      subst hwo
      go_loopw [5, 6] (fun x5 x6 wr => ∃ (k cc : Nat), x6 = .int .i64 (k : Int) ∧ x5 = .int .i64 (cc : Int) ∧ k ≤ n ∧ cc ≤ k ∧ cc = rkK (M.take k) F ∧ wr.ownsRow w.heap.size 34 7 (.slice (some ⟨H, 0, none⟩) n n) n (flatP (fiK M i)) ∧ Below w.heap.size w wr ∧ Below w.heap.size w wr) (fun _ x6 _ => n - (RowKit.intOf x6).toNat)
      case atStart => exact ⟨0, 0, rfl, rfl, by omega, by omega, rfl, HO.out, HB.out, HB.out⟩
      case round =>
        clear HO HB
        obtain ⟨k, cc, h6, h5, hkn0, hck, hcc, ho, hb, _⟩ := hrel
        subst h6 h5
        have HOI : Hid (wr.ownsRow w.heap.size 34 7 (.slice (some ⟨H, 0, none⟩) n n) n (flatP (fiK M i))) := ho
        have HBI : Hid (Below w.heap.size w wr ∧ Below w.heap.size w wr) := ⟨hb, hb⟩
        obtain ⟨k1, k2⟩ := HT.out wr hb
        clear ho hb
        by_cases hkn : k < n
        · have hk0 : (0 : Int) ≤ (k : Int) := by omega
          have hk1 : (k : Int) < (n : Int) := by omega
          have hst := rk_step M F k (by rw [← HN.out]; exact hkn)
          obtain ⟨b, off, rfl, _⟩ := (HR.out wr HBI.out.2).at k hkn
          have hsf : ∀ V, Below wr.heap.size wr V → (V.cell? ⟨T, 1, none⟩ = some (.slice (some ⟨b, off, none⟩) n cap)) ∧ (V.cell? ⟨b, off + k * 7, none⟩ = some (.int .i64 (M.getD k op0).c) ∧ V.cell? ⟨b, off + k * 7 + 1, none⟩ = some (.int .i64 (M.getD k op0).a) ∧ V.cell? ⟨b, off + k * 7 + 2, none⟩ = some (.int .i64 (M.getD k op0).s) ∧ V.cell? ⟨b, off + k * 7 + 3, none⟩ = some (.bool (M.getD k op0).ins) ∧ V.cell? ⟨b, off + k * 7 + 4, none⟩ = some (.int .i64 (M.getD k op0).rc) ∧ V.cell? ⟨b, off + k * 7 + 5, none⟩ = some (.int .i64 (M.getD k op0).ra) ∧ V.cell? ⟨b, off + k * 7 + 6, none⟩ = some (.int .i32 (M.getD k op0).ch)) ∧ (V.cell? ⟨b, off + i * 7, none⟩ = some (.int .i64 F.c) ∧ V.cell? ⟨b, off + i * 7 + 1, none⟩ = some (.int .i64 F.a) ∧ V.cell? ⟨b, off + i * 7 + 2, none⟩ = some (.int .i64 F.s) ∧ V.cell? ⟨b, off + i * 7 + 3, none⟩ = some (.bool F.ins) ∧ V.cell? ⟨b, off + i * 7 + 4, none⟩ = some (.int .i64 F.rc) ∧ V.cell? ⟨b, off + i * 7 + 5, none⟩ = some (.int .i64 F.ra) ∧ V.cell? ⟨b, off + i * 7 + 6, none⟩ = some (.int .i32 F.ch)) := fun V hV => by
            have hwV := HBI.out.2.trans (hV.mono HBI.out.2.size)
            obtain ⟨b1, o1, h1, ce⟩ := (HR.out V hwV).at k hkn
            cases h1
            obtain ⟨b2, o2, h2, cf⟩ := (HR.out V hwV).at i hlt
            cases h2
            rw [HF.out] at cf
            exact ⟨(HT.out V hwV).1, ce, cf⟩
          generalize M.getD k op0 = E at hst hsf
          have HSF : Hid (type_of% hsf) := hsf
          have HAH : Hid (∀ W, Calls Try.prog 94 #[.agg #[.int .i64 E.c, .int .i64 E.a, .int .i64 E.s, .bool E.ins, .int .i64 E.rc, .int .i64 E.ra, .int .i32 E.ch], .agg #[.int .i64 F.c, .int .i64 F.a, .int .i64 F.s, .bool F.ins, .int .i64 F.rc, .int .i64 F.ra, .int .i32 F.ch]] W fun e w' => e = .returned (.bool (decide (ltK E F))) ∧ Below W.heap.size W w') := fun W => rf_ahead E F W
          clear hsf
          by_cases hlk : ltK E F
          · rw [if_pos hlk, ← hcc] at hst
            have HCN : Hid (cc + 1 = rkK (M.take (k + 1)) F) := hst.symm
            clear hst hcc
            rw [decide_eq_true hlk] at HAH
            go_upto_region 9 with fail
            refine wp_region_noPanic ?_
            refine wp_region_held_drew (S := (fun w' => w'.cell? ⟨T, 1, none⟩ = some (.slice (some ⟨b, off, none⟩) n cap) ∧ (w'.cell? ⟨b, off + k * 7, none⟩ = some (.int .i64 E.c) ∧ w'.cell? ⟨b, off + k * 7 + 1, none⟩ = some (.int .i64 E.a) ∧ w'.cell? ⟨b, off + k * 7 + 2, none⟩ = some (.int .i64 E.s) ∧ w'.cell? ⟨b, off + k * 7 + 3, none⟩ = some (.bool E.ins) ∧ w'.cell? ⟨b, off + k * 7 + 4, none⟩ = some (.int .i64 E.rc) ∧ w'.cell? ⟨b, off + k * 7 + 5, none⟩ = some (.int .i64 E.ra) ∧ w'.cell? ⟨b, off + k * 7 + 6, none⟩ = some (.int .i32 E.ch)) ∧ (w'.cell? ⟨b, off + i * 7, none⟩ = some (.int .i64 F.c) ∧ w'.cell? ⟨b, off + i * 7 + 1, none⟩ = some (.int .i64 F.a) ∧ w'.cell? ⟨b, off + i * 7 + 2, none⟩ = some (.int .i64 F.s) ∧ w'.cell? ⟨b, off + i * 7 + 3, none⟩ = some (.bool F.ins) ∧ w'.cell? ⟨b, off + i * 7 + 4, none⟩ = some (.int .i64 F.rc) ∧ w'.cell? ⟨b, off + i * 7 + 5, none⟩ = some (.int .i64 F.ra) ∧ w'.cell? ⟨b, off + i * 7 + 6, none⟩ = some (.int .i32 F.ch)))) (by kernel_rfl) (HSF.out _ (Below.refl _ wr).drew) (fun hHeld => ?_)
            refine wpAnyH_take (i := 0) (v := ?_) rfl (by kernel_rfl) (by kernel_rfl) (by kernel_rfl) (fun _ _ _ h => h) (Or.inl ⟨by rfl, ?_⟩) (by assumption) ?_
            rotate_left
            · intro W' hSw; obtain ⟨t1, ⟨e0, e1, e2, e3, e4, e5, e6⟩, f0, f1, f2, f3, f4, f5, f6⟩ := hSw; go_simp; try with_reducible rfl
            try simp only [Act.put, List.getElem_toArray, List.getElem_cons_succ, List.getElem_cons_zero, List.setIfInBounds_toArray, List.set_cons_zero, List.set_cons_succ]
            refine wpAnyH_take (i := 1) (v := ?_) rfl (by kernel_rfl) (by kernel_rfl) (by kernel_rfl) (fun _ _ _ h => h) (Or.inl ⟨by rfl, ?_⟩) (by assumption) ?_
            rotate_left
            · intro W' hSw; obtain ⟨t1, ⟨e0, e1, e2, e3, e4, e5, e6⟩, f0, f1, f2, f3, f4, f5, f6⟩ := hSw; go_simp; try with_reducible rfl
            try simp only [Act.put, List.getElem_toArray, List.getElem_cons_succ, List.getElem_cons_zero, List.setIfInBounds_toArray, List.set_cons_zero, List.set_cons_succ]
            refine wpAnyH_take (i := 2) (v := ?_) rfl (by kernel_rfl) (by kernel_rfl) (by kernel_rfl) (fun _ _ _ h => h) (Or.inl ⟨by rfl, ?_⟩) (by assumption) ?_
            rotate_left
            · intro W' hSw; obtain ⟨t1, ⟨e0, e1, e2, e3, e4, e5, e6⟩, f0, f1, f2, f3, f4, f5, f6⟩ := hSw; go_simp; try with_reducible rfl
            try simp only [Act.put, List.getElem_toArray, List.getElem_cons_succ, List.getElem_cons_zero, List.setIfInBounds_toArray, List.set_cons_zero, List.set_cons_succ]
            refine wpAnyH_take (i := 3) (v := ?_) rfl (by kernel_rfl) (by kernel_rfl) (by kernel_rfl) (fun _ _ _ h => h) (Or.inl ⟨by rfl, ?_⟩) (by assumption) ?_
            rotate_left
            · intro W' hSw; obtain ⟨t1, ⟨e0, e1, e2, e3, e4, e5, e6⟩, f0, f1, f2, f3, f4, f5, f6⟩ := hSw; go_simp; try with_reducible rfl
            try simp only [Act.put, List.getElem_toArray, List.getElem_cons_succ, List.getElem_cons_zero, List.setIfInBounds_toArray, List.set_cons_zero, List.set_cons_succ]
            refine wpAnyH_take (i := 4) (v := ?_) rfl (by kernel_rfl) (by kernel_rfl) (by kernel_rfl) (fun _ _ _ h => h) (Or.inl ⟨by rfl, ?_⟩) (by assumption) ?_
            rotate_left
            · intro W' hSw; obtain ⟨t1, ⟨e0, e1, e2, e3, e4, e5, e6⟩, f0, f1, f2, f3, f4, f5, f6⟩ := hSw; go_simp; try with_reducible rfl
            try simp only [Act.put, List.getElem_toArray, List.getElem_cons_succ, List.getElem_cons_zero, List.setIfInBounds_toArray, List.set_cons_zero, List.set_cons_succ]
            refine wpAnyH_take (i := 5) (v := ?_) rfl (by kernel_rfl) (by kernel_rfl) (by kernel_rfl) (fun _ _ _ h => h) (Or.inl ⟨by rfl, ?_⟩) (by assumption) ?_
            rotate_left
            · intro W' hSw; obtain ⟨t1, ⟨e0, e1, e2, e3, e4, e5, e6⟩, f0, f1, f2, f3, f4, f5, f6⟩ := hSw; go_simp; try with_reducible rfl
            try simp only [Act.put, List.getElem_toArray, List.getElem_cons_succ, List.getElem_cons_zero, List.setIfInBounds_toArray, List.set_cons_zero, List.set_cons_succ]
            refine wpAnyH_take (i := 6) (v := ?_) rfl (by kernel_rfl) (by kernel_rfl) (by kernel_rfl) (fun _ _ _ h => h) (Or.inl ⟨by rfl, ?_⟩) (by assumption) ?_
            rotate_left
            · intro W' hSw; obtain ⟨t1, ⟨e0, e1, e2, e3, e4, e5, e6⟩, f0, f1, f2, f3, f4, f5, f6⟩ := hSw; go_simp; try with_reducible rfl
            try simp only [Act.put, List.getElem_toArray, List.getElem_cons_succ, List.getElem_cons_zero, List.setIfInBounds_toArray, List.set_cons_zero, List.set_cons_succ]
            refine wpAnyH_take (i := 7) (v := ?_) rfl (by kernel_rfl) (by kernel_rfl) (by kernel_rfl) (fun _ _ _ h => h) (Or.inl ⟨by rfl, ?_⟩) (by assumption) ?_
            rotate_left
            · intro W' hSw; obtain ⟨t1, ⟨e0, e1, e2, e3, e4, e5, e6⟩, f0, f1, f2, f3, f4, f5, f6⟩ := hSw; go_simp; try with_reducible rfl
            try simp only [Act.put, List.getElem_toArray, List.getElem_cons_succ, List.getElem_cons_zero, List.setIfInBounds_toArray, List.set_cons_zero, List.set_cons_succ]
            refine wpAnyH_take (i := 8) (v := ?_) rfl (by kernel_rfl) (by kernel_rfl) (by kernel_rfl) (fun _ _ _ h => h) (Or.inl ⟨by rfl, ?_⟩) (by assumption) ?_
            rotate_left
            · intro W' hSw; obtain ⟨t1, ⟨e0, e1, e2, e3, e4, e5, e6⟩, f0, f1, f2, f3, f4, f5, f6⟩ := hSw; go_simp; try with_reducible rfl
            try simp only [Act.put, List.getElem_toArray, List.getElem_cons_succ, List.getElem_cons_zero, List.setIfInBounds_toArray, List.set_cons_zero, List.set_cons_succ]
            refine wpAnyH_take (i := 9) (v := ?_) rfl (by kernel_rfl) (by kernel_rfl) (by kernel_rfl) (fun _ _ _ h => h) (Or.inl ⟨by rfl, ?_⟩) (by assumption) ?_
            rotate_left
            · intro W' hSw; obtain ⟨t1, ⟨e0, e1, e2, e3, e4, e5, e6⟩, f0, f1, f2, f3, f4, f5, f6⟩ := hSw; go_simp; try with_reducible rfl
            try simp only [Act.put, List.getElem_toArray, List.getElem_cons_succ, List.getElem_cons_zero, List.setIfInBounds_toArray, List.set_cons_zero, List.set_cons_succ]
            refine wpAnyH_take (i := 10) (v := ?_) rfl (by kernel_rfl) (by kernel_rfl) (by kernel_rfl) (fun _ _ _ h => h) (Or.inl ⟨by rfl, ?_⟩) (by assumption) ?_
            rotate_left
            · intro W' hSw; obtain ⟨t1, ⟨e0, e1, e2, e3, e4, e5, e6⟩, f0, f1, f2, f3, f4, f5, f6⟩ := hSw; go_simp; try with_reducible rfl
            try simp only [Act.put, List.getElem_toArray, List.getElem_cons_succ, List.getElem_cons_zero, List.setIfInBounds_toArray, List.set_cons_zero, List.set_cons_succ]
            refine wpAnyH_take (i := 11) (v := ?_) rfl (by kernel_rfl) (by kernel_rfl) (by kernel_rfl) (fun _ _ _ h => h) (Or.inl ⟨by rfl, ?_⟩) (by assumption) ?_
            rotate_left
            · intro W' hSw; obtain ⟨t1, ⟨e0, e1, e2, e3, e4, e5, e6⟩, f0, f1, f2, f3, f4, f5, f6⟩ := hSw; go_simp; try with_reducible rfl
            try simp only [Act.put, List.getElem_toArray, List.getElem_cons_succ, List.getElem_cons_zero, List.setIfInBounds_toArray, List.set_cons_zero, List.set_cons_succ]
            refine wpAnyH_take (i := 12) (v := ?_) rfl (by kernel_rfl) (by kernel_rfl) (by kernel_rfl) (fun _ _ _ h => h) (Or.inl ⟨by rfl, ?_⟩) (by assumption) ?_
            rotate_left
            · intro W' hSw; obtain ⟨t1, ⟨e0, e1, e2, e3, e4, e5, e6⟩, f0, f1, f2, f3, f4, f5, f6⟩ := hSw; go_simp; try with_reducible rfl
            try simp only [Act.put, List.getElem_toArray, List.getElem_cons_succ, List.getElem_cons_zero, List.setIfInBounds_toArray, List.set_cons_zero, List.set_cons_succ]
            refine wpAnyH_take (i := 13) (v := ?_) rfl (by kernel_rfl) (by kernel_rfl) (by kernel_rfl) (fun _ _ _ h => h) (Or.inl ⟨by rfl, ?_⟩) (by assumption) ?_
            rotate_left
            · intro W' hSw; obtain ⟨t1, ⟨e0, e1, e2, e3, e4, e5, e6⟩, f0, f1, f2, f3, f4, f5, f6⟩ := hSw; go_simp; try with_reducible rfl
            try simp only [Act.put, List.getElem_toArray, List.getElem_cons_succ, List.getElem_cons_zero, List.setIfInBounds_toArray, List.set_cons_zero, List.set_cons_succ]
            refine wpAnyH_ready (rs := [14]) (by kernel_rfl) (by simp) ?_
            refine AllReadyH.cons rfl (fun KK hK => ?_) AllReadyH.nil
            go_simp
            refine (HAH.out _).mono ?_
            rintro e w9 ⟨rfl, hg⟩
            have HB9 : Hid (Below wr.heap.size wr w9) := (Below.refl _ wr).drew.trans hg
            clear hg
            refine hK.out _ _ (HSF.out _ HB9.out) (fun hHeld => ?_)
            clear hK KK
            try simp only [Act.put, List.getElem_toArray, List.getElem_cons_succ, List.getElem_cons_zero, List.setIfInBounds_toArray, List.set_cons_zero, List.set_cons_succ]
            refine wpAnyH_done (by kernel_rfl) ?_ _
            refine NoPanic.normal ?_
            clear hHeld
            go_wp2
            go_roundw
            case rel => exact ⟨k + 1, cc + 1, by go_num, by go_num, by omega, by omega, HCN.out, own_laterK9 HOI.out HB9.out, HBI.out.1.trans (HB9.out.mono HBI.out.1.size), HBI.out.2.trans (HB9.out.mono HBI.out.2.size)⟩
            case measure => simp [RowKit.intOf]; omega
          · rw [if_neg hlk, ← hcc] at hst
            have HCN : Hid (cc = rkK (M.take (k + 1)) F) := hst.symm
            clear hst hcc
            rw [decide_eq_false hlk] at HAH
            go_upto_region 9 with fail
            refine wp_region_noPanic ?_
            refine wp_region_held_drew (S := (fun w' => w'.cell? ⟨T, 1, none⟩ = some (.slice (some ⟨b, off, none⟩) n cap) ∧ (w'.cell? ⟨b, off + k * 7, none⟩ = some (.int .i64 E.c) ∧ w'.cell? ⟨b, off + k * 7 + 1, none⟩ = some (.int .i64 E.a) ∧ w'.cell? ⟨b, off + k * 7 + 2, none⟩ = some (.int .i64 E.s) ∧ w'.cell? ⟨b, off + k * 7 + 3, none⟩ = some (.bool E.ins) ∧ w'.cell? ⟨b, off + k * 7 + 4, none⟩ = some (.int .i64 E.rc) ∧ w'.cell? ⟨b, off + k * 7 + 5, none⟩ = some (.int .i64 E.ra) ∧ w'.cell? ⟨b, off + k * 7 + 6, none⟩ = some (.int .i32 E.ch)) ∧ (w'.cell? ⟨b, off + i * 7, none⟩ = some (.int .i64 F.c) ∧ w'.cell? ⟨b, off + i * 7 + 1, none⟩ = some (.int .i64 F.a) ∧ w'.cell? ⟨b, off + i * 7 + 2, none⟩ = some (.int .i64 F.s) ∧ w'.cell? ⟨b, off + i * 7 + 3, none⟩ = some (.bool F.ins) ∧ w'.cell? ⟨b, off + i * 7 + 4, none⟩ = some (.int .i64 F.rc) ∧ w'.cell? ⟨b, off + i * 7 + 5, none⟩ = some (.int .i64 F.ra) ∧ w'.cell? ⟨b, off + i * 7 + 6, none⟩ = some (.int .i32 F.ch)))) (by kernel_rfl) (HSF.out _ (Below.refl _ wr).drew) (fun hHeld => ?_)
            refine wpAnyH_take (i := 0) (v := ?_) rfl (by kernel_rfl) (by kernel_rfl) (by kernel_rfl) (fun _ _ _ h => h) (Or.inl ⟨by rfl, ?_⟩) (by assumption) ?_
            rotate_left
            · intro W' hSw; obtain ⟨t1, ⟨e0, e1, e2, e3, e4, e5, e6⟩, f0, f1, f2, f3, f4, f5, f6⟩ := hSw; go_simp; try with_reducible rfl
            try simp only [Act.put, List.getElem_toArray, List.getElem_cons_succ, List.getElem_cons_zero, List.setIfInBounds_toArray, List.set_cons_zero, List.set_cons_succ]
            refine wpAnyH_take (i := 1) (v := ?_) rfl (by kernel_rfl) (by kernel_rfl) (by kernel_rfl) (fun _ _ _ h => h) (Or.inl ⟨by rfl, ?_⟩) (by assumption) ?_
            rotate_left
            · intro W' hSw; obtain ⟨t1, ⟨e0, e1, e2, e3, e4, e5, e6⟩, f0, f1, f2, f3, f4, f5, f6⟩ := hSw; go_simp; try with_reducible rfl
            try simp only [Act.put, List.getElem_toArray, List.getElem_cons_succ, List.getElem_cons_zero, List.setIfInBounds_toArray, List.set_cons_zero, List.set_cons_succ]
            refine wpAnyH_take (i := 2) (v := ?_) rfl (by kernel_rfl) (by kernel_rfl) (by kernel_rfl) (fun _ _ _ h => h) (Or.inl ⟨by rfl, ?_⟩) (by assumption) ?_
            rotate_left
            · intro W' hSw; obtain ⟨t1, ⟨e0, e1, e2, e3, e4, e5, e6⟩, f0, f1, f2, f3, f4, f5, f6⟩ := hSw; go_simp; try with_reducible rfl
            try simp only [Act.put, List.getElem_toArray, List.getElem_cons_succ, List.getElem_cons_zero, List.setIfInBounds_toArray, List.set_cons_zero, List.set_cons_succ]
            refine wpAnyH_take (i := 3) (v := ?_) rfl (by kernel_rfl) (by kernel_rfl) (by kernel_rfl) (fun _ _ _ h => h) (Or.inl ⟨by rfl, ?_⟩) (by assumption) ?_
            rotate_left
            · intro W' hSw; obtain ⟨t1, ⟨e0, e1, e2, e3, e4, e5, e6⟩, f0, f1, f2, f3, f4, f5, f6⟩ := hSw; go_simp; try with_reducible rfl
            try simp only [Act.put, List.getElem_toArray, List.getElem_cons_succ, List.getElem_cons_zero, List.setIfInBounds_toArray, List.set_cons_zero, List.set_cons_succ]
            refine wpAnyH_take (i := 4) (v := ?_) rfl (by kernel_rfl) (by kernel_rfl) (by kernel_rfl) (fun _ _ _ h => h) (Or.inl ⟨by rfl, ?_⟩) (by assumption) ?_
            rotate_left
            · intro W' hSw; obtain ⟨t1, ⟨e0, e1, e2, e3, e4, e5, e6⟩, f0, f1, f2, f3, f4, f5, f6⟩ := hSw; go_simp; try with_reducible rfl
            try simp only [Act.put, List.getElem_toArray, List.getElem_cons_succ, List.getElem_cons_zero, List.setIfInBounds_toArray, List.set_cons_zero, List.set_cons_succ]
            refine wpAnyH_take (i := 5) (v := ?_) rfl (by kernel_rfl) (by kernel_rfl) (by kernel_rfl) (fun _ _ _ h => h) (Or.inl ⟨by rfl, ?_⟩) (by assumption) ?_
            rotate_left
            · intro W' hSw; obtain ⟨t1, ⟨e0, e1, e2, e3, e4, e5, e6⟩, f0, f1, f2, f3, f4, f5, f6⟩ := hSw; go_simp; try with_reducible rfl
            try simp only [Act.put, List.getElem_toArray, List.getElem_cons_succ, List.getElem_cons_zero, List.setIfInBounds_toArray, List.set_cons_zero, List.set_cons_succ]
            refine wpAnyH_take (i := 6) (v := ?_) rfl (by kernel_rfl) (by kernel_rfl) (by kernel_rfl) (fun _ _ _ h => h) (Or.inl ⟨by rfl, ?_⟩) (by assumption) ?_
            rotate_left
            · intro W' hSw; obtain ⟨t1, ⟨e0, e1, e2, e3, e4, e5, e6⟩, f0, f1, f2, f3, f4, f5, f6⟩ := hSw; go_simp; try with_reducible rfl
            try simp only [Act.put, List.getElem_toArray, List.getElem_cons_succ, List.getElem_cons_zero, List.setIfInBounds_toArray, List.set_cons_zero, List.set_cons_succ]
            refine wpAnyH_take (i := 7) (v := ?_) rfl (by kernel_rfl) (by kernel_rfl) (by kernel_rfl) (fun _ _ _ h => h) (Or.inl ⟨by rfl, ?_⟩) (by assumption) ?_
            rotate_left
            · intro W' hSw; obtain ⟨t1, ⟨e0, e1, e2, e3, e4, e5, e6⟩, f0, f1, f2, f3, f4, f5, f6⟩ := hSw; go_simp; try with_reducible rfl
            try simp only [Act.put, List.getElem_toArray, List.getElem_cons_succ, List.getElem_cons_zero, List.setIfInBounds_toArray, List.set_cons_zero, List.set_cons_succ]
            refine wpAnyH_take (i := 8) (v := ?_) rfl (by kernel_rfl) (by kernel_rfl) (by kernel_rfl) (fun _ _ _ h => h) (Or.inl ⟨by rfl, ?_⟩) (by assumption) ?_
            rotate_left
            · intro W' hSw; obtain ⟨t1, ⟨e0, e1, e2, e3, e4, e5, e6⟩, f0, f1, f2, f3, f4, f5, f6⟩ := hSw; go_simp; try with_reducible rfl
            try simp only [Act.put, List.getElem_toArray, List.getElem_cons_succ, List.getElem_cons_zero, List.setIfInBounds_toArray, List.set_cons_zero, List.set_cons_succ]
            refine wpAnyH_take (i := 9) (v := ?_) rfl (by kernel_rfl) (by kernel_rfl) (by kernel_rfl) (fun _ _ _ h => h) (Or.inl ⟨by rfl, ?_⟩) (by assumption) ?_
            rotate_left
            · intro W' hSw; obtain ⟨t1, ⟨e0, e1, e2, e3, e4, e5, e6⟩, f0, f1, f2, f3, f4, f5, f6⟩ := hSw; go_simp; try with_reducible rfl
            try simp only [Act.put, List.getElem_toArray, List.getElem_cons_succ, List.getElem_cons_zero, List.setIfInBounds_toArray, List.set_cons_zero, List.set_cons_succ]
            refine wpAnyH_take (i := 10) (v := ?_) rfl (by kernel_rfl) (by kernel_rfl) (by kernel_rfl) (fun _ _ _ h => h) (Or.inl ⟨by rfl, ?_⟩) (by assumption) ?_
            rotate_left
            · intro W' hSw; obtain ⟨t1, ⟨e0, e1, e2, e3, e4, e5, e6⟩, f0, f1, f2, f3, f4, f5, f6⟩ := hSw; go_simp; try with_reducible rfl
            try simp only [Act.put, List.getElem_toArray, List.getElem_cons_succ, List.getElem_cons_zero, List.setIfInBounds_toArray, List.set_cons_zero, List.set_cons_succ]
            refine wpAnyH_take (i := 11) (v := ?_) rfl (by kernel_rfl) (by kernel_rfl) (by kernel_rfl) (fun _ _ _ h => h) (Or.inl ⟨by rfl, ?_⟩) (by assumption) ?_
            rotate_left
            · intro W' hSw; obtain ⟨t1, ⟨e0, e1, e2, e3, e4, e5, e6⟩, f0, f1, f2, f3, f4, f5, f6⟩ := hSw; go_simp; try with_reducible rfl
            try simp only [Act.put, List.getElem_toArray, List.getElem_cons_succ, List.getElem_cons_zero, List.setIfInBounds_toArray, List.set_cons_zero, List.set_cons_succ]
            refine wpAnyH_take (i := 12) (v := ?_) rfl (by kernel_rfl) (by kernel_rfl) (by kernel_rfl) (fun _ _ _ h => h) (Or.inl ⟨by rfl, ?_⟩) (by assumption) ?_
            rotate_left
            · intro W' hSw; obtain ⟨t1, ⟨e0, e1, e2, e3, e4, e5, e6⟩, f0, f1, f2, f3, f4, f5, f6⟩ := hSw; go_simp; try with_reducible rfl
            try simp only [Act.put, List.getElem_toArray, List.getElem_cons_succ, List.getElem_cons_zero, List.setIfInBounds_toArray, List.set_cons_zero, List.set_cons_succ]
            refine wpAnyH_take (i := 13) (v := ?_) rfl (by kernel_rfl) (by kernel_rfl) (by kernel_rfl) (fun _ _ _ h => h) (Or.inl ⟨by rfl, ?_⟩) (by assumption) ?_
            rotate_left
            · intro W' hSw; obtain ⟨t1, ⟨e0, e1, e2, e3, e4, e5, e6⟩, f0, f1, f2, f3, f4, f5, f6⟩ := hSw; go_simp; try with_reducible rfl
            try simp only [Act.put, List.getElem_toArray, List.getElem_cons_succ, List.getElem_cons_zero, List.setIfInBounds_toArray, List.set_cons_zero, List.set_cons_succ]
            refine wpAnyH_ready (rs := [14]) (by kernel_rfl) (by simp) ?_
            refine AllReadyH.cons rfl (fun KK hK => ?_) AllReadyH.nil
            go_simp
            refine (HAH.out _).mono ?_
            rintro e w9 ⟨rfl, hg⟩
            have HB9 : Hid (Below wr.heap.size wr w9) := (Below.refl _ wr).drew.trans hg
            clear hg
            refine hK.out _ _ (HSF.out _ HB9.out) (fun hHeld => ?_)
            clear hK KK
            try simp only [Act.put, List.getElem_toArray, List.getElem_cons_succ, List.getElem_cons_zero, List.setIfInBounds_toArray, List.set_cons_zero, List.set_cons_succ]
            refine wpAnyH_done (by kernel_rfl) ?_ _
            refine NoPanic.normal ?_
            clear hHeld
            go_wp2
            go_roundw
            case rel => exact ⟨k + 1, cc, by go_num, rfl, by omega, by omega, HCN.out, own_laterK9 HOI.out HB9.out, HBI.out.1.trans (HB9.out.mono HBI.out.1.size), HBI.out.2.trans (HB9.out.mono HBI.out.2.size)⟩
            case measure => simp [RowKit.intOf]; omega
        · obtain rfl : n = k := by omega
          have hrk : rkK M F = cc := by rw [hcc, List.take_of_length_le (by rw [HN.out]; omega)]
          have hcl : cc < n := by rw [← hrk]; have := HRL.out; rw [HN.out]; exact this
          obtain ⟨b, off, rfl, cf⟩ := (HR.out wr HBI.out.2).at i hlt
          rw [HF.out] at cf
          obtain ⟨f0, f1, f2, f3, f4, f5, f6⟩ := cf
          obtain ⟨t1, _⟩ := HT.out wr HBI.out.2
          obtain ⟨ar, cr, har, _, _, hrd, _⟩ := rdP_own HOI.out
          cases har
          obtain ⟨b9, o9, h9, d0, d1, d2, d3, d4, d5, d6⟩ := hrd.at cc hcl
          cases h9
          rw [Nat.zero_add] at d0 d1 d2 d3 d4 d5 d6
          have hfz : ∀ j, wr.frozen? ⟨H, j, none⟩ = false := fun j => by
            rcases HOI.out.2 with ⟨h0, _⟩ | ⟨g', cap', cur, hv, _, hg, _⟩
            · cases h0
            · cases hv; exact Lib.frozen_of_heap hg _
          have z0 := hfz (cc * 7)
          have z1 := hfz (cc * 7 + 1)
          have z2 := hfz (cc * 7 + 2)
          have z3 := hfz (cc * 7 + 3)
          have z4 := hfz (cc * 7 + 4)
          have z5 := hfz (cc * 7 + 5)
          have z6 := hfz (cc * 7 + 6)
          generalize (fiK M i).getD cc op0 = G at d0 d1 d2 d3 d4 d5 d6
          have HON : Hid ((((((((wr.setCell ⟨H, cc * 7, none⟩ (.int .i64 F.c)).setCell ⟨H, cc * 7 + 1, none⟩ (.int .i64 F.a)).setCell ⟨H, cc * 7 + 2, none⟩ (.int .i64 F.s)).setCell ⟨H, cc * 7 + 3, none⟩ (.bool F.ins)).setCell ⟨H, cc * 7 + 4, none⟩ (.int .i64 F.rc)).setCell ⟨H, cc * 7 + 5, none⟩ (.int .i64 F.ra)).setCell ⟨H, cc * 7 + 6, none⟩ (.int .i32 F.ch)).ownsRow w.heap.size 34 7 (.slice (some ⟨H, 0, none⟩) n n) n (flatP (fiK M (i + 1)))) := by
            have h9 := own_setP9 HOI.out cc hcl F
            rw [setCells_op] at h9
            rw [show fiK M (i + 1) = (fiK M i).set cc F by rw [fiK, HF.out, hrk]]
            exact h9
          have HBN : Hid (Below w.heap.size w (((((((wr.setCell ⟨H, cc * 7, none⟩ (.int .i64 F.c)).setCell ⟨H, cc * 7 + 1, none⟩ (.int .i64 F.a)).setCell ⟨H, cc * 7 + 2, none⟩ (.int .i64 F.s)).setCell ⟨H, cc * 7 + 3, none⟩ (.bool F.ins)).setCell ⟨H, cc * 7 + 4, none⟩ (.int .i64 F.rc)).setCell ⟨H, cc * 7 + 5, none⟩ (.int .i64 F.ra)).setCell ⟨H, cc * 7 + 6, none⟩ (.int .i32 F.ch))) := by
            have h9 := HBI.out.2.trans (cg_bel (cg_cells wr H (cc * 7) (encP F)) HBI.out.2.size (fun k q => by subst q; rw [HHE.out]; exact Nat.le_refl _))
            rw [setCells_op] at h9
            exact h9
          have hc0 : (0 : Int) ≤ (cc : Int) := by omega
          have hc1 : (cc : Int) < (n : Int) := by omega
          clear hrk hcc HOI HRL hfz hrd
          go_wp2
          go_roundw
          case rel => exact ⟨i + 1, by go_num, by omega, HON.out, HBN.out⟩
          case measure => simp [RowKit.intOf]; omega
    · obtain rfl : n = i := by omega
      have HO2 : Hid (wr.ownsRow w.heap.size 34 7 (.slice (some ⟨H, 0, none⟩) n n) n (flatP l)) := by
        have := HO.out
        rw [HFI.out] at this
        exact this
      clear HO HRK
      go_wp2
      go_ret
      rw [← HHE.out]
      exact ⟨_, _, rfl, by have := HO2.out; rw [← HHE.out] at this; exact this, by have := HB.out; rw [← HHE.out] at this; exact this⟩
end Go.Proofs.Ytcbnmahbdcjamaa
