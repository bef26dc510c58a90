/- The walk of remove. -/
import Derived.Test.YtcbnmahbdcjamaaHoD
namespace Go.Proofs.Ytcbnmahbdcjamaa
open Go.RowKit Go.Sort
set_option linter.unusedVariables false
set_option linter.unusedSimpArgs false

/-- What remove leaves. -/
def RemQ (w : World) (B bh r : Nat) (l : List Opn) (v : Value) (a s : Int) (w' : World) : Prop :=
  ∃ v', HoS w' B bh r (remK l a s) v' ∧ LiesB w v v' ∧ Chg w w' (OwnH bh v)
theorem remK_none {l : List Opn} {a s : Int} (h : hasK l a s = false) : remK l a s = l := by
  unfold remK
  rw [List.filter_eq_self]
  intro x hx
  have := (hasK_false l a s).1 h x hx
  by_cases h1 : x.a = a
  · by_cases h2 : x.s = s
    · exact absurd ⟨h1, h2⟩ this
    · simp [h2]
  · simp [h1]
theorem remK_le (l : List Opn) (a s : Int) : (remK l a s).length ≤ l.length := List.length_filter_le _ _
/-- A row of sevens, one of which is taken out. -/
theorem cutoutP (L F D : List Value) (n i : Nat) (hi : i < n) (hF : F.length = 7 * n) (hD : D = F.drop (7 * (i + 1))) (hL : L.take (n * 7) = F)
    (L1 : List Value) (h1 : L1 = L.take (i * 7) ++ (D ++ L.drop (i * 7 + D.length))) : L1.take ((n - 1) * 7) = F.take (7 * i) ++ D := by
  have hDl : D.length = (n - 1 - i) * 7 := by rw [hD, List.length_drop, hF]; omega
  have hLl : n * 7 ≤ L.length := by
    have := congrArg List.length hL
    rw [List.length_take, hF] at this
    omega
  have e1 : L.take (i * 7) = F.take (7 * i) := by
    rw [← hL, List.take_take, show min (7 * i) (n * 7) = i * 7 by omega]
  rw [h1, e1, ← List.append_assoc, List.take_append_of_le_length (by simp [hF, hDl]; omega), List.take_of_length_le (by simp [hF, hDl]; omega)]
set_option maxHeartbeats 1000000 in
theorem rem_mem {w W : World} {B bh r : Nat} {l : List Opn} {a : Option Addr} {o : Opn} {n c i : Nat} (h : HoS w B bh r l (.slice a n c)) (hb : Below w.heap.size w W) (hn : n = l.length) (hi : i < n) (hf : FindP l o i) (hz : hasK l o.a o.s = true) :
    ∃ (g : Nat) (D : List Value) (o1 : Nat), a = some ⟨g, 0, none⟩ ∧ n ≤ c ∧ g ≠ bh ∧ (o1 = if c = i + 1 then 0 else (i + 1) * 7) ∧
      (∀ ty dc sc, (Builtin.copy_ #[22, 22] ty #[.slice (some ⟨g, i * 7, none⟩) (n - i) dc, .slice (some ⟨g, o1, none⟩) (n - (i + 1)) sc]).run Try.prog W.drew = .ok (goInt ((n - (i + 1) : Nat) : Int)) (W.drew.setCells g (i * 7) D)) ∧
      RemQ w B bh r l (.slice a n c) o.a o.s ((W.drew.setCells g (i * 7) D).setCell ⟨bh, 1, none⟩ (.slice (some ⟨g, 0, none⟩) (n - 1) c)) := by
  have hV := h.later hb
  have hFl : (flatP l).length = 7 * n := by rw [flatP_len, hn]
  rcases hV.row.2 with ⟨h0, h1⟩ | ⟨g, cap, cur, hv, hbg, hg, hnc, hm, hs, ht⟩
  · omega
  simp only [Value.slice.injEq] at hv
  obtain ⟨rfl, -, rfl⟩ := hv
  rw [← hn] at hnc ht
  have hgb : g ≠ bh := fun e => by
    have := hV.box
    rw [← e, hg] at this
    simp at this
  obtain ⟨D, hD⟩ : ∃ D, D = (flatP l).drop (7 * (i + 1)) := ⟨_, rfl⟩
  have hDl : D.length = (n - (i + 1)) * 7 := by rw [hD, List.length_drop, hFl]; omega
  obtain ⟨o1, ho⟩ : ∃ o1, o1 = if c = i + 1 then 0 else (i + 1) * 7 := ⟨_, rfl⟩
  refine ⟨g, D, o1, rfl, hnc, hgb, ho, ?_, ?_⟩
  · intro ty dc sc
    refine run_copyK W.drew _ _ ty 34 7 g (i * 7) (n - i) dc ⟨g, o1, none⟩ (n - (i + 1)) sc (n - (i + 1)) D Try.underlying22 (by kernel_rfl) (by simp only [Nat.min_def]; split <;> omega) hDl ?_ ?_ ?_ ?_
    · intro j v hj
      rw [add_lit14]
      have hlt : j < D.length := (List.getElem?_eq_some_iff.1 hj).1
      have ho2 : o1 = (i + 1) * 7 := by rw [ho, if_neg (by omega)]
      have hc : W.drew.cell? ⟨g, o1 + j, none⟩ = cur[o1 + j]? := cell_of_row W g (o1 + j) _ _ _ hg
      rw [hc]
      have h2 : cur.toList[o1 + j]? = (cur.toList.take (n * 7))[o1 + j]? := by rw [List.getElem?_take, if_pos (by omega)]
      rw [← Array.getElem?_toList, h2, ht, show o1 + j = 7 * (i + 1) + j by omega]
      rw [hD, List.getElem?_drop] at hj
      exact hj
    · intro j hj
      have hc : W.drew.cell? ⟨g, i * 7 + j, none⟩ = cur[i * 7 + j]? := cell_of_row W g (i * 7 + j) _ _ _ hg
      rw [hc, Array.getElem?_eq_getElem (by omega)]
      rfl
    · intro j hj
      exact Lib.frozen_of_heap (w := W.drew) hg _
    · intro v hv
      rw [hD] at hv
      exact flatP_cells l v (List.mem_of_mem_drop hv)
  · obtain ⟨s1, s2, s3, s4⟩ := size_setCells g D (i * 7) W.drew
    have hg1 : (W.drew.setCells g (i * 7) D).heap[g]? = some (.cells (setL cur (i * 7) D) 34 (0, 0)) := heap_setCells g D (i * 7) W.drew cur _ _ hg
    have hb1 : (W.drew.setCells g (i * 7) D).heap[bh]? = some (.cells #[.int .i64 (r : Int), .slice (some ⟨g, 0, none⟩) n c] 132 (0, 0)) := (heap_setCells_other g bh (fun e => hgb e.symm) D (i * 7) W.drew).trans hV.box
    have hc2 := cg_set (W.drew.setCells g (i * 7) D) bh 1 (.slice (some ⟨g, 0, none⟩) (n - 1) c)
    have hc1 : Chg W (W.drew.setCells g (i * 7) D) (fun k => k = g) := ⟨by rw [s2]; rfl, by rw [s3]; rfl, by rw [s4]; rfl, by rw [s1]; exact Nat.le_refl _, fun k _ hq => (heap_setCells_other g k hq D (i * 7) W.drew).trans rfl⟩
    have hrm := (hf.2.2 hz).2
    have hlen : (remK l o.a o.s).length = n - 1 := by
      rw [← hrm, List.length_append, List.length_take, List.length_drop]; omega
    have hfl : flatP (remK l o.a o.s) = (flatP l).take (7 * i) ++ D := by
      rw [← hrm, flatP_app, (flatP_take l i (by omega)).1, (flatP_take l (i + 1) (by omega)).2, hD]
    refine ⟨.slice (some ⟨g, 0, none⟩) (n - 1) c, ⟨h.low, ?_, ⟨by rw [flatP_len]; omega, .inr ⟨g, c, _, by rw [hlen], hbg, cg_heap hc2 hg1 (fun q => hgb q), by rw [hlen]; omega, hm, by rw [setL_size, hs], ?_⟩⟩, remK_asc _ _ h.asc, by have := remK_le l o.a o.s; have := h.room; omega⟩, ?_, ?_⟩
    · rw [heap_setX _ bh 1 _ _ _ _ hb1]; simp
    · rw [hlen, hfl]
      refine cutoutP cur.toList (flatP l) D n i hi hFl hD ht _ ?_
      rw [setL_list D cur _ (by omega)]
    · intro k hk
      exact .inl (by simpa [Value.ownBlock] using hk)
    · exact cg_trans (cg_trans (cg_trans (cg_below hb (OwnH bh (.slice (some ⟨g, 0, none⟩) n c))) hc1 (fun k _ q => .inr (by rw [q]; rfl))) (cg_refl _ (fun _ => False)) (fun _ _ q => q.elim)) hc2 (fun k _ q => .inl q)
set_option maxRecDepth 100000 in
set_option maxHeartbeats 8000000 in
theorem removeK_any {B bh r : Nat} {l : List Opn} {v : Value} (w : World) (o : Opn) (h : HoS w B bh r l v) (hl : l.length ≤ 100000) :
    Calls Try.prog 87 #[.pointer (some ⟨bh, 0, none⟩), o.val] w fun e w' => e = .returned (.tuple #[]) ∧ RemQ w B bh r l v o.a o.s w' := by
  obtain ⟨a, cap, rfl, g1, g2, g3, g4⟩ := h.rd
  obtain ⟨n, hn⟩ : ∃ n, n = l.length := ⟨_, rfl⟩
  rw [← hn] at g1 g3 h ⊢
  obtain ⟨W0, hW0⟩ : ∃ W0, W0 = w.alloc (bxP o) := ⟨_, rfl⟩
  obtain ⟨H, hH⟩ : ∃ H, H = w.heap.size := ⟨_, rfl⟩
  have hb0 : Below w.heap.size w W0 := by rw [hW0]; exact (Below.refl _ w).alloc (Nat.le_refl _) _
  have hbx : W0.heap[H]? = some (bxP o) := by rw [hW0, hH]; exact heap_alloc_new w _
  have HV : Hid (∀ V : World, Below W0.heap.size W0 V → HoS V B bh r l (.slice a n cap) ∧ V.heap[H]? = some (bxP o) ∧ Below w.heap.size w V) := fun V hV => ⟨h.later (hb0.trans (hV.mono hb0.size)), bel_heap hV hbx, hb0.trans (hV.mono hb0.size)⟩
  have HH0 : Hid (HoS w B bh r l (.slice a n cap)) := h
  have HFIND : Hid (∀ V : World, Below W0.heap.size W0 V → Calls Try.prog 92 #[.slice a n cap, o.val] V fun e w' => ∃ i : Nat, FindP l o i ∧ e = .returned (.tuple #[.int .i64 i, .bool (hasK l o.a o.s)]) ∧ Below W0.heap.size W0 w') := fun V hV => (findK_any l o a n cap V h.asc (g3.later (hb0.trans (hV.mono hb0.size))) (by omega)).mono (by
    rintro e w' ⟨i, hi, rfl, hb⟩
    exact ⟨i, hi, rfl, hV.trans (hb.mono hV.size)⟩)
  have HC : Hid (∀ V : World, Below W0.heap.size W0 V → V.cell? ⟨bh, 1, none⟩ = some (.slice a n cap) ∧ V.cell? ⟨H, 0, none⟩ = some (.int .i64 o.c) ∧ V.cell? ⟨H, 1, none⟩ = some (.int .i64 o.a) ∧ V.cell? ⟨H, 2, none⟩ = some (.int .i64 o.s) ∧ V.cell? ⟨H, 3, none⟩ = some (.bool o.ins) ∧ V.cell? ⟨H, 4, none⟩ = some (.int .i64 o.rc) ∧ V.cell? ⟨H, 5, none⟩ = some (.int .i64 o.ra) ∧ V.cell? ⟨H, 6, none⟩ = some (.int .i32 o.ch)) := fun V hV =>
    ⟨(HV.out V hV).1.cells.2.1, opAt_box (HV.out V hV).2.1⟩
  have HLN : Hid (n = l.length) := hn
  have hnl : n ≤ 100000 := by omega
  have HQ : Hid (∃ Q : World → Prop, Q = RemQ w B bh r l (.slice a n cap) o.a o.s) := ⟨_, rfl⟩
  obtain ⟨Q, hQ⟩ := HQ.out
  have HQQ : Hid (∀ w', RemQ w B bh r l (.slice a n cap) o.a o.s w' → Q w') := fun w' q => by rw [hQ]; exact q
  show Calls _ _ _ _ fun e w' => e = .returned (.tuple #[]) ∧ RemQ w B bh r l (.slice a n cap) o.a o.s w'
  rw [← hQ]
  clear HQ hQ h hn hl hb0 hbx g3 g4 g1
  cases hz : hasK l o.a o.s
  · rw [hz] at HFIND
    have HZ : Hid (hasK l o.a o.s = false) := hz
    clear hz
    obtain ⟨c0, b0, b1, b2, b3, b4, b5, b6⟩ := HC.out W0.drew ((Below.refl _ W0).drew)
    obtain ⟨OP, hOP⟩ : ∃ OP, OP = o := ⟨_, rfl⟩
    rw [← hOP] at HFIND HQQ HV HZ
    have HOP : Hid (OP = o) := hOP
    clear hOP
    obtain ⟨oc, oa, os, oi, orc, ora, och⟩ := o
    simp only at b0 b1 b2 b3 b4 b5 b6
    have HFIND2 : Hid (∀ V : World, Below W0.heap.size W0 V → Calls Try.prog 92 #[.slice a n cap, .agg #[.int .i64 oc, .int .i64 oa, .int .i64 os, .bool oi, .int .i64 orc, .int .i64 ora, .int .i32 och]] V fun e w' => ∃ i : Nat, FindP l OP i ∧ e = .returned (.tuple #[.int .i64 i, .bool false]) ∧ Below W0.heap.size W0 w') := fun V hV => by
      have := HFIND.out V hV
      rw [HOP.out] at this ⊢
      exact this
    clear HFIND
    simp only [Opn.val]
    go_enter Try.func87, Try.ntmps87
    go_upto_region 1 with fail
    rw [← hH, ← hW0]
    clear hH hW0
    refine wp_region_noPanic ?_
    refine wp_region_held_drew (S := (fun w' => w'.cell? ⟨bh, 1, none⟩ = some (.slice a n cap) ∧ w'.cell? ⟨H, 0, none⟩ = some (.int .i64 oc) ∧ w'.cell? ⟨H, 1, none⟩ = some (.int .i64 oa) ∧ w'.cell? ⟨H, 2, none⟩ = some (.int .i64 os) ∧ w'.cell? ⟨H, 3, none⟩ = some (.bool oi) ∧ w'.cell? ⟨H, 4, none⟩ = some (.int .i64 orc) ∧ w'.cell? ⟨H, 5, none⟩ = some (.int .i64 ora) ∧ w'.cell? ⟨H, 6, none⟩ = some (.int .i32 och))) (by kernel_rfl) (⟨c0, b0, b1, b2, b3, b4, b5, b6⟩) (fun hHeld => ?_)
    clear c0 b0 b1 b2 b3 b4 b5 b6
    refine wpAnyH_take (i := 0) (v := ?_) rfl (by kernel_rfl) (by kernel_rfl) (by kernel_rfl) (fun _ _ _ h => h) (Or.inl ⟨by rfl, ?_⟩) (by assumption) ?_
    rotate_left
    · intro W' hSw; obtain ⟨s0, s1, s2, s3, s4, s5, s6, s7⟩ := hSw; go_simp; try with_reducible rfl
    try simp only [Act.put, List.getElem_toArray, List.getElem_cons_succ, List.getElem_cons_zero, List.setIfInBounds_toArray, List.set_cons_zero, List.set_cons_succ]
    refine wpAnyH_take (i := 1) (v := ?_) rfl (by kernel_rfl) (by kernel_rfl) (by kernel_rfl) (fun _ _ _ h => h) (Or.inl ⟨by rfl, ?_⟩) (by assumption) ?_
    rotate_left
    · intro W' hSw; obtain ⟨s0, s1, s2, s3, s4, s5, s6, s7⟩ := hSw; go_simp; try with_reducible rfl
    try simp only [Act.put, List.getElem_toArray, List.getElem_cons_succ, List.getElem_cons_zero, List.setIfInBounds_toArray, List.set_cons_zero, List.set_cons_succ]
    refine wpAnyH_take (i := 2) (v := ?_) rfl (by kernel_rfl) (by kernel_rfl) (by kernel_rfl) (fun _ _ _ h => h) (Or.inl ⟨by rfl, ?_⟩) (by assumption) ?_
    rotate_left
    · intro W' hSw; obtain ⟨s0, s1, s2, s3, s4, s5, s6, s7⟩ := hSw; go_simp; try with_reducible rfl
    try simp only [Act.put, List.getElem_toArray, List.getElem_cons_succ, List.getElem_cons_zero, List.setIfInBounds_toArray, List.set_cons_zero, List.set_cons_succ]
    refine wpAnyH_take (i := 3) (v := ?_) rfl (by kernel_rfl) (by kernel_rfl) (by kernel_rfl) (fun _ _ _ h => h) (Or.inl ⟨by rfl, ?_⟩) (by assumption) ?_
    rotate_left
    · intro W' hSw; obtain ⟨s0, s1, s2, s3, s4, s5, s6, s7⟩ := hSw; go_simp; try with_reducible rfl
    try simp only [Act.put, List.getElem_toArray, List.getElem_cons_succ, List.getElem_cons_zero, List.setIfInBounds_toArray, List.set_cons_zero, List.set_cons_succ]
    refine wpAnyH_take (i := 4) (v := ?_) rfl (by kernel_rfl) (by kernel_rfl) (by kernel_rfl) (fun _ _ _ h => h) (Or.inl ⟨by rfl, ?_⟩) (by assumption) ?_
    rotate_left
    · intro W' hSw; obtain ⟨s0, s1, s2, s3, s4, s5, s6, s7⟩ := hSw; go_simp; try with_reducible rfl
    try simp only [Act.put, List.getElem_toArray, List.getElem_cons_succ, List.getElem_cons_zero, List.setIfInBounds_toArray, List.set_cons_zero, List.set_cons_succ]
    refine wpAnyH_ready (rs := [5]) (by kernel_rfl) (by simp) ?_
    refine AllReadyH.cons rfl (fun KK hK => ?_) AllReadyH.nil
    go_simp
    refine (HFIND2.out _ ((Below.refl _ W0).drew)).mono ?_
    rintro e w2 ⟨i, hi, rfl, hg⟩
    have HI : Hid (FindP l OP i) := hi
    have HB2 : Hid (Below W0.heap.size W0 w2) := hg
    have hc := HC.out w2 hg
    simp only at hc
    clear hi hg
    refine hK.out _ _ hc (fun hHeld => ?_)
    clear hK KK
    try simp only [Act.put, List.getElem_toArray, List.getElem_cons_succ, List.getElem_cons_zero, List.setIfInBounds_toArray, List.set_cons_zero, List.set_cons_succ]
    refine wpAnyH_take (i := 6) (v := ?_) rfl (by kernel_rfl) (by kernel_rfl) (by kernel_rfl) (fun _ _ _ h => h) (Or.inl ⟨by rfl, ?_⟩) (by assumption) ?_
    rotate_left
    · intro W' hSw; obtain ⟨s0, s1, s2, s3, s4, s5, s6, s7⟩ := hSw; go_simp; try with_reducible rfl
    try simp only [Act.put, List.getElem_toArray, List.getElem_cons_succ, List.getElem_cons_zero, List.setIfInBounds_toArray, List.set_cons_zero, List.set_cons_succ]
    refine wpAnyH_take (i := 7) (v := ?_) rfl (by kernel_rfl) (by kernel_rfl) (by kernel_rfl) (fun _ _ _ h => h) (Or.inl ⟨by rfl, ?_⟩) (by assumption) ?_
    rotate_left
    · intro W' hSw; obtain ⟨s0, s1, s2, s3, s4, s5, s6, s7⟩ := hSw; go_simp; try with_reducible rfl
    try simp only [Act.put, List.getElem_toArray, List.getElem_cons_succ, List.getElem_cons_zero, List.setIfInBounds_toArray, List.set_cons_zero, List.set_cons_succ]
    refine wpAnyH_take (i := 8) (v := ?_) rfl (by kernel_rfl) (by kernel_rfl) (by kernel_rfl) (fun _ _ _ h => h) (Or.inl ⟨by rfl, ?_⟩) (by assumption) ?_
    rotate_left
    · intro W' hSw; obtain ⟨s0, s1, s2, s3, s4, s5, s6, s7⟩ := hSw; go_simp; try with_reducible rfl
    try simp only [Act.put, List.getElem_toArray, List.getElem_cons_succ, List.getElem_cons_zero, List.setIfInBounds_toArray, List.set_cons_zero, List.set_cons_succ]
    refine wpAnyH_take (i := 9) (v := ?_) rfl (by kernel_rfl) (by kernel_rfl) (by kernel_rfl) (fun _ _ _ h => h) (Or.inl ⟨by rfl, ?_⟩) (by assumption) ?_
    rotate_left
    · intro W' hSw; obtain ⟨s0, s1, s2, s3, s4, s5, s6, s7⟩ := hSw; go_simp; try with_reducible rfl
    try simp only [Act.put, List.getElem_toArray, List.getElem_cons_succ, List.getElem_cons_zero, List.setIfInBounds_toArray, List.set_cons_zero, List.set_cons_succ]
    refine wpAnyH_ready (rs := [10]) (by kernel_rfl) (by simp) ?_
    refine AllReadyH.cons rfl (fun KK hK => ?_) AllReadyH.nil
    go_simp
    refine hK.out _ _ hHeld (fun hHeld => ?_)
    clear hK KK
    try simp only [Act.put, List.getElem_toArray, List.getElem_cons_succ, List.getElem_cons_zero, List.setIfInBounds_toArray, List.set_cons_zero, List.set_cons_succ]
    refine wpAnyH_done (by kernel_rfl) ?_ _
    refine NoPanic.normal ?_
    clear hHeld
    clear hc
    have HF : Hid (Q w2) := HQQ.out _ ⟨_, by rw [remK_none HZ.out]; exact (HV.out _ HB2.out).1, lies_refl _ _, cg_below (HV.out _ HB2.out).2.2 _⟩
    go_wp2
    (try simp only [Exit.inBlock, Exit.then])
    refine bodyPost_ret (results_none rfl _ _ _) rfl ?_
    exact ⟨rfl, HF.out⟩
  · rw [hz] at HFIND
    have HZ : Hid (hasK l o.a o.s = true) := hz
    clear hz
    obtain ⟨c0, b0, b1, b2, b3, b4, b5, b6⟩ := HC.out W0.drew ((Below.refl _ W0).drew)
    obtain ⟨OP, hOP⟩ : ∃ OP, OP = o := ⟨_, rfl⟩
    rw [← hOP] at HFIND HQQ HV HZ
    have HOP : Hid (OP = o) := hOP
    clear hOP
    obtain ⟨oc, oa, os, oi, orc, ora, och⟩ := o
    simp only at b0 b1 b2 b3 b4 b5 b6
    have HFIND2 : Hid (∀ V : World, Below W0.heap.size W0 V → Calls Try.prog 92 #[.slice a n cap, .agg #[.int .i64 oc, .int .i64 oa, .int .i64 os, .bool oi, .int .i64 orc, .int .i64 ora, .int .i32 och]] V fun e w' => ∃ i : Nat, FindP l OP i ∧ e = .returned (.tuple #[.int .i64 i, .bool true]) ∧ Below W0.heap.size W0 w') := fun V hV => by
      have := HFIND.out V hV
      rw [HOP.out] at this ⊢
      exact this
    clear HFIND
    simp only [Opn.val]
    go_enter Try.func87, Try.ntmps87
    go_upto_region 1 with fail
    rw [← hH, ← hW0]
    clear hH hW0
    refine wp_region_noPanic ?_
    refine wp_region_held_drew (S := (fun w' => w'.cell? ⟨bh, 1, none⟩ = some (.slice a n cap) ∧ w'.cell? ⟨H, 0, none⟩ = some (.int .i64 oc) ∧ w'.cell? ⟨H, 1, none⟩ = some (.int .i64 oa) ∧ w'.cell? ⟨H, 2, none⟩ = some (.int .i64 os) ∧ w'.cell? ⟨H, 3, none⟩ = some (.bool oi) ∧ w'.cell? ⟨H, 4, none⟩ = some (.int .i64 orc) ∧ w'.cell? ⟨H, 5, none⟩ = some (.int .i64 ora) ∧ w'.cell? ⟨H, 6, none⟩ = some (.int .i32 och))) (by kernel_rfl) (⟨c0, b0, b1, b2, b3, b4, b5, b6⟩) (fun hHeld => ?_)
    clear c0 b0 b1 b2 b3 b4 b5 b6
    refine wpAnyH_take (i := 0) (v := ?_) rfl (by kernel_rfl) (by kernel_rfl) (by kernel_rfl) (fun _ _ _ h => h) (Or.inl ⟨by rfl, ?_⟩) (by assumption) ?_
    rotate_left
    · intro W' hSw; obtain ⟨s0, s1, s2, s3, s4, s5, s6, s7⟩ := hSw; go_simp; try with_reducible rfl
    try simp only [Act.put, List.getElem_toArray, List.getElem_cons_succ, List.getElem_cons_zero, List.setIfInBounds_toArray, List.set_cons_zero, List.set_cons_succ]
    refine wpAnyH_take (i := 1) (v := ?_) rfl (by kernel_rfl) (by kernel_rfl) (by kernel_rfl) (fun _ _ _ h => h) (Or.inl ⟨by rfl, ?_⟩) (by assumption) ?_
    rotate_left
    · intro W' hSw; obtain ⟨s0, s1, s2, s3, s4, s5, s6, s7⟩ := hSw; go_simp; try with_reducible rfl
    try simp only [Act.put, List.getElem_toArray, List.getElem_cons_succ, List.getElem_cons_zero, List.setIfInBounds_toArray, List.set_cons_zero, List.set_cons_succ]
    refine wpAnyH_take (i := 2) (v := ?_) rfl (by kernel_rfl) (by kernel_rfl) (by kernel_rfl) (fun _ _ _ h => h) (Or.inl ⟨by rfl, ?_⟩) (by assumption) ?_
    rotate_left
    · intro W' hSw; obtain ⟨s0, s1, s2, s3, s4, s5, s6, s7⟩ := hSw; go_simp; try with_reducible rfl
    try simp only [Act.put, List.getElem_toArray, List.getElem_cons_succ, List.getElem_cons_zero, List.setIfInBounds_toArray, List.set_cons_zero, List.set_cons_succ]
    refine wpAnyH_take (i := 3) (v := ?_) rfl (by kernel_rfl) (by kernel_rfl) (by kernel_rfl) (fun _ _ _ h => h) (Or.inl ⟨by rfl, ?_⟩) (by assumption) ?_
    rotate_left
    · intro W' hSw; obtain ⟨s0, s1, s2, s3, s4, s5, s6, s7⟩ := hSw; go_simp; try with_reducible rfl
    try simp only [Act.put, List.getElem_toArray, List.getElem_cons_succ, List.getElem_cons_zero, List.setIfInBounds_toArray, List.set_cons_zero, List.set_cons_succ]
    refine wpAnyH_take (i := 4) (v := ?_) rfl (by kernel_rfl) (by kernel_rfl) (by kernel_rfl) (fun _ _ _ h => h) (Or.inl ⟨by rfl, ?_⟩) (by assumption) ?_
    rotate_left
    · intro W' hSw; obtain ⟨s0, s1, s2, s3, s4, s5, s6, s7⟩ := hSw; go_simp; try with_reducible rfl
    try simp only [Act.put, List.getElem_toArray, List.getElem_cons_succ, List.getElem_cons_zero, List.setIfInBounds_toArray, List.set_cons_zero, List.set_cons_succ]
    refine wpAnyH_ready (rs := [5]) (by kernel_rfl) (by simp) ?_
    refine AllReadyH.cons rfl (fun KK hK => ?_) AllReadyH.nil
    go_simp
    refine (HFIND2.out _ ((Below.refl _ W0).drew)).mono ?_
    rintro e w2 ⟨i, hi, rfl, hg⟩
    have HI : Hid (FindP l OP i) := hi
    have HB2 : Hid (Below W0.heap.size W0 w2) := hg
    have hc := HC.out w2 hg
    simp only at hc
    clear hi hg
    refine hK.out _ _ hc (fun hHeld => ?_)
    clear hK KK
    try simp only [Act.put, List.getElem_toArray, List.getElem_cons_succ, List.getElem_cons_zero, List.setIfInBounds_toArray, List.set_cons_zero, List.set_cons_succ]
    refine wpAnyH_take (i := 6) (v := ?_) rfl (by kernel_rfl) (by kernel_rfl) (by kernel_rfl) (fun _ _ _ h => h) (Or.inl ⟨by rfl, ?_⟩) (by assumption) ?_
    rotate_left
    · intro W' hSw; obtain ⟨s0, s1, s2, s3, s4, s5, s6, s7⟩ := hSw; go_simp; try with_reducible rfl
    try simp only [Act.put, List.getElem_toArray, List.getElem_cons_succ, List.getElem_cons_zero, List.setIfInBounds_toArray, List.set_cons_zero, List.set_cons_succ]
    refine wpAnyH_take (i := 7) (v := ?_) rfl (by kernel_rfl) (by kernel_rfl) (by kernel_rfl) (fun _ _ _ h => h) (Or.inl ⟨by rfl, ?_⟩) (by assumption) ?_
    rotate_left
    · intro W' hSw; obtain ⟨s0, s1, s2, s3, s4, s5, s6, s7⟩ := hSw; go_simp; try with_reducible rfl
    try simp only [Act.put, List.getElem_toArray, List.getElem_cons_succ, List.getElem_cons_zero, List.setIfInBounds_toArray, List.set_cons_zero, List.set_cons_succ]
    refine wpAnyH_take (i := 8) (v := ?_) rfl (by kernel_rfl) (by kernel_rfl) (by kernel_rfl) (fun _ _ _ h => h) (Or.inl ⟨by rfl, ?_⟩) (by assumption) ?_
    rotate_left
    · intro W' hSw; obtain ⟨s0, s1, s2, s3, s4, s5, s6, s7⟩ := hSw; go_simp; try with_reducible rfl
    try simp only [Act.put, List.getElem_toArray, List.getElem_cons_succ, List.getElem_cons_zero, List.setIfInBounds_toArray, List.set_cons_zero, List.set_cons_succ]
    refine wpAnyH_take (i := 9) (v := ?_) rfl (by kernel_rfl) (by kernel_rfl) (by kernel_rfl) (fun _ _ _ h => h) (Or.inl ⟨by rfl, ?_⟩) (by assumption) ?_
    rotate_left
    · intro W' hSw; obtain ⟨s0, s1, s2, s3, s4, s5, s6, s7⟩ := hSw; go_simp; try with_reducible rfl
    try simp only [Act.put, List.getElem_toArray, List.getElem_cons_succ, List.getElem_cons_zero, List.setIfInBounds_toArray, List.set_cons_zero, List.set_cons_succ]
    refine wpAnyH_ready (rs := [10]) (by kernel_rfl) (by simp) ?_
    refine AllReadyH.cons rfl (fun KK hK => ?_) AllReadyH.nil
    go_simp
    refine hK.out _ _ hHeld (fun hHeld => ?_)
    clear hK KK
    try simp only [Act.put, List.getElem_toArray, List.getElem_cons_succ, List.getElem_cons_zero, List.setIfInBounds_toArray, List.set_cons_zero, List.set_cons_succ]
    refine wpAnyH_done (by kernel_rfl) ?_ _
    refine NoPanic.normal ?_
    clear hHeld
    clear hc
    have hin : i < n := by have := (HI.out.2.2 HZ.out).1; have := HLN.out; omega
    obtain ⟨g, D, o1, rfl, hnc, hgb, ho1, hcp, hrq⟩ := rem_mem HH0.out (HV.out _ HB2.out).2.2 HLN.out hin HI.out HZ.out
    have HEND : Hid (Q ((w2.drew.setCells g (i * 7) D).setCell ⟨bh, 1, none⟩ (.slice (some ⟨g, 0, none⟩) (n - 1) cap))) := HQQ.out _ hrq
    clear hrq
    have c3 : ∀ W, (Instr.slice 22 (.slice (some ⟨g, 0, none⟩) n cap) (some (.int .i64 ((i : Int) + 1))) none none).run Try.prog W = .ok (.slice (some ⟨g, o1, none⟩) (n - (i + 1)) (cap - (i + 1))) W := fun W => by
      have := cutP_from g n cap (i + 1) (by omega) (by omega) W
      rw [← ho1, Int.natCast_add] at this
      exact this
    have c4 : ∀ W, (Instr.slice 22 (.slice (some ⟨g, 0, none⟩) n cap) (some (.int .i64 i)) none none).run Try.prog W = .ok (.slice (some ⟨g, i * 7, none⟩) (n - i) (cap - i)) W := fun W => by
      have := cutP_from g n cap i (by omega) (by omega) W
      rw [if_neg (by omega)] at this
      exact this
    have c5 : ∀ W, (Instr.slice 22 (.slice (some ⟨g, 0, none⟩) n cap) none (some (.int .i64 ((n - 1 : Nat) : Int))) none).run Try.prog W = .ok (.slice (some ⟨g, 0, none⟩) (n - 1) cap) W := fun W => cutP_to _ n cap (n - 1) (by omega) W
    have hw1 : IntKind.i64.wrap ((i : Int) + 1) = (i : Int) + 1 := by rw [IntKind.wrap_i64]; omega
    have hw2 : IntKind.i64.wrap ((i : Int) + ((n - (i + 1) : Nat) : Int)) = ((n - 1 : Nat) : Int) := by rw [IntKind.wrap_i64]; omega
    have hcl : w2.drew.cell? ⟨bh, 1, none⟩ = some (.slice (some ⟨g, 0, none⟩) n cap) := (HV.out _ HB2.out).1.cells.2.1
    have hfz : w2.drew.frozen? ⟨bh, 1, none⟩ = false := (HV.out _ HB2.out).1.cells.2.2
    have HSW : Hid (∀ V : World, V.cell? ⟨bh, 1, none⟩ = some (.slice (some ⟨g, 0, none⟩) n cap) ∧ V.frozen? ⟨bh, 1, none⟩ = false → (V.setCells g (i * 7) D).cell? ⟨bh, 1, none⟩ = some (.slice (some ⟨g, 0, none⟩) n cap) ∧ (V.setCells g (i * 7) D).frozen? ⟨bh, 1, none⟩ = false) := fun V q => ⟨(World.cell?_setCells_out g D (i * 7) V _ (fun e => absurd e.symm hgb)).trans q.1, (World.frozen?_setCells g D (i * 7) V _).trans q.2⟩
    clear ho1 HFIND2
    go_upto_region 3 with fail
    have hcl2 : (w2.drew.setCells g (i * 7) D).cell? ⟨bh, 1, none⟩ = some (.slice (some ⟨g, 0, none⟩) n cap) := (HSW.out _ ⟨hcl, hfz⟩).1
    have hfz2 : (w2.drew.setCells g (i * 7) D).frozen? ⟨bh, 1, none⟩ = false := (HSW.out _ ⟨hcl, hfz⟩).2
    go_region_law (refine step_copy_runI rfl _ _ 22 22 rfl _ _ (by simp [Act.eval, Act.put]) (by simp [Act.eval, Act.put]) (hcp _ _ _) ?_)
    all_goals
      go_wp2
      go_end0
      exact ⟨rfl, HEND.out⟩
end Go.Proofs.Ytcbnmahbdcjamaa
