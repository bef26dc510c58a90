/- The walk of the reference's Add. -/
import Derived.Test.YtcbnmahbdcjamaaHoRf
import Derived.Test.YtcbnmahbdcjamaaBasR
namespace Go.Proofs.Ytcbnmahbdcjamaa
open Go.RowKit Go.Sort
set_option linter.unusedVariables false
set_option linter.unusedSimpArgs false

theorem srcP16 {w : World} {a : Option Addr} {n c : Nat} {l : List Opn} (h : RdP w a n l) (hn : a = none → c = 0) : SrcAt w a n c 7 (flatP l) := by
  have hl := h.1
  refine ⟨by rw [flatP_len]; omega, fun q => ⟨?_, hn q⟩, fun x hx j u hu => ?_, flatP_cells l⟩
  · subst q
    rcases Nat.eq_zero_or_pos n with h0 | h0
    · exact h0
    · obtain ⟨b, off, hb, _⟩ := h.2 h0; cases hb
  · have hp : 0 < n := by
      have := (List.getElem?_eq_some_iff.1 hu).1
      rw [flatP_len] at this
      omega
    obtain ⟨b, off, hb, hc⟩ := h.2 hp
    rw [hx] at hb
    cases hb
    rw [add_lit14]
    exact hc j u hu
theorem srcO16 {w : World} {c : Nat} {o : Opn} (h : w.heap[c]? = some (.cells #[.int .i64 o.c, .int .i64 o.a, .int .i64 o.s, .bool o.ins, .int .i64 o.rc, .int .i64 o.ra, .int .i32 o.ch] 34)) : SrcAt w (some ⟨c, 0, none⟩) 1 1 7 (encP o) := by
  refine ⟨rfl, (fun q => by cases q), fun x hx j u hu => ?_, encP_one o⟩
  cases hx
  rw [add_lit14, Nat.zero_add, cell_of_row w c j _ _ _ h]
  simpa [encP] using hu
/-- What the reference's Add leaves, and answers. -/
def rfA (M : List Opn) (r : Nat) (o : Opn) : List Opn := if hasK M o.a o.s = true then M else if r ≤ M.length then M else M ++ [o]
def rfE (M : List Opn) (r : Nat) (o : Opn) : Int := if hasK M o.a o.s = true then 0 else if r ≤ M.length then 8 else 0
def RfQ (w : World) (B T r : Nat) (M : List Opn) (w' : World) : Prop := ∃ v', RfH w' B T r M v' ∧ Chg w w' (fun k => k = T) ∧ ∀ k, v'.ownBlock = some k → w.heap.size ≤ k
set_option maxRecDepth 100000 in
set_option maxHeartbeats 16000000 in
theorem rf_add_new {B T r : Nat} {M : List Opn} {v : Value} (w : World) (o : Opn) (h : RfH w B T r M v) (hl : M.length ≤ 100000) (hh : hasK M o.a o.s = false) (hr : ¬ r ≤ M.length) :
    Calls Try.prog 47 #[.pointer (some ⟨T, 0, none⟩), o.val] w fun e w' => e = .returned (.int .i64 0) ∧ RfQ w B T r (M ++ [o]) w' := by
  have mixed : Try.prog.follows .mixedOrders = true := by kernel_rfl
  obtain ⟨i0, hi0, hz0, hz1, hz2⟩ := info_parts info_P
  obtain ⟨a, c, rfl, g1, g2, g3, g4⟩ := h.rd
  obtain ⟨n, hn⟩ : ∃ n, n = M.length := ⟨_, rfl⟩
  rw [← hn] at g1 g3 h hl hr
  obtain ⟨U3, hU3⟩ : ∃ U3, U3 = w.alloc (bxP o) := ⟨_, rfl⟩
  obtain ⟨X, hX⟩ : ∃ X, X = w.heap.size := ⟨_, rfl⟩
  have hb3 : Below w.heap.size w U3 := by rw [hU3]; exact (Below.refl _ w).alloc (Nat.le_refl _) _
  have hx3 : U3.heap[X]? = some (bxP o) := by rw [hU3, hX]; exact heap_alloc_new w _
  have h3 := h.later hb3
  have HHAS : Hid (Calls Try.prog 45 #[.pointer (some ⟨T, 0, none⟩), .int .i64 o.a, .int .i64 o.s] U3 fun e w' => e = .returned (.bool false) ∧ w' = U3) := by
    have := rf_has U3 h3 (by omega) o.a o.s
    rw [hh] at this
    exact this
  have hTX : T < X := by rw [hX]; exact (Array.getElem?_eq_some_iff.1 h.box).1
  have HTT : Hid (∀ V, Below U3.heap.size U3 V → V.cell? ⟨T, 1, none⟩ = some (.slice a n c) ∧ V.frozen? ⟨T, 1, none⟩ = false) := fun V hV => (h3.later hV).cells.2
  have HROW : Hid (∀ V, Below U3.heap.size U3 V → SrcAt V a n c 7 (flatP M)) := fun V hV => srcP16 ((g3.later hb3).later hV) g4
  have HEND : Hid (∀ Wy v3, Below U3.heap.size U3 Wy → Wy.ownsRow U3.heap.size 34 7 v3 (n + 1) (flatP (M ++ [o])) → RfQ w B T r (M ++ [o]) (Wy.setCell ⟨T, 1, none⟩ v3)) := fun Wy v3 hb ho => by
    have hc := cg_set Wy T 1 v3
    have hby := hb3.trans (hb.mono hb3.size)
    refine ⟨v3, ⟨h.low, ?_, ?_⟩, cg_trans (cg_below hby (fun k => k = T)) hc (fun _ _ q => q), fun k hk => ?_⟩
    · rw [heap_setX Wy T 1 _ _ _ _ (h3.later hb).box]; simp
    · rw [List.length_append, ← hn]
      refine own_baseK16 (cg_own hc ho (fun k hk q => ?_)) (Nat.le_trans h.low (by have := (Array.getElem?_eq_some_iff.1 h3.box).1; omega))
      have := (ho.lt k hk).1
      have := (Array.getElem?_eq_some_iff.1 h3.box).1
      omega
    · have := (ho.lt k hk).1
      have := hb3.size
      omega
  obtain ⟨q0, q1, q2, q3, q4, q5, q6⟩ := opAt_box hx3
  obtain ⟨k0, k1, _⟩ := h3.cells
  have HSX : Hid (∀ V : World, V.heap[X]? = some (bxP o) → V.cell? ⟨X, 0, none⟩ = some (.int .i64 o.c) ∧ V.cell? ⟨X, 1, none⟩ = some (.int .i64 o.a) ∧ V.cell? ⟨X, 2, none⟩ = some (.int .i64 o.s) ∧ V.cell? ⟨X, 3, none⟩ = some (.bool o.ins) ∧ V.cell? ⟨X, 4, none⟩ = some (.int .i64 o.rc) ∧ V.cell? ⟨X, 5, none⟩ = some (.int .i64 o.ra) ∧ V.cell? ⟨X, 6, none⟩ = some (.int .i32 o.ch)) := fun V hV => opAt_box hV
  have HSSp : Hid (∀ w', Below U3.heap.size U3 w' → w'.cell? ⟨X, 0, none⟩ = some (.int .i64 o.c) ∧ w'.cell? ⟨X, 1, none⟩ = some (.int .i64 o.a) ∧ w'.cell? ⟨X, 2, none⟩ = some (.int .i64 o.s) ∧ w'.cell? ⟨X, 3, none⟩ = some (.bool o.ins) ∧ w'.cell? ⟨X, 4, none⟩ = some (.int .i64 o.rc) ∧ w'.cell? ⟨X, 5, none⟩ = some (.int .i64 o.ra) ∧ w'.cell? ⟨X, 6, none⟩ = some (.int .i32 o.ch)) := fun V hV => HSX.out V (bel_heap hV hx3)
  have HSFp : Hid (∀ w' (v3 : Value), Below U3.heap.size U3 w' → (w'.setCell ⟨T, 1, none⟩ v3).cell? ⟨X, 0, none⟩ = some (.int .i64 o.c) ∧ (w'.setCell ⟨T, 1, none⟩ v3).cell? ⟨X, 1, none⟩ = some (.int .i64 o.a) ∧ (w'.setCell ⟨T, 1, none⟩ v3).cell? ⟨X, 2, none⟩ = some (.int .i64 o.s) ∧ (w'.setCell ⟨T, 1, none⟩ v3).cell? ⟨X, 3, none⟩ = some (.bool o.ins) ∧ (w'.setCell ⟨T, 1, none⟩ v3).cell? ⟨X, 4, none⟩ = some (.int .i64 o.rc) ∧ (w'.setCell ⟨T, 1, none⟩ v3).cell? ⟨X, 5, none⟩ = some (.int .i64 o.ra) ∧ (w'.setCell ⟨T, 1, none⟩ v3).cell? ⟨X, 6, none⟩ = some (.int .i32 o.ch)) := fun V v3 hV => HSX.out _ (cg_heap (cg_set V T 1 v3) (bel_heap hV hx3) (by omega))
  have hrd : decide ((r : Int) ≤ (n : Int)) = false := decide_eq_false (by omega)
  have hrn : ¬ r ≤ n := hr
  have HQ : Hid (∃ Q : List Opn → World → Prop, Q = fun M' => RfQ w B T r M') := ⟨_, rfl⟩
  obtain ⟨Q, hQ⟩ := HQ.out
  have HENQ : Hid (∀ Wy v3, Below U3.heap.size U3 Wy → Wy.ownsRow U3.heap.size 34 7 v3 (n + 1) (flatP (M ++ [o])) → Q (M ++ [o]) (Wy.setCell ⟨T, 1, none⟩ v3)) := by
    rw [hQ]; exact HEND.out
  show Calls _ _ _ _ fun e w' => e = .returned (.int .i64 0) ∧ (fun M' => RfQ w B T r M') (M ++ [o]) w'
  rw [← hQ]
  clear HQ hQ HEND h h3 hb3 hx3 hh hr g3 g4 HSX hn hTX
  obtain ⟨oc, oa, os, oi, orc, ora, och⟩ := o
  simp only [Opn.val] at HHAS HSSp HSFp HENQ q0 q1 q2 q3 q4 q5 q6 ⊢
  have HSS : Hid (type_of% HSSp.out) := HSSp.out
  have HSF : Hid (type_of% HSFp.out) := HSFp.out
  clear HSSp HSFp
  go_enter Try.func47, Try.ntmps47
  go_upto_region 1 with fail
  rw [← hX, ← hU3]
  clear hX hU3
  go_upto_region 3 with (go_at_call 45; refine HHAS.out.mono ?_; rintro e w4 ⟨rfl, h1⟩; have h1 := h1.symm; subst h1)
  go_quiet (fail)
  obtain ⟨W3, hW3⟩ : ∃ W3, W3 = U3.drewN nq := ⟨_, rfl⟩
  have HKEY : Hid (∀ V, Below W3.heap.size W3 V → Below U3.heap.size U3 V) := by
    rw [hW3]
    exact fun V h => ⟨h.os, h.tape, h.output, h.size, h.block⟩
  have HSZ : Hid (U3.heap.size = W3.heap.size) := by rw [hW3]; rfl
  have HTT2 : Hid (∀ V, Below W3.heap.size W3 V → V.cell? ⟨T, 1, none⟩ = some (.slice a n c) ∧ V.frozen? ⟨T, 1, none⟩ = false) := fun V hV => HTT.out V (HKEY.out V hV)
  have HROW2 : Hid (∀ V, Below W3.heap.size W3 V → SrcAt V a n c 7 (flatP M)) := fun V hV => HROW.out V (HKEY.out V hV)
  have HSS2 : Hid (∀ w', Below W3.heap.size W3 w' → w'.cell? ⟨X, 0, none⟩ = some (.int .i64 oc) ∧ w'.cell? ⟨X, 1, none⟩ = some (.int .i64 oa) ∧ w'.cell? ⟨X, 2, none⟩ = some (.int .i64 os) ∧ w'.cell? ⟨X, 3, none⟩ = some (.bool oi) ∧ w'.cell? ⟨X, 4, none⟩ = some (.int .i64 orc) ∧ w'.cell? ⟨X, 5, none⟩ = some (.int .i64 ora) ∧ w'.cell? ⟨X, 6, none⟩ = some (.int .i32 och)) := fun V hV => HSS.out V (HKEY.out V hV)
  have HSF2 : Hid (∀ w' (v3 : Value), Below W3.heap.size W3 w' → (w'.setCell ⟨T, 1, none⟩ v3).cell? ⟨X, 0, none⟩ = some (.int .i64 oc) ∧ (w'.setCell ⟨T, 1, none⟩ v3).cell? ⟨X, 1, none⟩ = some (.int .i64 oa) ∧ (w'.setCell ⟨T, 1, none⟩ v3).cell? ⟨X, 2, none⟩ = some (.int .i64 os) ∧ (w'.setCell ⟨T, 1, none⟩ v3).cell? ⟨X, 3, none⟩ = some (.bool oi) ∧ (w'.setCell ⟨T, 1, none⟩ v3).cell? ⟨X, 4, none⟩ = some (.int .i64 orc) ∧ (w'.setCell ⟨T, 1, none⟩ v3).cell? ⟨X, 5, none⟩ = some (.int .i64 ora) ∧ (w'.setCell ⟨T, 1, none⟩ v3).cell? ⟨X, 6, none⟩ = some (.int .i32 och)) := fun V v3 hV => HSF.out V v3 (HKEY.out V hV)
  have HEND : Hid (∀ Wy v3, Below W3.heap.size W3 Wy → Wy.ownsRow W3.heap.size 34 7 v3 (n + 1) (flatP (M ++ [⟨oc, oa, os, oi, orc, ora, och⟩])) → Q (M ++ [⟨oc, oa, os, oi, orc, ora, och⟩]) (Wy.setCell ⟨T, 1, none⟩ v3)) := fun Wy v3 hb ho => HENQ.out Wy v3 (HKEY.out Wy hb) (by rw [HSZ.out]; exact ho)
  have HEA1 : Hid (∀ x : Obj, Below W3.heap.size W3 (W3.drew.alloc x)) := fun x => (Below.refl _ W3).drew.alloc (Nat.le_refl _) _
  have HEA : Hid (∀ x y : Obj, Below W3.heap.size W3 (W3.drew.alloc x) ∧ Below W3.heap.size W3 ((W3.drew.alloc x).alloc y)) := fun x y => ⟨(Below.refl _ W3).drew.alloc (Nat.le_refl _) _, ((Below.refl _ W3).drew.alloc (Nat.le_refl _) _).alloc (by simp) _⟩
  rw [← hW3]
  clear hW3 HTT HROW HSS HSF HENQ HKEY HSZ HHAS q0 q1 q2 q3 q4 q5 q6 k0 k1
  have HTT : Hid (type_of% HTT2.out) := HTT2.out
  have HROW : Hid (type_of% HROW2.out) := HROW2.out
  have HSS : Hid (type_of% HSS2.out) := HSS2.out
  have HSF : Hid (type_of% HSF2.out) := HSF2.out
  clear HTT2 HROW2 HSS2 HSF2
  go_upto_region 5 with fail
  refine wp_region_noPanic ?_
  refine wp_region_held_drew (S := (fun w' => w'.cell? ⟨X, 0, none⟩ = some (.int .i64 oc) ∧ w'.cell? ⟨X, 1, none⟩ = some (.int .i64 oa) ∧ w'.cell? ⟨X, 2, none⟩ = some (.int .i64 os) ∧ w'.cell? ⟨X, 3, none⟩ = some (.bool oi) ∧ w'.cell? ⟨X, 4, none⟩ = some (.int .i64 orc) ∧ w'.cell? ⟨X, 5, none⟩ = some (.int .i64 ora) ∧ w'.cell? ⟨X, 6, none⟩ = some (.int .i32 och))) (by kernel_rfl) (HSS.out _ (Below.refl _ W3).drew) (fun hHeld => ?_)
  refine wpAnyH_take (i := 0) (v := ?_) rfl (by kernel_rfl) (by kernel_rfl) (by kernel_rfl) (fun _ _ _ h => h) (Or.inl ⟨by rfl, ?_⟩) (by assumption) ?_
  rotate_left
  · intro W' hSw; obtain ⟨t0, t1, t2, t3, t4, t5, t6⟩ := hSw; go_simp; try with_reducible rfl
  try simp only [Act.put, List.getElem_toArray, List.getElem_cons_succ, List.getElem_cons_zero, List.setIfInBounds_toArray, List.set_cons_zero, List.set_cons_succ]
  refine wpAnyH_take (i := 2) (v := ?_) rfl (by kernel_rfl) (by kernel_rfl) (by kernel_rfl) (fun _ _ _ h => h) (Or.inl ⟨by rfl, ?_⟩) (by assumption) ?_
  rotate_left
  · intro W' hSw; obtain ⟨t0, t1, t2, t3, t4, t5, t6⟩ := hSw; go_simp; try with_reducible rfl
  try simp only [Act.put, List.getElem_toArray, List.getElem_cons_succ, List.getElem_cons_zero, List.setIfInBounds_toArray, List.set_cons_zero, List.set_cons_succ]
  refine wpAnyH_take (i := 3) (v := ?_) rfl (by kernel_rfl) (by kernel_rfl) (by kernel_rfl) (fun _ _ _ h => h) (Or.inl ⟨by rfl, ?_⟩) (by assumption) ?_
  rotate_left
  · intro W' hSw; obtain ⟨t0, t1, t2, t3, t4, t5, t6⟩ := hSw; go_simp; try with_reducible rfl
  try simp only [Act.put, List.getElem_toArray, List.getElem_cons_succ, List.getElem_cons_zero, List.setIfInBounds_toArray, List.set_cons_zero, List.set_cons_succ]
  refine wpAnyH_take (i := 4) (v := ?_) rfl (by kernel_rfl) (by kernel_rfl) (by kernel_rfl) (fun _ _ _ h => h) (Or.inl ⟨by rfl, ?_⟩) (by assumption) ?_
  rotate_left
  · intro W' hSw; obtain ⟨t0, t1, t2, t3, t4, t5, t6⟩ := hSw; go_simp; try with_reducible rfl
  try simp only [Act.put, List.getElem_toArray, List.getElem_cons_succ, List.getElem_cons_zero, List.setIfInBounds_toArray, List.set_cons_zero, List.set_cons_succ]
  refine wpAnyH_take (i := 7) (v := ?_) rfl (by kernel_rfl) (by kernel_rfl) (by kernel_rfl) (fun _ _ _ h => h) (Or.inl ⟨by rfl, ?_⟩) (by assumption) ?_
  rotate_left
  · intro W' hSw; obtain ⟨t0, t1, t2, t3, t4, t5, t6⟩ := hSw; go_simp; try with_reducible rfl
  try simp only [Act.put, List.getElem_toArray, List.getElem_cons_succ, List.getElem_cons_zero, List.setIfInBounds_toArray, List.set_cons_zero, List.set_cons_succ]
  refine wpAnyH_ready (rs := [1, 5, 8]) (by kernel_rfl) (by simp) ?_
  refine AllReadyH.cons rfl (fun KK hK => ?_) ?_
  · go_simp
    refine hK.out _ _ (HSS.out _ (HEA1.out _)) (fun hHeld => ?_)
    clear hK KK
    try simp only [Act.put, List.getElem_toArray, List.getElem_cons_succ, List.getElem_cons_zero, List.setIfInBounds_toArray, List.set_cons_zero, List.set_cons_succ]
    refine wpAnyH_ready (rs := [5, 8]) (by kernel_rfl) (by simp) ?_
    refine AllReadyH.cons rfl (fun KK hK => ?_) ?_
    · obtain ⟨hT, -⟩ := HTT.out (W3.drew.alloc (.cells #[] 34)) (HEA1.out _)
      have hT2 : (W3.alloc (.cells #[] 34)).cell? ⟨T, 1, none⟩ = some (.slice a n c) := hT
      have hT3 : (W3.alloc (.cells #[] 34)).drew.cell? ⟨T, 1, none⟩ = some (.slice a n c) := hT
      go_simp
      clear hT hT2 hT3
      refine hK.out _ _ (HSS.out _ (HEA1.out _)) (fun hHeld => ?_)
      clear hK KK
      try simp only [Act.put, List.getElem_toArray, List.getElem_cons_succ, List.getElem_cons_zero, List.setIfInBounds_toArray, List.set_cons_zero, List.set_cons_succ]
      refine wpAnyH_ready (rs := [6, 8]) (by kernel_rfl) (by simp) ?_
      refine AllReadyH.cons rfl (fun KK hK => ?_) ?_
      · have HZ : Hid (Below W3.heap.size W3 (W3.drew.alloc (.cells #[] 34)) ∧ (W3.drew.alloc (.cells #[] 34)).ownsRow W3.heap.size 34 7 (.slice (some ⟨W3.heap.size, 0, none⟩) 0 0) 0 []) := ⟨HEA1.out _, World.ownsRow_made W3.drew #[] 0 (Nat.le_refl _) (by simp [maxLen]) rfl⟩
        refine step_append_src rfl (.tmp 23) (.tmp 27) 22 rfl W3.heap.size 34 i0 op0.val 7 56 Try.underlying22 hi0 hz0 hz1 hz2 rfl (by decide) (.slice (some ⟨W3.heap.size, 0, none⟩) 0 0) 0 _ (by simp [Act.eval]) HZ.out.2 a n c (flatP M) (by simp [Act.eval]) (HROW.out _ HZ.out.1) (by unfold maxLen; omega) (by omega) HZ.out.1.size (fun v2 Wx o2 g2 => ?_)
        have HBx : Hid (Below W3.heap.size W3 Wx) := HZ.out.1.grown g2 HZ.out.1.size (fun j hj => (HZ.out.2.lt j hj).1)
        have HO2 : Hid (Wx.ownsRow W3.heap.size 34 7 v2 n (flatP M)) := by
          show World.ownsRow _ _ _ _ _ _ _
          simpa using o2
        clear o2 g2
        refine hK.out _ _ (HSS.out _ HBx.out) (fun hHeld => ?_)
        clear hK KK
        try simp only [Act.put, List.getElem_toArray, List.getElem_cons_succ, List.getElem_cons_zero, List.setIfInBounds_toArray, List.set_cons_zero, List.set_cons_succ]
        refine wpAnyH_ready (rs := [8]) (by kernel_rfl) (by simp) ?_
        refine AllReadyH.cons rfl (fun KK hK => ?_) ?_
        · go_simp
          refine hK.out _ _ (HSS.out _ (HBx.out.alloc HBx.out.size _)) (fun hHeld => ?_)
          clear hK KK
          try simp only [Act.put, List.getElem_toArray, List.getElem_cons_succ, List.getElem_cons_zero, List.setIfInBounds_toArray, List.set_cons_zero, List.set_cons_succ]
          refine wpAnyH_ready (rs := [9]) (by kernel_rfl) (by simp) ?_
          refine AllReadyH.cons rfl (fun KK hK => ?_) ?_
          · refine step_append_src rfl (.tmp 28) (.tmp 30) 22 rfl W3.heap.size 34 i0 op0.val 7 56 Try.underlying22 hi0 hz0 hz1 hz2 rfl (by decide) v2 n _ (by simp [Act.eval]) (HO2.out.alloc _) (some ⟨Wx.heap.size, 0, none⟩) 1 1 [.int .i64 oc, .int .i64 oa, .int .i64 os, .bool oi, .int .i64 orc, .int .i64 ora, .int .i32 och] (by simp [Act.eval]) (srcO16 (o := ⟨oc, oa, os, oi, orc, ora, och⟩) (heap_alloc_new Wx _)) (by unfold maxLen; omega) (by omega) (HBx.out.alloc HBx.out.size _).size (fun v3 Wy o3 g3 => ?_)
            have HBy : Hid (Below W3.heap.size W3 Wy) := ((HBx.out.alloc HBx.out.size _)).grown g3 ((HBx.out.alloc HBx.out.size _)).size (fun j hj => (HO2.out.lt j hj).1)
            have ho3 : Wy.ownsRow W3.heap.size 34 7 v3 (n + 1) (flatP (M ++ [⟨oc, oa, os, oi, orc, ora, och⟩])) := by
              rw [flatP_app, flatP_one]
              exact o3
            obtain ⟨a3, c3, rfl, _⟩ := rdP_own ho3
            have HR3 : Hid (Wy.ownsRow W3.heap.size 34 7 (.slice a3 (n + 1) c3) (n + 1) (flatP (M ++ [⟨oc, oa, os, oi, orc, ora, och⟩]))) := ho3
            clear o3 g3 ho3
            refine hK.out _ _ (HSS.out _ HBy.out) (fun hHeld => ?_)
            clear hK KK
            try simp only [Act.put, List.getElem_toArray, List.getElem_cons_succ, List.getElem_cons_zero, List.setIfInBounds_toArray, List.set_cons_zero, List.set_cons_succ]
            refine wpAnyH_take (i := 10) (v := ?_) rfl (by kernel_rfl) (by kernel_rfl) (by kernel_rfl) (fun _ _ _ h => h) (Or.inl ⟨by rfl, ?_⟩) (by assumption) ?_
            rotate_left
            · intro W' hSw; obtain ⟨t0, t1, t2, t3, t4, t5, t6⟩ := hSw; go_simp; try with_reducible rfl
            try simp only [Act.put, List.getElem_toArray, List.getElem_cons_succ, List.getElem_cons_zero, List.setIfInBounds_toArray, List.set_cons_zero, List.set_cons_succ]
            refine wpAnyH_take (i := 11) (v := ?_) rfl (by kernel_rfl) (by kernel_rfl) (by kernel_rfl) (fun _ _ _ h => h) (Or.inl ⟨by rfl, ?_⟩) (by assumption) ?_
            rotate_left
            · intro W' hSw; obtain ⟨t0, t1, t2, t3, t4, t5, t6⟩ := hSw; go_simp; try with_reducible rfl
            try simp only [Act.put, List.getElem_toArray, List.getElem_cons_succ, List.getElem_cons_zero, List.setIfInBounds_toArray, List.set_cons_zero, List.set_cons_succ]
            refine wpAnyH_ready (rs := [12]) (by kernel_rfl) (by simp) ?_
            refine AllReadyH.cons rfl (fun KK hK => ?_) AllReadyH.nil
            obtain ⟨hT, hTf⟩ := HTT.out Wy HBy.out
            go_simp
            refine hK.out _ _ (HSF.out _ _ HBy.out) (fun hHeld => ?_)
            clear hK KK
            try simp only [Act.put, List.getElem_toArray, List.getElem_cons_succ, List.getElem_cons_zero, List.setIfInBounds_toArray, List.set_cons_zero, List.set_cons_succ]
            refine wpAnyH_done (by kernel_rfl) ?_ _
            refine NoPanic.normal ?_
            clear hHeld hT hTf
            have HF : Hid (Q (M ++ [⟨oc, oa, os, oi, orc, ora, och⟩]) (Wy.setCell ⟨T, 1, none⟩ (.slice a3 (n + 1) c3))) := HEND.out Wy _ HBy.out HR3.out
            go_wp2
            go_ret
            exact ⟨rfl, HF.out⟩
          exact AllReadyH.nil
        exact AllReadyH.nil
      refine AllReadyH.cons rfl (fun KK hK => ?_) ?_
      · go_simp
        refine hK.out _ _ (HSS.out _ ((HEA.out _ _).2)) (fun hHeld => ?_)
        clear hK KK
        try simp only [Act.put, List.getElem_toArray, List.getElem_cons_succ, List.getElem_cons_zero, List.setIfInBounds_toArray, List.set_cons_zero, List.set_cons_succ]
        refine wpAnyH_ready (rs := [6]) (by kernel_rfl) (by simp) ?_
        refine AllReadyH.cons rfl (fun KK hK => ?_) ?_
        · have HZ : Hid (Below W3.heap.size W3 ((W3.drew.alloc (.cells #[] 34)).alloc (.cells #[.int .i64 oc, .int .i64 oa, .int .i64 os, .bool oi, .int .i64 orc, .int .i64 ora, .int .i32 och] 34)) ∧ ((W3.drew.alloc (.cells #[] 34)).alloc (.cells #[.int .i64 oc, .int .i64 oa, .int .i64 os, .bool oi, .int .i64 orc, .int .i64 ora, .int .i32 och] 34)).ownsRow W3.heap.size 34 7 (.slice (some ⟨W3.heap.size, 0, none⟩) 0 0) 0 []) := ⟨(HEA.out _ _).2, (show (W3.drew.alloc (.cells #[] 34)).ownsRow W3.heap.size 34 7 (.slice (some ⟨W3.heap.size, 0, none⟩) 0 0) 0 [] from World.ownsRow_made W3.drew #[] 0 (Nat.le_refl _) (by simp [maxLen]) rfl).alloc _⟩
          refine step_append_src rfl (.tmp 23) (.tmp 27) 22 rfl W3.heap.size 34 i0 op0.val 7 56 Try.underlying22 hi0 hz0 hz1 hz2 rfl (by decide) (.slice (some ⟨W3.heap.size, 0, none⟩) 0 0) 0 _ (by simp [Act.eval]) HZ.out.2 a n c (flatP M) (by simp [Act.eval]) (HROW.out _ HZ.out.1) (by unfold maxLen; omega) (by omega) HZ.out.1.size (fun v2 Wx o2 g2 => ?_)
          have HBx : Hid (Below W3.heap.size W3 Wx) := HZ.out.1.grown g2 HZ.out.1.size (fun j hj => (HZ.out.2.lt j hj).1)
          have HO2 : Hid (Wx.ownsRow W3.heap.size 34 7 v2 n (flatP M)) := by
            show World.ownsRow _ _ _ _ _ _ _
            simpa using o2
          have HCX : Hid (Wx.heap[W3.heap.size + 1]? = some (.cells #[.int .i64 oc, .int .i64 oa, .int .i64 os, .bool oi, .int .i64 orc, .int .i64 ora, .int .i32 och] 34)) := (g2.block (W3.heap.size + 1) (by simp <;> omega) (fun h => by have h : some (W3.heap.size + 1) = some (W3.heap.size) := h; injection h with h; omega)).trans (by have := heap_alloc_new (W3.drew.alloc (.cells #[] 34)) (.cells #[.int .i64 oc, .int .i64 oa, .int .i64 os, .bool oi, .int .i64 orc, .int .i64 ora, .int .i32 och] 34); rw [World.size_alloc] at this; exact this)
          clear o2 g2
          refine hK.out _ _ (HSS.out _ HBx.out) (fun hHeld => ?_)
          clear hK KK
          try simp only [Act.put, List.getElem_toArray, List.getElem_cons_succ, List.getElem_cons_zero, List.setIfInBounds_toArray, List.set_cons_zero, List.set_cons_succ]
          refine wpAnyH_ready (rs := [9]) (by kernel_rfl) (by simp) ?_
          refine AllReadyH.cons rfl (fun KK hK => ?_) ?_
          · refine step_append_src rfl (.tmp 28) (.tmp 30) 22 rfl W3.heap.size 34 i0 op0.val 7 56 Try.underlying22 hi0 hz0 hz1 hz2 rfl (by decide) v2 n _ (by simp [Act.eval]) HO2.out (some ⟨W3.heap.size + 1, 0, none⟩) 1 1 [.int .i64 oc, .int .i64 oa, .int .i64 os, .bool oi, .int .i64 orc, .int .i64 ora, .int .i32 och] (by simp [Act.eval]) (srcO16 (o := ⟨oc, oa, os, oi, orc, ora, och⟩) HCX.out) (by unfold maxLen; omega) (by omega) HBx.out.size (fun v3 Wy o3 g3 => ?_)
            have HBy : Hid (Below W3.heap.size W3 Wy) := (HBx.out).grown g3 (HBx.out).size (fun j hj => (HO2.out.lt j hj).1)
            have ho3 : Wy.ownsRow W3.heap.size 34 7 v3 (n + 1) (flatP (M ++ [⟨oc, oa, os, oi, orc, ora, och⟩])) := by
              rw [flatP_app, flatP_one]
              exact o3
            obtain ⟨a3, c3, rfl, _⟩ := rdP_own ho3
            have HR3 : Hid (Wy.ownsRow W3.heap.size 34 7 (.slice a3 (n + 1) c3) (n + 1) (flatP (M ++ [⟨oc, oa, os, oi, orc, ora, och⟩]))) := ho3
            clear o3 g3 ho3
            refine hK.out _ _ (HSS.out _ HBy.out) (fun hHeld => ?_)
            clear hK KK
            try simp only [Act.put, List.getElem_toArray, List.getElem_cons_succ, List.getElem_cons_zero, List.setIfInBounds_toArray, List.set_cons_zero, List.set_cons_succ]
            refine wpAnyH_take (i := 10) (v := ?_) rfl (by kernel_rfl) (by kernel_rfl) (by kernel_rfl) (fun _ _ _ h => h) (Or.inl ⟨by rfl, ?_⟩) (by assumption) ?_
            rotate_left
            · intro W' hSw; obtain ⟨t0, t1, t2, t3, t4, t5, t6⟩ := hSw; go_simp; try with_reducible rfl
            try simp only [Act.put, List.getElem_toArray, List.getElem_cons_succ, List.getElem_cons_zero, List.setIfInBounds_toArray, List.set_cons_zero, List.set_cons_succ]
            refine wpAnyH_take (i := 11) (v := ?_) rfl (by kernel_rfl) (by kernel_rfl) (by kernel_rfl) (fun _ _ _ h => h) (Or.inl ⟨by rfl, ?_⟩) (by assumption) ?_
            rotate_left
            · intro W' hSw; obtain ⟨t0, t1, t2, t3, t4, t5, t6⟩ := hSw; go_simp; try with_reducible rfl
            try simp only [Act.put, List.getElem_toArray, List.getElem_cons_succ, List.getElem_cons_zero, List.setIfInBounds_toArray, List.set_cons_zero, List.set_cons_succ]
            refine wpAnyH_ready (rs := [12]) (by kernel_rfl) (by simp) ?_
            refine AllReadyH.cons rfl (fun KK hK => ?_) AllReadyH.nil
            obtain ⟨hT, hTf⟩ := HTT.out Wy HBy.out
            go_simp
            refine hK.out _ _ (HSF.out _ _ HBy.out) (fun hHeld => ?_)
            clear hK KK
            try simp only [Act.put, List.getElem_toArray, List.getElem_cons_succ, List.getElem_cons_zero, List.setIfInBounds_toArray, List.set_cons_zero, List.set_cons_succ]
            refine wpAnyH_done (by kernel_rfl) ?_ _
            refine NoPanic.normal ?_
            clear hHeld hT hTf
            have HF : Hid (Q (M ++ [⟨oc, oa, os, oi, orc, ora, och⟩]) (Wy.setCell ⟨T, 1, none⟩ (.slice a3 (n + 1) c3))) := HEND.out Wy _ HBy.out HR3.out
            go_wp2
            go_ret
            exact ⟨rfl, HF.out⟩
          exact AllReadyH.nil
        exact AllReadyH.nil
      exact AllReadyH.nil
    refine AllReadyH.cons rfl (fun KK hK => ?_) ?_
    · go_simp
      refine hK.out _ _ (HSS.out _ ((HEA.out _ _).2)) (fun hHeld => ?_)
      clear hK KK
      try simp only [Act.put, List.getElem_toArray, List.getElem_cons_succ, List.getElem_cons_zero, List.setIfInBounds_toArray, List.set_cons_zero, List.set_cons_succ]
      refine wpAnyH_ready (rs := [5]) (by kernel_rfl) (by simp) ?_
      refine AllReadyH.cons rfl (fun KK hK => ?_) ?_
      · obtain ⟨hT, -⟩ := HTT.out ((W3.drew.alloc (.cells #[] 34)).alloc (.cells #[.int .i64 oc, .int .i64 oa, .int .i64 os, .bool oi, .int .i64 orc, .int .i64 ora, .int .i32 och] 34)) ((HEA.out _ _).2)
        have hT2 : ((W3.alloc (.cells #[] 34)).alloc (.cells #[.int .i64 oc, .int .i64 oa, .int .i64 os, .bool oi, .int .i64 orc, .int .i64 ora, .int .i32 och] 34)).cell? ⟨T, 1, none⟩ = some (.slice a n c) := hT
        have hT3 : ((W3.alloc (.cells #[] 34)).alloc (.cells #[.int .i64 oc, .int .i64 oa, .int .i64 os, .bool oi, .int .i64 orc, .int .i64 ora, .int .i32 och] 34)).drew.cell? ⟨T, 1, none⟩ = some (.slice a n c) := hT
        go_simp
        clear hT hT2 hT3
        refine hK.out _ _ (HSS.out _ ((HEA.out _ _).2)) (fun hHeld => ?_)
        clear hK KK
        try simp only [Act.put, List.getElem_toArray, List.getElem_cons_succ, List.getElem_cons_zero, List.setIfInBounds_toArray, List.set_cons_zero, List.set_cons_succ]
        refine wpAnyH_ready (rs := [6]) (by kernel_rfl) (by simp) ?_
        refine AllReadyH.cons rfl (fun KK hK => ?_) ?_
        · have HZ : Hid (Below W3.heap.size W3 ((W3.drew.alloc (.cells #[] 34)).alloc (.cells #[.int .i64 oc, .int .i64 oa, .int .i64 os, .bool oi, .int .i64 orc, .int .i64 ora, .int .i32 och] 34)) ∧ ((W3.drew.alloc (.cells #[] 34)).alloc (.cells #[.int .i64 oc, .int .i64 oa, .int .i64 os, .bool oi, .int .i64 orc, .int .i64 ora, .int .i32 och] 34)).ownsRow W3.heap.size 34 7 (.slice (some ⟨W3.heap.size, 0, none⟩) 0 0) 0 []) := ⟨(HEA.out _ _).2, (show (W3.drew.alloc (.cells #[] 34)).ownsRow W3.heap.size 34 7 (.slice (some ⟨W3.heap.size, 0, none⟩) 0 0) 0 [] from World.ownsRow_made W3.drew #[] 0 (Nat.le_refl _) (by simp [maxLen]) rfl).alloc _⟩
          refine step_append_src rfl (.tmp 23) (.tmp 27) 22 rfl W3.heap.size 34 i0 op0.val 7 56 Try.underlying22 hi0 hz0 hz1 hz2 rfl (by decide) (.slice (some ⟨W3.heap.size, 0, none⟩) 0 0) 0 _ (by simp [Act.eval]) HZ.out.2 a n c (flatP M) (by simp [Act.eval]) (HROW.out _ HZ.out.1) (by unfold maxLen; omega) (by omega) HZ.out.1.size (fun v2 Wx o2 g2 => ?_)
          have HBx : Hid (Below W3.heap.size W3 Wx) := HZ.out.1.grown g2 HZ.out.1.size (fun j hj => (HZ.out.2.lt j hj).1)
          have HO2 : Hid (Wx.ownsRow W3.heap.size 34 7 v2 n (flatP M)) := by
            show World.ownsRow _ _ _ _ _ _ _
            simpa using o2
          have HCX : Hid (Wx.heap[W3.heap.size + 1]? = some (.cells #[.int .i64 oc, .int .i64 oa, .int .i64 os, .bool oi, .int .i64 orc, .int .i64 ora, .int .i32 och] 34)) := (g2.block (W3.heap.size + 1) (by simp <;> omega) (fun h => by have h : some (W3.heap.size + 1) = some (W3.heap.size) := h; injection h with h; omega)).trans (by have := heap_alloc_new (W3.drew.alloc (.cells #[] 34)) (.cells #[.int .i64 oc, .int .i64 oa, .int .i64 os, .bool oi, .int .i64 orc, .int .i64 ora, .int .i32 och] 34); rw [World.size_alloc] at this; exact this)
          clear o2 g2
          refine hK.out _ _ (HSS.out _ HBx.out) (fun hHeld => ?_)
          clear hK KK
          try simp only [Act.put, List.getElem_toArray, List.getElem_cons_succ, List.getElem_cons_zero, List.setIfInBounds_toArray, List.set_cons_zero, List.set_cons_succ]
          refine wpAnyH_ready (rs := [9]) (by kernel_rfl) (by simp) ?_
          refine AllReadyH.cons rfl (fun KK hK => ?_) ?_
          · refine step_append_src rfl (.tmp 28) (.tmp 30) 22 rfl W3.heap.size 34 i0 op0.val 7 56 Try.underlying22 hi0 hz0 hz1 hz2 rfl (by decide) v2 n _ (by simp [Act.eval]) HO2.out (some ⟨W3.heap.size + 1, 0, none⟩) 1 1 [.int .i64 oc, .int .i64 oa, .int .i64 os, .bool oi, .int .i64 orc, .int .i64 ora, .int .i32 och] (by simp [Act.eval]) (srcO16 (o := ⟨oc, oa, os, oi, orc, ora, och⟩) HCX.out) (by unfold maxLen; omega) (by omega) HBx.out.size (fun v3 Wy o3 g3 => ?_)
            have HBy : Hid (Below W3.heap.size W3 Wy) := (HBx.out).grown g3 (HBx.out).size (fun j hj => (HO2.out.lt j hj).1)
            have ho3 : Wy.ownsRow W3.heap.size 34 7 v3 (n + 1) (flatP (M ++ [⟨oc, oa, os, oi, orc, ora, och⟩])) := by
              rw [flatP_app, flatP_one]
              exact o3
            obtain ⟨a3, c3, rfl, _⟩ := rdP_own ho3
            have HR3 : Hid (Wy.ownsRow W3.heap.size 34 7 (.slice a3 (n + 1) c3) (n + 1) (flatP (M ++ [⟨oc, oa, os, oi, orc, ora, och⟩]))) := ho3
            clear o3 g3 ho3
            refine hK.out _ _ (HSS.out _ HBy.out) (fun hHeld => ?_)
            clear hK KK
            try simp only [Act.put, List.getElem_toArray, List.getElem_cons_succ, List.getElem_cons_zero, List.setIfInBounds_toArray, List.set_cons_zero, List.set_cons_succ]
            refine wpAnyH_take (i := 10) (v := ?_) rfl (by kernel_rfl) (by kernel_rfl) (by kernel_rfl) (fun _ _ _ h => h) (Or.inl ⟨by rfl, ?_⟩) (by assumption) ?_
            rotate_left
            · intro W' hSw; obtain ⟨t0, t1, t2, t3, t4, t5, t6⟩ := hSw; go_simp; try with_reducible rfl
            try simp only [Act.put, List.getElem_toArray, List.getElem_cons_succ, List.getElem_cons_zero, List.setIfInBounds_toArray, List.set_cons_zero, List.set_cons_succ]
            refine wpAnyH_take (i := 11) (v := ?_) rfl (by kernel_rfl) (by kernel_rfl) (by kernel_rfl) (fun _ _ _ h => h) (Or.inl ⟨by rfl, ?_⟩) (by assumption) ?_
            rotate_left
            · intro W' hSw; obtain ⟨t0, t1, t2, t3, t4, t5, t6⟩ := hSw; go_simp; try with_reducible rfl
            try simp only [Act.put, List.getElem_toArray, List.getElem_cons_succ, List.getElem_cons_zero, List.setIfInBounds_toArray, List.set_cons_zero, List.set_cons_succ]
            refine wpAnyH_ready (rs := [12]) (by kernel_rfl) (by simp) ?_
            refine AllReadyH.cons rfl (fun KK hK => ?_) AllReadyH.nil
            obtain ⟨hT, hTf⟩ := HTT.out Wy HBy.out
            go_simp
            refine hK.out _ _ (HSF.out _ _ HBy.out) (fun hHeld => ?_)
            clear hK KK
            try simp only [Act.put, List.getElem_toArray, List.getElem_cons_succ, List.getElem_cons_zero, List.setIfInBounds_toArray, List.set_cons_zero, List.set_cons_succ]
            refine wpAnyH_done (by kernel_rfl) ?_ _
            refine NoPanic.normal ?_
            clear hHeld hT hTf
            have HF : Hid (Q (M ++ [⟨oc, oa, os, oi, orc, ora, och⟩]) (Wy.setCell ⟨T, 1, none⟩ (.slice a3 (n + 1) c3))) := HEND.out Wy _ HBy.out HR3.out
            go_wp2
            go_ret
            exact ⟨rfl, HF.out⟩
          exact AllReadyH.nil
        exact AllReadyH.nil
      exact AllReadyH.nil
    exact AllReadyH.nil
  refine AllReadyH.cons rfl (fun KK hK => ?_) ?_
  · obtain ⟨hT, -⟩ := HTT.out W3.drew ((Below.refl _ W3).drew)
    have hT2 : W3.cell? ⟨T, 1, none⟩ = some (.slice a n c) := hT
    have hT3 : W3.drew.cell? ⟨T, 1, none⟩ = some (.slice a n c) := hT
    go_simp
    clear hT hT2 hT3
    refine hK.out _ _ (HSS.out _ ((Below.refl _ W3).drew)) (fun hHeld => ?_)
    clear hK KK
    try simp only [Act.put, List.getElem_toArray, List.getElem_cons_succ, List.getElem_cons_zero, List.setIfInBounds_toArray, List.set_cons_zero, List.set_cons_succ]
    refine wpAnyH_ready (rs := [1, 8]) (by kernel_rfl) (by simp) ?_
    refine AllReadyH.cons rfl (fun KK hK => ?_) ?_
    · go_simp
      refine hK.out _ _ (HSS.out _ (HEA1.out _)) (fun hHeld => ?_)
      clear hK KK
      try simp only [Act.put, List.getElem_toArray, List.getElem_cons_succ, List.getElem_cons_zero, List.setIfInBounds_toArray, List.set_cons_zero, List.set_cons_succ]
      refine wpAnyH_ready (rs := [6, 8]) (by kernel_rfl) (by simp) ?_
      refine AllReadyH.cons rfl (fun KK hK => ?_) ?_
      · have HZ : Hid (Below W3.heap.size W3 (W3.drew.alloc (.cells #[] 34)) ∧ (W3.drew.alloc (.cells #[] 34)).ownsRow W3.heap.size 34 7 (.slice (some ⟨W3.heap.size, 0, none⟩) 0 0) 0 []) := ⟨HEA1.out _, World.ownsRow_made W3.drew #[] 0 (Nat.le_refl _) (by simp [maxLen]) rfl⟩
        refine step_append_src rfl (.tmp 23) (.tmp 27) 22 rfl W3.heap.size 34 i0 op0.val 7 56 Try.underlying22 hi0 hz0 hz1 hz2 rfl (by decide) (.slice (some ⟨W3.heap.size, 0, none⟩) 0 0) 0 _ (by simp [Act.eval]) HZ.out.2 a n c (flatP M) (by simp [Act.eval]) (HROW.out _ HZ.out.1) (by unfold maxLen; omega) (by omega) HZ.out.1.size (fun v2 Wx o2 g2 => ?_)
        have HBx : Hid (Below W3.heap.size W3 Wx) := HZ.out.1.grown g2 HZ.out.1.size (fun j hj => (HZ.out.2.lt j hj).1)
        have HO2 : Hid (Wx.ownsRow W3.heap.size 34 7 v2 n (flatP M)) := by
          show World.ownsRow _ _ _ _ _ _ _
          simpa using o2
        clear o2 g2
        refine hK.out _ _ (HSS.out _ HBx.out) (fun hHeld => ?_)
        clear hK KK
        try simp only [Act.put, List.getElem_toArray, List.getElem_cons_succ, List.getElem_cons_zero, List.setIfInBounds_toArray, List.set_cons_zero, List.set_cons_succ]
        refine wpAnyH_ready (rs := [8]) (by kernel_rfl) (by simp) ?_
        refine AllReadyH.cons rfl (fun KK hK => ?_) ?_
        · go_simp
          refine hK.out _ _ (HSS.out _ (HBx.out.alloc HBx.out.size _)) (fun hHeld => ?_)
          clear hK KK
          try simp only [Act.put, List.getElem_toArray, List.getElem_cons_succ, List.getElem_cons_zero, List.setIfInBounds_toArray, List.set_cons_zero, List.set_cons_succ]
          refine wpAnyH_ready (rs := [9]) (by kernel_rfl) (by simp) ?_
          refine AllReadyH.cons rfl (fun KK hK => ?_) ?_
          · refine step_append_src rfl (.tmp 28) (.tmp 30) 22 rfl W3.heap.size 34 i0 op0.val 7 56 Try.underlying22 hi0 hz0 hz1 hz2 rfl (by decide) v2 n _ (by simp [Act.eval]) (HO2.out.alloc _) (some ⟨Wx.heap.size, 0, none⟩) 1 1 [.int .i64 oc, .int .i64 oa, .int .i64 os, .bool oi, .int .i64 orc, .int .i64 ora, .int .i32 och] (by simp [Act.eval]) (srcO16 (o := ⟨oc, oa, os, oi, orc, ora, och⟩) (heap_alloc_new Wx _)) (by unfold maxLen; omega) (by omega) (HBx.out.alloc HBx.out.size _).size (fun v3 Wy o3 g3 => ?_)
            have HBy : Hid (Below W3.heap.size W3 Wy) := ((HBx.out.alloc HBx.out.size _)).grown g3 ((HBx.out.alloc HBx.out.size _)).size (fun j hj => (HO2.out.lt j hj).1)
            have ho3 : Wy.ownsRow W3.heap.size 34 7 v3 (n + 1) (flatP (M ++ [⟨oc, oa, os, oi, orc, ora, och⟩])) := by
              rw [flatP_app, flatP_one]
              exact o3
            obtain ⟨a3, c3, rfl, _⟩ := rdP_own ho3
            have HR3 : Hid (Wy.ownsRow W3.heap.size 34 7 (.slice a3 (n + 1) c3) (n + 1) (flatP (M ++ [⟨oc, oa, os, oi, orc, ora, och⟩]))) := ho3
            clear o3 g3 ho3
            refine hK.out _ _ (HSS.out _ HBy.out) (fun hHeld => ?_)
            clear hK KK
            try simp only [Act.put, List.getElem_toArray, List.getElem_cons_succ, List.getElem_cons_zero, List.setIfInBounds_toArray, List.set_cons_zero, List.set_cons_succ]
            refine wpAnyH_take (i := 10) (v := ?_) rfl (by kernel_rfl) (by kernel_rfl) (by kernel_rfl) (fun _ _ _ h => h) (Or.inl ⟨by rfl, ?_⟩) (by assumption) ?_
            rotate_left
            · intro W' hSw; obtain ⟨t0, t1, t2, t3, t4, t5, t6⟩ := hSw; go_simp; try with_reducible rfl
            try simp only [Act.put, List.getElem_toArray, List.getElem_cons_succ, List.getElem_cons_zero, List.setIfInBounds_toArray, List.set_cons_zero, List.set_cons_succ]
            refine wpAnyH_take (i := 11) (v := ?_) rfl (by kernel_rfl) (by kernel_rfl) (by kernel_rfl) (fun _ _ _ h => h) (Or.inl ⟨by rfl, ?_⟩) (by assumption) ?_
            rotate_left
            · intro W' hSw; obtain ⟨t0, t1, t2, t3, t4, t5, t6⟩ := hSw; go_simp; try with_reducible rfl
            try simp only [Act.put, List.getElem_toArray, List.getElem_cons_succ, List.getElem_cons_zero, List.setIfInBounds_toArray, List.set_cons_zero, List.set_cons_succ]
            refine wpAnyH_ready (rs := [12]) (by kernel_rfl) (by simp) ?_
            refine AllReadyH.cons rfl (fun KK hK => ?_) AllReadyH.nil
            obtain ⟨hT, hTf⟩ := HTT.out Wy HBy.out
            go_simp
            refine hK.out _ _ (HSF.out _ _ HBy.out) (fun hHeld => ?_)
            clear hK KK
            try simp only [Act.put, List.getElem_toArray, List.getElem_cons_succ, List.getElem_cons_zero, List.setIfInBounds_toArray, List.set_cons_zero, List.set_cons_succ]
            refine wpAnyH_done (by kernel_rfl) ?_ _
            refine NoPanic.normal ?_
            clear hHeld hT hTf
            have HF : Hid (Q (M ++ [⟨oc, oa, os, oi, orc, ora, och⟩]) (Wy.setCell ⟨T, 1, none⟩ (.slice a3 (n + 1) c3))) := HEND.out Wy _ HBy.out HR3.out
            go_wp2
            go_ret
            exact ⟨rfl, HF.out⟩
          exact AllReadyH.nil
        exact AllReadyH.nil
      refine AllReadyH.cons rfl (fun KK hK => ?_) ?_
      · go_simp
        refine hK.out _ _ (HSS.out _ ((HEA.out _ _).2)) (fun hHeld => ?_)
        clear hK KK
        try simp only [Act.put, List.getElem_toArray, List.getElem_cons_succ, List.getElem_cons_zero, List.setIfInBounds_toArray, List.set_cons_zero, List.set_cons_succ]
        refine wpAnyH_ready (rs := [6]) (by kernel_rfl) (by simp) ?_
        refine AllReadyH.cons rfl (fun KK hK => ?_) ?_
        · have HZ : Hid (Below W3.heap.size W3 ((W3.drew.alloc (.cells #[] 34)).alloc (.cells #[.int .i64 oc, .int .i64 oa, .int .i64 os, .bool oi, .int .i64 orc, .int .i64 ora, .int .i32 och] 34)) ∧ ((W3.drew.alloc (.cells #[] 34)).alloc (.cells #[.int .i64 oc, .int .i64 oa, .int .i64 os, .bool oi, .int .i64 orc, .int .i64 ora, .int .i32 och] 34)).ownsRow W3.heap.size 34 7 (.slice (some ⟨W3.heap.size, 0, none⟩) 0 0) 0 []) := ⟨(HEA.out _ _).2, (show (W3.drew.alloc (.cells #[] 34)).ownsRow W3.heap.size 34 7 (.slice (some ⟨W3.heap.size, 0, none⟩) 0 0) 0 [] from World.ownsRow_made W3.drew #[] 0 (Nat.le_refl _) (by simp [maxLen]) rfl).alloc _⟩
          refine step_append_src rfl (.tmp 23) (.tmp 27) 22 rfl W3.heap.size 34 i0 op0.val 7 56 Try.underlying22 hi0 hz0 hz1 hz2 rfl (by decide) (.slice (some ⟨W3.heap.size, 0, none⟩) 0 0) 0 _ (by simp [Act.eval]) HZ.out.2 a n c (flatP M) (by simp [Act.eval]) (HROW.out _ HZ.out.1) (by unfold maxLen; omega) (by omega) HZ.out.1.size (fun v2 Wx o2 g2 => ?_)
          have HBx : Hid (Below W3.heap.size W3 Wx) := HZ.out.1.grown g2 HZ.out.1.size (fun j hj => (HZ.out.2.lt j hj).1)
          have HO2 : Hid (Wx.ownsRow W3.heap.size 34 7 v2 n (flatP M)) := by
            show World.ownsRow _ _ _ _ _ _ _
            simpa using o2
          have HCX : Hid (Wx.heap[W3.heap.size + 1]? = some (.cells #[.int .i64 oc, .int .i64 oa, .int .i64 os, .bool oi, .int .i64 orc, .int .i64 ora, .int .i32 och] 34)) := (g2.block (W3.heap.size + 1) (by simp <;> omega) (fun h => by have h : some (W3.heap.size + 1) = some (W3.heap.size) := h; injection h with h; omega)).trans (by have := heap_alloc_new (W3.drew.alloc (.cells #[] 34)) (.cells #[.int .i64 oc, .int .i64 oa, .int .i64 os, .bool oi, .int .i64 orc, .int .i64 ora, .int .i32 och] 34); rw [World.size_alloc] at this; exact this)
          clear o2 g2
          refine hK.out _ _ (HSS.out _ HBx.out) (fun hHeld => ?_)
          clear hK KK
          try simp only [Act.put, List.getElem_toArray, List.getElem_cons_succ, List.getElem_cons_zero, List.setIfInBounds_toArray, List.set_cons_zero, List.set_cons_succ]
          refine wpAnyH_ready (rs := [9]) (by kernel_rfl) (by simp) ?_
          refine AllReadyH.cons rfl (fun KK hK => ?_) ?_
          · refine step_append_src rfl (.tmp 28) (.tmp 30) 22 rfl W3.heap.size 34 i0 op0.val 7 56 Try.underlying22 hi0 hz0 hz1 hz2 rfl (by decide) v2 n _ (by simp [Act.eval]) HO2.out (some ⟨W3.heap.size + 1, 0, none⟩) 1 1 [.int .i64 oc, .int .i64 oa, .int .i64 os, .bool oi, .int .i64 orc, .int .i64 ora, .int .i32 och] (by simp [Act.eval]) (srcO16 (o := ⟨oc, oa, os, oi, orc, ora, och⟩) HCX.out) (by unfold maxLen; omega) (by omega) HBx.out.size (fun v3 Wy o3 g3 => ?_)
            have HBy : Hid (Below W3.heap.size W3 Wy) := (HBx.out).grown g3 (HBx.out).size (fun j hj => (HO2.out.lt j hj).1)
            have ho3 : Wy.ownsRow W3.heap.size 34 7 v3 (n + 1) (flatP (M ++ [⟨oc, oa, os, oi, orc, ora, och⟩])) := by
              rw [flatP_app, flatP_one]
              exact o3
            obtain ⟨a3, c3, rfl, _⟩ := rdP_own ho3
            have HR3 : Hid (Wy.ownsRow W3.heap.size 34 7 (.slice a3 (n + 1) c3) (n + 1) (flatP (M ++ [⟨oc, oa, os, oi, orc, ora, och⟩]))) := ho3
            clear o3 g3 ho3
            refine hK.out _ _ (HSS.out _ HBy.out) (fun hHeld => ?_)
            clear hK KK
            try simp only [Act.put, List.getElem_toArray, List.getElem_cons_succ, List.getElem_cons_zero, List.setIfInBounds_toArray, List.set_cons_zero, List.set_cons_succ]
            refine wpAnyH_take (i := 10) (v := ?_) rfl (by kernel_rfl) (by kernel_rfl) (by kernel_rfl) (fun _ _ _ h => h) (Or.inl ⟨by rfl, ?_⟩) (by assumption) ?_
            rotate_left
            · intro W' hSw; obtain ⟨t0, t1, t2, t3, t4, t5, t6⟩ := hSw; go_simp; try with_reducible rfl
            try simp only [Act.put, List.getElem_toArray, List.getElem_cons_succ, List.getElem_cons_zero, List.setIfInBounds_toArray, List.set_cons_zero, List.set_cons_succ]
            refine wpAnyH_take (i := 11) (v := ?_) rfl (by kernel_rfl) (by kernel_rfl) (by kernel_rfl) (fun _ _ _ h => h) (Or.inl ⟨by rfl, ?_⟩) (by assumption) ?_
            rotate_left
            · intro W' hSw; obtain ⟨t0, t1, t2, t3, t4, t5, t6⟩ := hSw; go_simp; try with_reducible rfl
            try simp only [Act.put, List.getElem_toArray, List.getElem_cons_succ, List.getElem_cons_zero, List.setIfInBounds_toArray, List.set_cons_zero, List.set_cons_succ]
            refine wpAnyH_ready (rs := [12]) (by kernel_rfl) (by simp) ?_
            refine AllReadyH.cons rfl (fun KK hK => ?_) AllReadyH.nil
            obtain ⟨hT, hTf⟩ := HTT.out Wy HBy.out
            go_simp
            refine hK.out _ _ (HSF.out _ _ HBy.out) (fun hHeld => ?_)
            clear hK KK
            try simp only [Act.put, List.getElem_toArray, List.getElem_cons_succ, List.getElem_cons_zero, List.setIfInBounds_toArray, List.set_cons_zero, List.set_cons_succ]
            refine wpAnyH_done (by kernel_rfl) ?_ _
            refine NoPanic.normal ?_
            clear hHeld hT hTf
            have HF : Hid (Q (M ++ [⟨oc, oa, os, oi, orc, ora, och⟩]) (Wy.setCell ⟨T, 1, none⟩ (.slice a3 (n + 1) c3))) := HEND.out Wy _ HBy.out HR3.out
            go_wp2
            go_ret
            exact ⟨rfl, HF.out⟩
          exact AllReadyH.nil
        exact AllReadyH.nil
      exact AllReadyH.nil
    refine AllReadyH.cons rfl (fun KK hK => ?_) ?_
    · go_simp
      refine hK.out _ _ (HSS.out _ (HEA1.out _)) (fun hHeld => ?_)
      clear hK KK
      try simp only [Act.put, List.getElem_toArray, List.getElem_cons_succ, List.getElem_cons_zero, List.setIfInBounds_toArray, List.set_cons_zero, List.set_cons_succ]
      refine wpAnyH_ready (rs := [1]) (by kernel_rfl) (by simp) ?_
      refine AllReadyH.cons rfl (fun KK hK => ?_) ?_
      · go_simp
        refine hK.out _ _ (HSS.out _ ((HEA.out _ _).2)) (fun hHeld => ?_)
        clear hK KK
        try simp only [Act.put, List.getElem_toArray, List.getElem_cons_succ, List.getElem_cons_zero, List.setIfInBounds_toArray, List.set_cons_zero, List.set_cons_succ]
        refine wpAnyH_ready (rs := [6]) (by kernel_rfl) (by simp) ?_
        refine AllReadyH.cons rfl (fun KK hK => ?_) ?_
        · have HZ : Hid (Below W3.heap.size W3 ((W3.drew.alloc (.cells #[.int .i64 oc, .int .i64 oa, .int .i64 os, .bool oi, .int .i64 orc, .int .i64 ora, .int .i32 och] 34)).alloc (.cells #[] 34)) ∧ ((W3.drew.alloc (.cells #[.int .i64 oc, .int .i64 oa, .int .i64 os, .bool oi, .int .i64 orc, .int .i64 ora, .int .i32 och] 34)).alloc (.cells #[] 34)).ownsRow W3.heap.size 34 7 (.slice (some ⟨W3.heap.size + 1, 0, none⟩) 0 0) 0 []) := ⟨(HEA.out _ _).2, by
            have h : ((W3.drew.alloc (.cells #[.int .i64 oc, .int .i64 oa, .int .i64 os, .bool oi, .int .i64 orc, .int .i64 ora, .int .i32 och] 34)).alloc (.cells #[] 34)).ownsRow W3.heap.size 34 7 (.slice (some ⟨(W3.drew.alloc (.cells #[.int .i64 oc, .int .i64 oa, .int .i64 os, .bool oi, .int .i64 orc, .int .i64 ora, .int .i32 och] 34)).heap.size, 0, none⟩) 0 0) 0 [] := World.ownsRow_made (W3.drew.alloc (.cells #[.int .i64 oc, .int .i64 oa, .int .i64 os, .bool oi, .int .i64 orc, .int .i64 ora, .int .i32 och] 34)) #[] 0 (by simp) (by simp [maxLen]) rfl
            rw [World.size_alloc] at h
            exact h⟩
          refine step_append_src rfl (.tmp 23) (.tmp 27) 22 rfl W3.heap.size 34 i0 op0.val 7 56 Try.underlying22 hi0 hz0 hz1 hz2 rfl (by decide) (.slice (some ⟨W3.heap.size + 1, 0, none⟩) 0 0) 0 _ (by simp [Act.eval]) HZ.out.2 a n c (flatP M) (by simp [Act.eval]) (HROW.out _ HZ.out.1) (by unfold maxLen; omega) (by omega) HZ.out.1.size (fun v2 Wx o2 g2 => ?_)
          have HBx : Hid (Below W3.heap.size W3 Wx) := HZ.out.1.grown g2 HZ.out.1.size (fun j hj => (HZ.out.2.lt j hj).1)
          have HO2 : Hid (Wx.ownsRow W3.heap.size 34 7 v2 n (flatP M)) := by
            show World.ownsRow _ _ _ _ _ _ _
            simpa using o2
          have HCX : Hid (Wx.heap[W3.heap.size]? = some (.cells #[.int .i64 oc, .int .i64 oa, .int .i64 os, .bool oi, .int .i64 orc, .int .i64 ora, .int .i32 och] 34)) := (g2.block (W3.heap.size) (by simp <;> omega) (fun h => by have h : some (W3.heap.size) = some (W3.heap.size + 1) := h; injection h with h; omega)).trans ((((Below.refl _ _).alloc (Nat.le_refl _) _).block W3.heap.size (by simp)).trans (heap_alloc_new W3.drew (.cells #[.int .i64 oc, .int .i64 oa, .int .i64 os, .bool oi, .int .i64 orc, .int .i64 ora, .int .i32 och] 34)))
          clear o2 g2
          refine hK.out _ _ (HSS.out _ HBx.out) (fun hHeld => ?_)
          clear hK KK
          try simp only [Act.put, List.getElem_toArray, List.getElem_cons_succ, List.getElem_cons_zero, List.setIfInBounds_toArray, List.set_cons_zero, List.set_cons_succ]
          refine wpAnyH_ready (rs := [9]) (by kernel_rfl) (by simp) ?_
          refine AllReadyH.cons rfl (fun KK hK => ?_) ?_
          · refine step_append_src rfl (.tmp 28) (.tmp 30) 22 rfl W3.heap.size 34 i0 op0.val 7 56 Try.underlying22 hi0 hz0 hz1 hz2 rfl (by decide) v2 n _ (by simp [Act.eval]) HO2.out (some ⟨W3.heap.size, 0, none⟩) 1 1 [.int .i64 oc, .int .i64 oa, .int .i64 os, .bool oi, .int .i64 orc, .int .i64 ora, .int .i32 och] (by simp [Act.eval]) (srcO16 (o := ⟨oc, oa, os, oi, orc, ora, och⟩) HCX.out) (by unfold maxLen; omega) (by omega) HBx.out.size (fun v3 Wy o3 g3 => ?_)
            have HBy : Hid (Below W3.heap.size W3 Wy) := (HBx.out).grown g3 (HBx.out).size (fun j hj => (HO2.out.lt j hj).1)
            have ho3 : Wy.ownsRow W3.heap.size 34 7 v3 (n + 1) (flatP (M ++ [⟨oc, oa, os, oi, orc, ora, och⟩])) := by
              rw [flatP_app, flatP_one]
              exact o3
            obtain ⟨a3, c3, rfl, _⟩ := rdP_own ho3
            have HR3 : Hid (Wy.ownsRow W3.heap.size 34 7 (.slice a3 (n + 1) c3) (n + 1) (flatP (M ++ [⟨oc, oa, os, oi, orc, ora, och⟩]))) := ho3
            clear o3 g3 ho3
            refine hK.out _ _ (HSS.out _ HBy.out) (fun hHeld => ?_)
            clear hK KK
            try simp only [Act.put, List.getElem_toArray, List.getElem_cons_succ, List.getElem_cons_zero, List.setIfInBounds_toArray, List.set_cons_zero, List.set_cons_succ]
            refine wpAnyH_take (i := 10) (v := ?_) rfl (by kernel_rfl) (by kernel_rfl) (by kernel_rfl) (fun _ _ _ h => h) (Or.inl ⟨by rfl, ?_⟩) (by assumption) ?_
            rotate_left
            · intro W' hSw; obtain ⟨t0, t1, t2, t3, t4, t5, t6⟩ := hSw; go_simp; try with_reducible rfl
            try simp only [Act.put, List.getElem_toArray, List.getElem_cons_succ, List.getElem_cons_zero, List.setIfInBounds_toArray, List.set_cons_zero, List.set_cons_succ]
            refine wpAnyH_take (i := 11) (v := ?_) rfl (by kernel_rfl) (by kernel_rfl) (by kernel_rfl) (fun _ _ _ h => h) (Or.inl ⟨by rfl, ?_⟩) (by assumption) ?_
            rotate_left
            · intro W' hSw; obtain ⟨t0, t1, t2, t3, t4, t5, t6⟩ := hSw; go_simp; try with_reducible rfl
            try simp only [Act.put, List.getElem_toArray, List.getElem_cons_succ, List.getElem_cons_zero, List.setIfInBounds_toArray, List.set_cons_zero, List.set_cons_succ]
            refine wpAnyH_ready (rs := [12]) (by kernel_rfl) (by simp) ?_
            refine AllReadyH.cons rfl (fun KK hK => ?_) AllReadyH.nil
            obtain ⟨hT, hTf⟩ := HTT.out Wy HBy.out
            go_simp
            refine hK.out _ _ (HSF.out _ _ HBy.out) (fun hHeld => ?_)
            clear hK KK
            try simp only [Act.put, List.getElem_toArray, List.getElem_cons_succ, List.getElem_cons_zero, List.setIfInBounds_toArray, List.set_cons_zero, List.set_cons_succ]
            refine wpAnyH_done (by kernel_rfl) ?_ _
            refine NoPanic.normal ?_
            clear hHeld hT hTf
            have HF : Hid (Q (M ++ [⟨oc, oa, os, oi, orc, ora, och⟩]) (Wy.setCell ⟨T, 1, none⟩ (.slice a3 (n + 1) c3))) := HEND.out Wy _ HBy.out HR3.out
            go_wp2
            go_ret
            exact ⟨rfl, HF.out⟩
          exact AllReadyH.nil
        exact AllReadyH.nil
      exact AllReadyH.nil
    exact AllReadyH.nil
  refine AllReadyH.cons rfl (fun KK hK => ?_) ?_
  · go_simp
    refine hK.out _ _ (HSS.out _ (HEA1.out _)) (fun hHeld => ?_)
    clear hK KK
    try simp only [Act.put, List.getElem_toArray, List.getElem_cons_succ, List.getElem_cons_zero, List.setIfInBounds_toArray, List.set_cons_zero, List.set_cons_succ]
    refine wpAnyH_ready (rs := [1, 5]) (by kernel_rfl) (by simp) ?_
    refine AllReadyH.cons rfl (fun KK hK => ?_) ?_
    · go_simp
      refine hK.out _ _ (HSS.out _ ((HEA.out _ _).2)) (fun hHeld => ?_)
      clear hK KK
      try simp only [Act.put, List.getElem_toArray, List.getElem_cons_succ, List.getElem_cons_zero, List.setIfInBounds_toArray, List.set_cons_zero, List.set_cons_succ]
      refine wpAnyH_ready (rs := [5]) (by kernel_rfl) (by simp) ?_
      refine AllReadyH.cons rfl (fun KK hK => ?_) ?_
      · obtain ⟨hT, -⟩ := HTT.out ((W3.drew.alloc (.cells #[.int .i64 oc, .int .i64 oa, .int .i64 os, .bool oi, .int .i64 orc, .int .i64 ora, .int .i32 och] 34)).alloc (.cells #[] 34)) ((HEA.out _ _).2)
        have hT2 : ((W3.alloc (.cells #[.int .i64 oc, .int .i64 oa, .int .i64 os, .bool oi, .int .i64 orc, .int .i64 ora, .int .i32 och] 34)).alloc (.cells #[] 34)).cell? ⟨T, 1, none⟩ = some (.slice a n c) := hT
        have hT3 : ((W3.alloc (.cells #[.int .i64 oc, .int .i64 oa, .int .i64 os, .bool oi, .int .i64 orc, .int .i64 ora, .int .i32 och] 34)).alloc (.cells #[] 34)).drew.cell? ⟨T, 1, none⟩ = some (.slice a n c) := hT
        go_simp
        clear hT hT2 hT3
        refine hK.out _ _ (HSS.out _ ((HEA.out _ _).2)) (fun hHeld => ?_)
        clear hK KK
        try simp only [Act.put, List.getElem_toArray, List.getElem_cons_succ, List.getElem_cons_zero, List.setIfInBounds_toArray, List.set_cons_zero, List.set_cons_succ]
        refine wpAnyH_ready (rs := [6]) (by kernel_rfl) (by simp) ?_
        refine AllReadyH.cons rfl (fun KK hK => ?_) ?_
        · have HZ : Hid (Below W3.heap.size W3 ((W3.drew.alloc (.cells #[.int .i64 oc, .int .i64 oa, .int .i64 os, .bool oi, .int .i64 orc, .int .i64 ora, .int .i32 och] 34)).alloc (.cells #[] 34)) ∧ ((W3.drew.alloc (.cells #[.int .i64 oc, .int .i64 oa, .int .i64 os, .bool oi, .int .i64 orc, .int .i64 ora, .int .i32 och] 34)).alloc (.cells #[] 34)).ownsRow W3.heap.size 34 7 (.slice (some ⟨W3.heap.size + 1, 0, none⟩) 0 0) 0 []) := ⟨(HEA.out _ _).2, by
            have h : ((W3.drew.alloc (.cells #[.int .i64 oc, .int .i64 oa, .int .i64 os, .bool oi, .int .i64 orc, .int .i64 ora, .int .i32 och] 34)).alloc (.cells #[] 34)).ownsRow W3.heap.size 34 7 (.slice (some ⟨(W3.drew.alloc (.cells #[.int .i64 oc, .int .i64 oa, .int .i64 os, .bool oi, .int .i64 orc, .int .i64 ora, .int .i32 och] 34)).heap.size, 0, none⟩) 0 0) 0 [] := World.ownsRow_made (W3.drew.alloc (.cells #[.int .i64 oc, .int .i64 oa, .int .i64 os, .bool oi, .int .i64 orc, .int .i64 ora, .int .i32 och] 34)) #[] 0 (by simp) (by simp [maxLen]) rfl
            rw [World.size_alloc] at h
            exact h⟩
          refine step_append_src rfl (.tmp 23) (.tmp 27) 22 rfl W3.heap.size 34 i0 op0.val 7 56 Try.underlying22 hi0 hz0 hz1 hz2 rfl (by decide) (.slice (some ⟨W3.heap.size + 1, 0, none⟩) 0 0) 0 _ (by simp [Act.eval]) HZ.out.2 a n c (flatP M) (by simp [Act.eval]) (HROW.out _ HZ.out.1) (by unfold maxLen; omega) (by omega) HZ.out.1.size (fun v2 Wx o2 g2 => ?_)
          have HBx : Hid (Below W3.heap.size W3 Wx) := HZ.out.1.grown g2 HZ.out.1.size (fun j hj => (HZ.out.2.lt j hj).1)
          have HO2 : Hid (Wx.ownsRow W3.heap.size 34 7 v2 n (flatP M)) := by
            show World.ownsRow _ _ _ _ _ _ _
            simpa using o2
          have HCX : Hid (Wx.heap[W3.heap.size]? = some (.cells #[.int .i64 oc, .int .i64 oa, .int .i64 os, .bool oi, .int .i64 orc, .int .i64 ora, .int .i32 och] 34)) := (g2.block (W3.heap.size) (by simp <;> omega) (fun h => by have h : some (W3.heap.size) = some (W3.heap.size + 1) := h; injection h with h; omega)).trans ((((Below.refl _ _).alloc (Nat.le_refl _) _).block W3.heap.size (by simp)).trans (heap_alloc_new W3.drew (.cells #[.int .i64 oc, .int .i64 oa, .int .i64 os, .bool oi, .int .i64 orc, .int .i64 ora, .int .i32 och] 34)))
          clear o2 g2
          refine hK.out _ _ (HSS.out _ HBx.out) (fun hHeld => ?_)
          clear hK KK
          try simp only [Act.put, List.getElem_toArray, List.getElem_cons_succ, List.getElem_cons_zero, List.setIfInBounds_toArray, List.set_cons_zero, List.set_cons_succ]
          refine wpAnyH_ready (rs := [9]) (by kernel_rfl) (by simp) ?_
          refine AllReadyH.cons rfl (fun KK hK => ?_) ?_
          · refine step_append_src rfl (.tmp 28) (.tmp 30) 22 rfl W3.heap.size 34 i0 op0.val 7 56 Try.underlying22 hi0 hz0 hz1 hz2 rfl (by decide) v2 n _ (by simp [Act.eval]) HO2.out (some ⟨W3.heap.size, 0, none⟩) 1 1 [.int .i64 oc, .int .i64 oa, .int .i64 os, .bool oi, .int .i64 orc, .int .i64 ora, .int .i32 och] (by simp [Act.eval]) (srcO16 (o := ⟨oc, oa, os, oi, orc, ora, och⟩) HCX.out) (by unfold maxLen; omega) (by omega) HBx.out.size (fun v3 Wy o3 g3 => ?_)
            have HBy : Hid (Below W3.heap.size W3 Wy) := (HBx.out).grown g3 (HBx.out).size (fun j hj => (HO2.out.lt j hj).1)
            have ho3 : Wy.ownsRow W3.heap.size 34 7 v3 (n + 1) (flatP (M ++ [⟨oc, oa, os, oi, orc, ora, och⟩])) := by
              rw [flatP_app, flatP_one]
              exact o3
            obtain ⟨a3, c3, rfl, _⟩ := rdP_own ho3
            have HR3 : Hid (Wy.ownsRow W3.heap.size 34 7 (.slice a3 (n + 1) c3) (n + 1) (flatP (M ++ [⟨oc, oa, os, oi, orc, ora, och⟩]))) := ho3
            clear o3 g3 ho3
            refine hK.out _ _ (HSS.out _ HBy.out) (fun hHeld => ?_)
            clear hK KK
            try simp only [Act.put, List.getElem_toArray, List.getElem_cons_succ, List.getElem_cons_zero, List.setIfInBounds_toArray, List.set_cons_zero, List.set_cons_succ]
            refine wpAnyH_take (i := 10) (v := ?_) rfl (by kernel_rfl) (by kernel_rfl) (by kernel_rfl) (fun _ _ _ h => h) (Or.inl ⟨by rfl, ?_⟩) (by assumption) ?_
            rotate_left
            · intro W' hSw; obtain ⟨t0, t1, t2, t3, t4, t5, t6⟩ := hSw; go_simp; try with_reducible rfl
            try simp only [Act.put, List.getElem_toArray, List.getElem_cons_succ, List.getElem_cons_zero, List.setIfInBounds_toArray, List.set_cons_zero, List.set_cons_succ]
            refine wpAnyH_take (i := 11) (v := ?_) rfl (by kernel_rfl) (by kernel_rfl) (by kernel_rfl) (fun _ _ _ h => h) (Or.inl ⟨by rfl, ?_⟩) (by assumption) ?_
            rotate_left
            · intro W' hSw; obtain ⟨t0, t1, t2, t3, t4, t5, t6⟩ := hSw; go_simp; try with_reducible rfl
            try simp only [Act.put, List.getElem_toArray, List.getElem_cons_succ, List.getElem_cons_zero, List.setIfInBounds_toArray, List.set_cons_zero, List.set_cons_succ]
            refine wpAnyH_ready (rs := [12]) (by kernel_rfl) (by simp) ?_
            refine AllReadyH.cons rfl (fun KK hK => ?_) AllReadyH.nil
            obtain ⟨hT, hTf⟩ := HTT.out Wy HBy.out
            go_simp
            refine hK.out _ _ (HSF.out _ _ HBy.out) (fun hHeld => ?_)
            clear hK KK
            try simp only [Act.put, List.getElem_toArray, List.getElem_cons_succ, List.getElem_cons_zero, List.setIfInBounds_toArray, List.set_cons_zero, List.set_cons_succ]
            refine wpAnyH_done (by kernel_rfl) ?_ _
            refine NoPanic.normal ?_
            clear hHeld hT hTf
            have HF : Hid (Q (M ++ [⟨oc, oa, os, oi, orc, ora, och⟩]) (Wy.setCell ⟨T, 1, none⟩ (.slice a3 (n + 1) c3))) := HEND.out Wy _ HBy.out HR3.out
            go_wp2
            go_ret
            exact ⟨rfl, HF.out⟩
          exact AllReadyH.nil
        exact AllReadyH.nil
      exact AllReadyH.nil
    refine AllReadyH.cons rfl (fun KK hK => ?_) ?_
    · obtain ⟨hT, -⟩ := HTT.out (W3.drew.alloc (.cells #[.int .i64 oc, .int .i64 oa, .int .i64 os, .bool oi, .int .i64 orc, .int .i64 ora, .int .i32 och] 34)) (HEA1.out _)
      have hT2 : (W3.alloc (.cells #[.int .i64 oc, .int .i64 oa, .int .i64 os, .bool oi, .int .i64 orc, .int .i64 ora, .int .i32 och] 34)).cell? ⟨T, 1, none⟩ = some (.slice a n c) := hT
      have hT3 : (W3.alloc (.cells #[.int .i64 oc, .int .i64 oa, .int .i64 os, .bool oi, .int .i64 orc, .int .i64 ora, .int .i32 och] 34)).drew.cell? ⟨T, 1, none⟩ = some (.slice a n c) := hT
      go_simp
      clear hT hT2 hT3
      refine hK.out _ _ (HSS.out _ (HEA1.out _)) (fun hHeld => ?_)
      clear hK KK
      try simp only [Act.put, List.getElem_toArray, List.getElem_cons_succ, List.getElem_cons_zero, List.setIfInBounds_toArray, List.set_cons_zero, List.set_cons_succ]
      refine wpAnyH_ready (rs := [1]) (by kernel_rfl) (by simp) ?_
      refine AllReadyH.cons rfl (fun KK hK => ?_) ?_
      · go_simp
        refine hK.out _ _ (HSS.out _ ((HEA.out _ _).2)) (fun hHeld => ?_)
        clear hK KK
        try simp only [Act.put, List.getElem_toArray, List.getElem_cons_succ, List.getElem_cons_zero, List.setIfInBounds_toArray, List.set_cons_zero, List.set_cons_succ]
        refine wpAnyH_ready (rs := [6]) (by kernel_rfl) (by simp) ?_
        refine AllReadyH.cons rfl (fun KK hK => ?_) ?_
        · have HZ : Hid (Below W3.heap.size W3 ((W3.drew.alloc (.cells #[.int .i64 oc, .int .i64 oa, .int .i64 os, .bool oi, .int .i64 orc, .int .i64 ora, .int .i32 och] 34)).alloc (.cells #[] 34)) ∧ ((W3.drew.alloc (.cells #[.int .i64 oc, .int .i64 oa, .int .i64 os, .bool oi, .int .i64 orc, .int .i64 ora, .int .i32 och] 34)).alloc (.cells #[] 34)).ownsRow W3.heap.size 34 7 (.slice (some ⟨W3.heap.size + 1, 0, none⟩) 0 0) 0 []) := ⟨(HEA.out _ _).2, by
            have h : ((W3.drew.alloc (.cells #[.int .i64 oc, .int .i64 oa, .int .i64 os, .bool oi, .int .i64 orc, .int .i64 ora, .int .i32 och] 34)).alloc (.cells #[] 34)).ownsRow W3.heap.size 34 7 (.slice (some ⟨(W3.drew.alloc (.cells #[.int .i64 oc, .int .i64 oa, .int .i64 os, .bool oi, .int .i64 orc, .int .i64 ora, .int .i32 och] 34)).heap.size, 0, none⟩) 0 0) 0 [] := World.ownsRow_made (W3.drew.alloc (.cells #[.int .i64 oc, .int .i64 oa, .int .i64 os, .bool oi, .int .i64 orc, .int .i64 ora, .int .i32 och] 34)) #[] 0 (by simp) (by simp [maxLen]) rfl
            rw [World.size_alloc] at h
            exact h⟩
          refine step_append_src rfl (.tmp 23) (.tmp 27) 22 rfl W3.heap.size 34 i0 op0.val 7 56 Try.underlying22 hi0 hz0 hz1 hz2 rfl (by decide) (.slice (some ⟨W3.heap.size + 1, 0, none⟩) 0 0) 0 _ (by simp [Act.eval]) HZ.out.2 a n c (flatP M) (by simp [Act.eval]) (HROW.out _ HZ.out.1) (by unfold maxLen; omega) (by omega) HZ.out.1.size (fun v2 Wx o2 g2 => ?_)
          have HBx : Hid (Below W3.heap.size W3 Wx) := HZ.out.1.grown g2 HZ.out.1.size (fun j hj => (HZ.out.2.lt j hj).1)
          have HO2 : Hid (Wx.ownsRow W3.heap.size 34 7 v2 n (flatP M)) := by
            show World.ownsRow _ _ _ _ _ _ _
            simpa using o2
          have HCX : Hid (Wx.heap[W3.heap.size]? = some (.cells #[.int .i64 oc, .int .i64 oa, .int .i64 os, .bool oi, .int .i64 orc, .int .i64 ora, .int .i32 och] 34)) := (g2.block (W3.heap.size) (by simp <;> omega) (fun h => by have h : some (W3.heap.size) = some (W3.heap.size + 1) := h; injection h with h; omega)).trans ((((Below.refl _ _).alloc (Nat.le_refl _) _).block W3.heap.size (by simp)).trans (heap_alloc_new W3.drew (.cells #[.int .i64 oc, .int .i64 oa, .int .i64 os, .bool oi, .int .i64 orc, .int .i64 ora, .int .i32 och] 34)))
          clear o2 g2
          refine hK.out _ _ (HSS.out _ HBx.out) (fun hHeld => ?_)
          clear hK KK
          try simp only [Act.put, List.getElem_toArray, List.getElem_cons_succ, List.getElem_cons_zero, List.setIfInBounds_toArray, List.set_cons_zero, List.set_cons_succ]
          refine wpAnyH_ready (rs := [9]) (by kernel_rfl) (by simp) ?_
          refine AllReadyH.cons rfl (fun KK hK => ?_) ?_
          · refine step_append_src rfl (.tmp 28) (.tmp 30) 22 rfl W3.heap.size 34 i0 op0.val 7 56 Try.underlying22 hi0 hz0 hz1 hz2 rfl (by decide) v2 n _ (by simp [Act.eval]) HO2.out (some ⟨W3.heap.size, 0, none⟩) 1 1 [.int .i64 oc, .int .i64 oa, .int .i64 os, .bool oi, .int .i64 orc, .int .i64 ora, .int .i32 och] (by simp [Act.eval]) (srcO16 (o := ⟨oc, oa, os, oi, orc, ora, och⟩) HCX.out) (by unfold maxLen; omega) (by omega) HBx.out.size (fun v3 Wy o3 g3 => ?_)
            have HBy : Hid (Below W3.heap.size W3 Wy) := (HBx.out).grown g3 (HBx.out).size (fun j hj => (HO2.out.lt j hj).1)
            have ho3 : Wy.ownsRow W3.heap.size 34 7 v3 (n + 1) (flatP (M ++ [⟨oc, oa, os, oi, orc, ora, och⟩])) := by
              rw [flatP_app, flatP_one]
              exact o3
            obtain ⟨a3, c3, rfl, _⟩ := rdP_own ho3
            have HR3 : Hid (Wy.ownsRow W3.heap.size 34 7 (.slice a3 (n + 1) c3) (n + 1) (flatP (M ++ [⟨oc, oa, os, oi, orc, ora, och⟩]))) := ho3
            clear o3 g3 ho3
            refine hK.out _ _ (HSS.out _ HBy.out) (fun hHeld => ?_)
            clear hK KK
            try simp only [Act.put, List.getElem_toArray, List.getElem_cons_succ, List.getElem_cons_zero, List.setIfInBounds_toArray, List.set_cons_zero, List.set_cons_succ]
            refine wpAnyH_take (i := 10) (v := ?_) rfl (by kernel_rfl) (by kernel_rfl) (by kernel_rfl) (fun _ _ _ h => h) (Or.inl ⟨by rfl, ?_⟩) (by assumption) ?_
            rotate_left
            · intro W' hSw; obtain ⟨t0, t1, t2, t3, t4, t5, t6⟩ := hSw; go_simp; try with_reducible rfl
            try simp only [Act.put, List.getElem_toArray, List.getElem_cons_succ, List.getElem_cons_zero, List.setIfInBounds_toArray, List.set_cons_zero, List.set_cons_succ]
            refine wpAnyH_take (i := 11) (v := ?_) rfl (by kernel_rfl) (by kernel_rfl) (by kernel_rfl) (fun _ _ _ h => h) (Or.inl ⟨by rfl, ?_⟩) (by assumption) ?_
            rotate_left
            · intro W' hSw; obtain ⟨t0, t1, t2, t3, t4, t5, t6⟩ := hSw; go_simp; try with_reducible rfl
            try simp only [Act.put, List.getElem_toArray, List.getElem_cons_succ, List.getElem_cons_zero, List.setIfInBounds_toArray, List.set_cons_zero, List.set_cons_succ]
            refine wpAnyH_ready (rs := [12]) (by kernel_rfl) (by simp) ?_
            refine AllReadyH.cons rfl (fun KK hK => ?_) AllReadyH.nil
            obtain ⟨hT, hTf⟩ := HTT.out Wy HBy.out
            go_simp
            refine hK.out _ _ (HSF.out _ _ HBy.out) (fun hHeld => ?_)
            clear hK KK
            try simp only [Act.put, List.getElem_toArray, List.getElem_cons_succ, List.getElem_cons_zero, List.setIfInBounds_toArray, List.set_cons_zero, List.set_cons_succ]
            refine wpAnyH_done (by kernel_rfl) ?_ _
            refine NoPanic.normal ?_
            clear hHeld hT hTf
            have HF : Hid (Q (M ++ [⟨oc, oa, os, oi, orc, ora, och⟩]) (Wy.setCell ⟨T, 1, none⟩ (.slice a3 (n + 1) c3))) := HEND.out Wy _ HBy.out HR3.out
            go_wp2
            go_ret
            exact ⟨rfl, HF.out⟩
          exact AllReadyH.nil
        exact AllReadyH.nil
      exact AllReadyH.nil
    exact AllReadyH.nil
  exact AllReadyH.nil
set_option maxRecDepth 100000 in
set_option maxHeartbeats 4000000 in
theorem rf_add_old {B T r : Nat} {M : List Opn} {v : Value} (w : World) (o : Opn) (h : RfH w B T r M v) (hl : M.length ≤ 100000) (z : Int) (hz : (hasK M o.a o.s = true ∧ z = 0) ∨ (hasK M o.a o.s = false ∧ r ≤ M.length ∧ z = 8)) :
    Calls Try.prog 47 #[.pointer (some ⟨T, 0, none⟩), o.val] w fun e w' => e = .returned (.int .i64 z) ∧ Below w.heap.size w w' := by
  have mixed : Try.prog.follows .mixedOrders = true := by kernel_rfl
  obtain ⟨a, c, rfl, g1, g2, g3, g4⟩ := h.rd
  obtain ⟨n, hn⟩ : ∃ n, n = M.length := ⟨_, rfl⟩
  rw [← hn] at g1 g3 h hl hz
  obtain ⟨U3, hU3⟩ : ∃ U3, U3 = w.alloc (bxP o) := ⟨_, rfl⟩
  obtain ⟨X, hX⟩ : ∃ X, X = w.heap.size := ⟨_, rfl⟩
  have hb3 : Below w.heap.size w U3 := by rw [hU3]; exact (Below.refl _ w).alloc (Nat.le_refl _) _
  have hx3 : U3.heap[X]? = some (bxP o) := by rw [hU3, hX]; exact heap_alloc_new w _
  have h3 := h.later hb3
  obtain ⟨y, hy⟩ : ∃ y, y = hasK M o.a o.s := ⟨_, rfl⟩
  have HHASp : Hid (Calls Try.prog 45 #[.pointer (some ⟨T, 0, none⟩), .int .i64 o.a, .int .i64 o.s] U3 fun e w' => e = .returned (.bool y) ∧ w' = U3) := by
    rw [hy]
    exact rf_has U3 h3 (by omega) o.a o.s
  rw [← hy] at hz
  obtain ⟨q0, q1, q2, q3, q4, q5, q6⟩ := opAt_box hx3
  obtain ⟨k0, k1, _⟩ := h3.cells
  have HB3 : Hid (Below w.heap.size w U3) := hb3
  clear h h3 hb3 hx3 g3 g4 hn hy
  obtain ⟨oc, oa, os, oi, orc, ora, och⟩ := o
  simp only [Opn.val] at HHASp q0 q1 q2 q3 q4 q5 q6 ⊢
  have HHAS : Hid (type_of% HHASp.out) := HHASp.out
  clear HHASp
  rcases hz with ⟨rfl, rfl⟩ | ⟨rfl, hr, rfl⟩
  · go_enter Try.func47, Try.ntmps47
    go_upto_region 1 with fail
    rw [← hX, ← hU3]
    clear hX hU3
    go_wp2_with (go_at_call 45; refine HHAS.out.mono ?_; rintro e w4 ⟨rfl, h1⟩; have h1 := h1.symm; subst h1)
    go_ret
    exact ⟨rfl, HB3.out⟩
  · have hrd : decide ((r : Int) ≤ (n : Int)) = true := decide_eq_true (by omega)
    go_enter Try.func47, Try.ntmps47
    go_upto_region 1 with fail
    rw [← hX, ← hU3]
    clear hX hU3
    go_upto_region 3 with (go_at_call 45; refine HHAS.out.mono ?_; rintro e w4 ⟨rfl, h1⟩; have h1 := h1.symm; subst h1)
    go_quiet (fail)
    go_wp2
    go_ret
    exact ⟨rfl, bel_drewK HB3.out _⟩
end Go.Proofs.Ytcbnmahbdcjamaa
