/- The walk of the reference's Put, where it takes the operation. -/
import Derived.Test.YtcbnmahbdcjamaaRgH
import Derived.Test.YtcbnmahbdcjamaaRgRa
import Derived.Test.YtcbnmahbdcjamaaRiRr
import Derived.Test.YtcbnmahbdcjamaaBasR
import Derived.Test.YtcbnmahbdcjamaaBasX
import Derived.Deep.RegionHeld3
namespace Go.Proofs.Ytcbnmahbdcjamaa
open Go.RowKit Go.Sort
set_option linter.unusedVariables false
set_option linter.unusedSimpArgs false

theorem infoP_R : (Try.prog.info? 34).map (fun i => (i.zero, i.size, i.bytes)) = some (some op0.val, 7, 56) := by kernel_rfl
theorem srcP14 {w : World} {a : Option Addr} {n c : Nat} {l : List Opn} (h : RdP w a n l) (hn : a = none → c = 0) : SrcAt w a n c 7 (flatP l) := by
  have hl := h.1
  refine ⟨by rw [flatP_len]; omega, fun q => ⟨?_, hn q⟩, fun x hx j u hu => ?_, flatP_cells l⟩
  · subst q
    rcases Nat.eq_zero_or_pos n with h0 | h0
    · exact h0
    · obtain ⟨b, off, hb, _⟩ := h.2 h0; cases hb
  · have hp : 0 < n := by
      have := (List.getElem?_eq_some_iff.1 hu).1
      rw [flatP_len] at this
      omega
    obtain ⟨b, off, hb, hc⟩ := h.2 hp
    rw [hx] at hb
    cases hb
    rw [add_lit14]
    exact hc j u hu
theorem srcO16 {w : World} {c : Nat} {o : Opn} (h : w.heap[c]? = some (.cells #[.int .i64 o.c, .int .i64 o.a, .int .i64 o.s, .bool o.ins, .int .i64 o.rc, .int .i64 o.ra, .int .i32 o.ch] 34)) : SrcAt w (some ⟨c, 0, none⟩) 1 1 7 (encP o) := by
  refine ⟨rfl, (fun q => by cases q), fun x hx j u hu => ?_, encP_one o⟩
  cases hx
  rw [add_lit14, Nat.zero_add, cell_of_row w c j _ _ _ h]
  simpa [encP] using hu
abbrev bxR (o : Opn) : Obj := .cells #[.int .i64 o.c, .int .i64 o.a, .int .i64 o.s, .bool o.ins, .int .i64 o.rc, .int .i64 o.ra, .int .i32 o.ch] 34 (0, 0)
theorem bxR_cells {w : World} {b : Nat} {o : Opn} (h : w.heap[b]? = some (bxR o)) : w.cell? ⟨b, 0, none⟩ = some (.int .i64 o.c) ∧ w.cell? ⟨b, 1, none⟩ = some (.int .i64 o.a) ∧ w.cell? ⟨b, 2, none⟩ = some (.int .i64 o.s) ∧ w.cell? ⟨b, 3, none⟩ = some (.bool o.ins) ∧ w.cell? ⟨b, 4, none⟩ = some (.int .i64 o.rc) ∧ w.cell? ⟨b, 5, none⟩ = some (.int .i64 o.ra) ∧ w.cell? ⟨b, 6, none⟩ = some (.int .i32 o.ch) :=
  ⟨cell_of_row w b 0 _ _ _ h, cell_of_row w b 1 _ _ _ h, cell_of_row w b 2 _ _ _ h, cell_of_row w b 3 _ _ _ h, cell_of_row w b 4 _ _ _ h, cell_of_row w b 5 _ _ _ h, cell_of_row w b 6 _ _ _ h⟩
theorem belR {w W : World} {b : Nat} {o : Obj} (h : Below w.heap.size w W) (ho : w.heap[b]? = some o) : W.heap[b]? = some o := (h.block b (Array.getElem?_eq_some_iff.1 ho).1).trans ho
theorem rdP_cg14 {w W : World} {Q : Nat → Prop} {a : Option Addr} {n : Nat} {l : List Opn} (h : RdP w a n l) (hc : Chg w W Q) (hq : ∀ x, a = some x → ¬ Q x.block) : RdP W a n l := by
  refine ⟨h.1, fun hp => ?_⟩
  obtain ⟨b, off, rfl, hcell⟩ := h.2 hp
  exact ⟨b, off, rfl, fun j u hu => cg_cell hc (hcell j u hu) (hq ⟨b, off, none⟩ rfl)⟩
/-- What Put leaves of the reference's text: its row is new. -/
def RfP (w : World) (T : Nat) (O : List Opn) (w' : World) : Prop := ∃ a n c, RfT w' T a n c O ∧ Chg w w' (fun k => k = T) ∧ ∀ x, a = some x → w.heap.size ≤ x.block
set_option maxRecDepth 100000 in
set_option maxHeartbeats 16000000 in
theorem put_rf {w : World} {T : Nat} {a : Option Addr} {n c : Nat} {O : List Opn} (h : RfT w T a n c O) (hn : n ≤ 100000) (hv : Rv O) (o : Opn) (ht : (putA O o).1 = true) :
    Calls Try.prog 55 #[.pointer (some ⟨T, 0, none⟩), o.val] w fun e w' => e = .returned (.tuple #[.bool true, .int .i64 0]) ∧ RfP w T (O ++ [o]) w' := by
  have mixed : Try.prog.follows .mixedOrders = true := by kernel_rfl
  obtain ⟨i0, hi0, hz0, hz1, hz2⟩ := info_parts infoP_R
  obtain ⟨t1, t2, t3, t4⟩ := (putA_iff O o).1 ht
  have hop := op_id t1
  obtain ⟨U3, hU3⟩ : ∃ U3, U3 = w.alloc (bxR o) := ⟨_, rfl⟩
  obtain ⟨X, hX⟩ : ∃ X, X = w.heap.size := ⟨_, rfl⟩
  have hb3 : Below w.heap.size w U3 := by rw [hU3]; exact (Below.refl _ w).alloc (Nat.le_refl _) _
  have hx3 : U3.heap[X]? = some (bxR o) := by rw [hU3, hX]; exact heap_alloc_new w _
  have h3 := h.later hb3
  have HN : Hid (O.length = n) := h.row.1
  have HRI : Hid (Calls Try.prog 76 #[o.val] U3 fun e w' => e = .returned (.bool true) ∧ Below U3.heap.size U3 w') := (refRight_any o U3).mono (by rintro e w' ⟨rfl, q⟩; exact ⟨by rw [t1], q.below⟩)
  obtain ⟨SS, hSS⟩ : ∃ SS, SS = (lastO O o.a).s := ⟨_, rfl⟩
  obtain ⟨CC, hCC⟩ : ∃ CC, CC = (lastO O o.a).c := ⟨_, rfl⟩
  obtain ⟨hb, hhb⟩ : ∃ hb, hb = hasE O (o.rc, o.ra) := ⟨_, rfl⟩
  have HKN : Hid (∀ V, Below U3.heap.size U3 V → Calls Try.prog 96 #[.pointer (some ⟨T, 0, none⟩), .int .i64 o.a] V fun e w' => e = .returned (.tuple #[.int .i64 SS, .int .i64 CC]) ∧ w' = V) := fun V hV => by
    have := known_rf (h3.later hV) (by omega) o.a
    rw [knF_last hv, ← hSS, ← hCC] at this
    exact this
  have HHS : Hid (∀ V, Below U3.heap.size U3 V → Calls Try.prog 97 #[.pointer (some ⟨T, 0, none⟩), .agg #[.int .i64 o.rc, .int .i64 o.ra]] V fun e w' => e = .returned (.bool hb) ∧ Below U3.heap.size U3 w') := fun V hV => (has_rf (h3.later hV) (by omega) o.rc o.ra).mono (by
    rintro e w' ⟨rfl, q⟩
    exact ⟨by rw [hhb], hV.trans (q.mono hV.size)⟩)
  have HXC : Hid (∀ w', Below U3.heap.size U3 w' → w'.cell? ⟨X, 0, none⟩ = some (.int .i64 o.c) ∧ w'.cell? ⟨X, 1, none⟩ = some (.int .i64 o.a) ∧ w'.cell? ⟨X, 2, none⟩ = some (.int .i64 o.s) ∧ w'.cell? ⟨X, 3, none⟩ = some (.bool o.ins) ∧ w'.cell? ⟨X, 4, none⟩ = some (.int .i64 o.rc) ∧ w'.cell? ⟨X, 5, none⟩ = some (.int .i64 o.ra) ∧ w'.cell? ⟨X, 6, none⟩ = some (.int .i32 o.ch)) := fun V hV => bxR_cells (belR hV hx3)
  have HTT0 : Hid (∀ V, Below U3.heap.size U3 V → V.cell? ⟨T, 0, none⟩ = some (.slice a n c) ∧ V.frozen? ⟨T, 0, none⟩ = false) := fun V hV => (h3.later hV).cell
  have HROW0 : Hid (∀ V, Below U3.heap.size U3 V → SrcAt V a n c 7 (flatP O)) := fun V hV => srcP14 (h3.later hV).row h3.nil
  have hTX : T < X := by rw [hX]; exact (Array.getElem?_eq_some_iff.1 h.box).1
  have HSFp : Hid (∀ w' (v3 : Value), Below U3.heap.size U3 w' → (w'.setCell ⟨T, 0, none⟩ v3).cell? ⟨X, 0, none⟩ = some (.int .i64 o.c) ∧ (w'.setCell ⟨T, 0, none⟩ v3).cell? ⟨X, 1, none⟩ = some (.int .i64 o.a) ∧ (w'.setCell ⟨T, 0, none⟩ v3).cell? ⟨X, 2, none⟩ = some (.int .i64 o.s) ∧ (w'.setCell ⟨T, 0, none⟩ v3).cell? ⟨X, 3, none⟩ = some (.bool o.ins) ∧ (w'.setCell ⟨T, 0, none⟩ v3).cell? ⟨X, 4, none⟩ = some (.int .i64 o.rc) ∧ (w'.setCell ⟨T, 0, none⟩ v3).cell? ⟨X, 5, none⟩ = some (.int .i64 o.ra) ∧ (w'.setCell ⟨T, 0, none⟩ v3).cell? ⟨X, 6, none⟩ = some (.int .i32 o.ch)) := fun V v3 hV => bxR_cells (cg_heap (cg_set V T 0 v3) (belR hV hx3) (by omega))
  have HQ : Hid (∃ Q : World → Prop, Q = RfP w T (O ++ [o])) := ⟨_, rfl⟩
  obtain ⟨Q, hQ⟩ := HQ.out
  have HENQ : Hid (∀ W3 Wy a3 c3, Below U3.heap.size U3 W3 → Below W3.heap.size W3 Wy → Wy.ownsRow W3.heap.size 34 7 (.slice a3 (n + 1) c3) (n + 1) (flatP (O ++ [o])) → Q (Wy.setCell ⟨T, 0, none⟩ (.slice a3 (n + 1) c3))) := fun W3 Wy a3 c3 hW hb ho => by
    rw [hQ]
    have hc := cg_set Wy T 0 (.slice a3 (n + 1) c3)
    have huy := hW.trans (hb.mono hW.size)
    have hwy := hb3.trans (huy.mono hb3.size)
    have hT3 := (Array.getElem?_eq_some_iff.1 h.box).1
    have hs := hb3.size
    have hs2 := hW.size
    obtain ⟨a', c', hv', _, _, hr, hnil⟩ := rdP_own ho
    cases hv'
    have hfar : ∀ x, a3 = some x → W3.heap.size ≤ x.block := fun x e => by
      subst e
      exact (ho.lt x.block rfl).1
    refine ⟨a3, n + 1, c3, ⟨?_, rdP_cg14 hr hc (fun x e q => ?_), hnil⟩, cg_trans (cg_below hwy (fun k => k = T)) hc (fun _ _ q => q), fun x e => ?_⟩
    · rw [heap_setX Wy T 0 _ _ _ _ ((h3.later huy).box)]; simp
    · have := hfar x e; omega
    · have := hfar x e; omega
  rw [← hQ]
  have hs1 : IntKind.i64.wrap (o.s - 1) = SS := by rw [IntKind.wrap_i64]; omega
  have hs2 : wrap64 (o.s - 1) = SS := by unfold wrap64; omega
  have hd1 : decide (o.s ≤ SS) = false := decide_eq_false (by omega)
  have hd2 : decide (o.c ≤ CC) = false := decide_eq_false (by omega)
  have hcs : hb = true ∨ (hb = false ∧ o.rc = 0 ∧ o.ra = 0) := by
    cases hh : hb
    · right
      rcases t3 with q | q
      · unfold Opn.ref at q
        injection q with q1 q2
        exact ⟨rfl, q1, q2⟩
      · rw [hhb] at hh
        rw [show o.ref = (o.rc, o.ra) from rfl, hh] at q
        cases q
    · exact .inl rfl
  have hnz : ∀ W, (binOp .neq 32 (.agg #[.int .i64 0, .int .i64 0]) (.agg #[.int .i64 0, .int .i64 0])).run Try.prog W = .ok (.bool false) W := neq_ids 0 0 0 0 false (by simp)
  have HB0 : Hid (Below U3.heap.size U3 U3) := Below.refl _ _
  clear HQ hQ h h3 hb3 hx3 hTX t1 t2 t3 t4 hop ht hv hSS hCC hhb
  obtain ⟨oc, oa, os, oi, orc, ora, och⟩ := o
  simp only [Opn.val] at HRI HKN HHS HXC HSFp HENQ hs1 hs2 hd1 hd2 hcs ⊢
  have HXX : Hid (type_of% HXC.out) := HXC.out
  have HSF0 : Hid (type_of% HSFp.out) := HSFp.out
  have HRI2 : Hid (type_of% HRI.out) := HRI.out
  clear HXC HSFp HRI
  obtain ⟨q0, q1, q2, q3, q4, q5, q6⟩ := HXX.out U3 HB0.out
  go_enter Try.func55, Try.ntmps55
  go_upto_region 1 with fail
  rw [← hX, ← hU3]
  clear hX hU3
  go_upto_region 4 with (go_at_call 76; refine HRI2.out.mono ?_; rintro e w4 ⟨rfl, h1⟩; have HB4 : Hid (Below U3.heap.size U3 w4) := h1; clear h1)
  clear q0 q1 q2 q3 q4 q5 q6
  obtain ⟨q0, q1, q2, q3, q4, q5, q6⟩ := HXX.out w4 HB4.out
  go_upto_region 8 with (first
    | (go_at_call 97; refine (HHS.out _ HB4.out).mono ?_; rintro e w5 ⟨rfl, h1⟩; have HB5 : Hid (Below U3.heap.size U3 w5) := h1; clear h1)
    | (go_at_call 96; refine (HKN.out _ HB4.out).mono ?_; rintro e w9 ⟨rfl, h1⟩; have h1 := h1.symm; subst h1))
  clear q0 q1 q2 q3 q4 q5 q6
  obtain ⟨q0, q1, q2, q3, q4, q5, q6⟩ := HXX.out w5 HB5.out
  have HTT : Hid (∀ V, Below w5.heap.size w5 V → V.cell? ⟨T, 0, none⟩ = some (.slice a n c) ∧ V.frozen? ⟨T, 0, none⟩ = false) := fun V hV => HTT0.out V (HB5.out.trans (hV.mono HB5.out.size))
  have HROW : Hid (∀ V, Below w5.heap.size w5 V → SrcAt V a n c 7 (flatP O)) := fun V hV => HROW0.out V (HB5.out.trans (hV.mono HB5.out.size))
  have HSS : Hid (∀ w', Below w5.heap.size w5 w' → w'.cell? ⟨X, 0, none⟩ = some (.int .i64 oc) ∧ w'.cell? ⟨X, 1, none⟩ = some (.int .i64 oa) ∧ w'.cell? ⟨X, 2, none⟩ = some (.int .i64 os) ∧ w'.cell? ⟨X, 3, none⟩ = some (.bool oi) ∧ w'.cell? ⟨X, 4, none⟩ = some (.int .i64 orc) ∧ w'.cell? ⟨X, 5, none⟩ = some (.int .i64 ora) ∧ w'.cell? ⟨X, 6, none⟩ = some (.int .i32 och)) := fun V hV => HXX.out V (HB5.out.trans (hV.mono HB5.out.size))
  have HSF : Hid (∀ w' (v3 : Value), Below w5.heap.size w5 w' → (w'.setCell ⟨T, 0, none⟩ v3).cell? ⟨X, 0, none⟩ = some (.int .i64 oc) ∧ (w'.setCell ⟨T, 0, none⟩ v3).cell? ⟨X, 1, none⟩ = some (.int .i64 oa) ∧ (w'.setCell ⟨T, 0, none⟩ v3).cell? ⟨X, 2, none⟩ = some (.int .i64 os) ∧ (w'.setCell ⟨T, 0, none⟩ v3).cell? ⟨X, 3, none⟩ = some (.bool oi) ∧ (w'.setCell ⟨T, 0, none⟩ v3).cell? ⟨X, 4, none⟩ = some (.int .i64 orc) ∧ (w'.setCell ⟨T, 0, none⟩ v3).cell? ⟨X, 5, none⟩ = some (.int .i64 ora) ∧ (w'.setCell ⟨T, 0, none⟩ v3).cell? ⟨X, 6, none⟩ = some (.int .i32 och)) := fun V v3 hV => HSF0.out V v3 (HB5.out.trans (hV.mono HB5.out.size))
  have HEND : Hid (∀ Wy a3 c3, Below w5.heap.size w5 Wy → Wy.ownsRow w5.heap.size 34 7 (.slice a3 (n + 1) c3) (n + 1) (flatP (O ++ [⟨oc, oa, os, oi, orc, ora, och⟩])) → Q (Wy.setCell ⟨T, 0, none⟩ (.slice a3 (n + 1) c3))) := fun Wy a3 c3 hb ho => HENQ.out w5 Wy a3 c3 HB5.out hb ho
  have HEA1 : Hid (∀ x : Obj, Below w5.heap.size w5 (w5.drew.alloc x)) := fun x => (Below.refl _ w5).drew.alloc (Nat.le_refl _) _
  have HEA : Hid (∀ x y : Obj, Below w5.heap.size w5 (w5.drew.alloc x) ∧ Below w5.heap.size w5 ((w5.drew.alloc x).alloc y)) := fun x y => ⟨(Below.refl _ w5).drew.alloc (Nat.le_refl _) _, ((Below.refl _ w5).drew.alloc (Nat.le_refl _) _).alloc (by simp) _⟩
  clear HTT0 HROW0 HSF0 HENQ HKN HHS HRI2
  rcases hcs with rfl | ⟨rfl, rfl, rfl⟩
  · go_upto_region 12 with fail
    clear q0 q1 q2 q3 q4 q5 q6 hs1 hs2 hd1 hd2
    refine wp_region_noPanic ?_
    refine wp_region_held_drew (S := (fun w' => w'.cell? ⟨X, 0, none⟩ = some (.int .i64 oc) ∧ w'.cell? ⟨X, 1, none⟩ = some (.int .i64 oa) ∧ w'.cell? ⟨X, 2, none⟩ = some (.int .i64 os) ∧ w'.cell? ⟨X, 3, none⟩ = some (.bool oi) ∧ w'.cell? ⟨X, 4, none⟩ = some (.int .i64 orc) ∧ w'.cell? ⟨X, 5, none⟩ = some (.int .i64 ora) ∧ w'.cell? ⟨X, 6, none⟩ = some (.int .i32 och))) (by kernel_rfl) (HSS.out _ (Below.refl _ w5).drew) (fun hHeld => ?_)
    refine wpAnyH_take (i := 0) (v := ?_) rfl (by kernel_rfl) (by kernel_rfl) (by kernel_rfl) (fun _ _ _ h => h) (Or.inl ⟨by rfl, ?_⟩) (by assumption) ?_
    rotate_left
    · intro W' hSw; obtain ⟨t0, t1, t2, t3, t4, t5, t6⟩ := hSw; go_simp; try with_reducible rfl
    try simp only [Act.put, List.getElem_toArray, List.getElem_cons_succ, List.getElem_cons_zero, List.setIfInBounds_toArray, List.set_cons_zero, List.set_cons_succ]
    refine wpAnyH_take (i := 2) (v := ?_) rfl (by kernel_rfl) (by kernel_rfl) (by kernel_rfl) (fun _ _ _ h => h) (Or.inl ⟨by rfl, ?_⟩) (by assumption) ?_
    rotate_left
    · intro W' hSw; obtain ⟨t0, t1, t2, t3, t4, t5, t6⟩ := hSw; go_simp; try with_reducible rfl
    try simp only [Act.put, List.getElem_toArray, List.getElem_cons_succ, List.getElem_cons_zero, List.setIfInBounds_toArray, List.set_cons_zero, List.set_cons_succ]
    refine wpAnyH_take (i := 3) (v := ?_) rfl (by kernel_rfl) (by kernel_rfl) (by kernel_rfl) (fun _ _ _ h => h) (Or.inl ⟨by rfl, ?_⟩) (by assumption) ?_
    rotate_left
    · intro W' hSw; obtain ⟨t0, t1, t2, t3, t4, t5, t6⟩ := hSw; go_simp; try with_reducible rfl
    try simp only [Act.put, List.getElem_toArray, List.getElem_cons_succ, List.getElem_cons_zero, List.setIfInBounds_toArray, List.set_cons_zero, List.set_cons_succ]
    refine wpAnyH_take (i := 4) (v := ?_) rfl (by kernel_rfl) (by kernel_rfl) (by kernel_rfl) (fun _ _ _ h => h) (Or.inl ⟨by rfl, ?_⟩) (by assumption) ?_
    rotate_left
    · intro W' hSw; obtain ⟨t0, t1, t2, t3, t4, t5, t6⟩ := hSw; go_simp; try with_reducible rfl
    try simp only [Act.put, List.getElem_toArray, List.getElem_cons_succ, List.getElem_cons_zero, List.setIfInBounds_toArray, List.set_cons_zero, List.set_cons_succ]
    refine wpAnyH_take (i := 7) (v := ?_) rfl (by kernel_rfl) (by kernel_rfl) (by kernel_rfl) (fun _ _ _ h => h) (Or.inl ⟨by rfl, ?_⟩) (by assumption) ?_
    rotate_left
    · intro W' hSw; obtain ⟨t0, t1, t2, t3, t4, t5, t6⟩ := hSw; go_simp; try with_reducible rfl
    try simp only [Act.put, List.getElem_toArray, List.getElem_cons_succ, List.getElem_cons_zero, List.setIfInBounds_toArray, List.set_cons_zero, List.set_cons_succ]
    refine wpAnyH_ready (rs := [1, 5, 8]) (by kernel_rfl) (by simp) ?_
    refine AllReadyH.cons rfl (fun KK hK => ?_) ?_
    · go_simp
      refine hK.out _ _ (HSS.out _ (HEA1.out _)) (fun hHeld => ?_)
      clear hK KK
      try simp only [Act.put, List.getElem_toArray, List.getElem_cons_succ, List.getElem_cons_zero, List.setIfInBounds_toArray, List.set_cons_zero, List.set_cons_succ]
      refine wpAnyH_ready (rs := [5, 8]) (by kernel_rfl) (by simp) ?_
      refine AllReadyH.cons rfl (fun KK hK => ?_) ?_
      · obtain ⟨hT, -⟩ := HTT.out (w5.drew.alloc (.cells #[] 34)) (HEA1.out _)
        have hT2 : (w5.alloc (.cells #[] 34)).cell? ⟨T, 0, none⟩ = some (.slice a n c) := hT
        have hT3 : (w5.alloc (.cells #[] 34)).drew.cell? ⟨T, 0, none⟩ = some (.slice a n c) := hT
        go_simp
        clear hT hT2 hT3
        refine hK.out _ _ (HSS.out _ (HEA1.out _)) (fun hHeld => ?_)
        clear hK KK
        try simp only [Act.put, List.getElem_toArray, List.getElem_cons_succ, List.getElem_cons_zero, List.setIfInBounds_toArray, List.set_cons_zero, List.set_cons_succ]
        refine wpAnyH_ready (rs := [6, 8]) (by kernel_rfl) (by simp) ?_
        refine AllReadyH.cons rfl (fun KK hK => ?_) ?_
        · have HZ : Hid (Below w5.heap.size w5 (w5.drew.alloc (.cells #[] 34)) ∧ (w5.drew.alloc (.cells #[] 34)).ownsRow w5.heap.size 34 7 (.slice (some ⟨w5.heap.size, 0, none⟩) 0 0) 0 []) := ⟨HEA1.out _, World.ownsRow_made w5.drew #[] 0 (Nat.le_refl _) (by simp [maxLen]) rfl⟩
          refine step_append_src rfl (.tmp 51) (.tmp 55) 22 rfl w5.heap.size 34 i0 op0.val 7 56 Try.underlying22 hi0 hz0 hz1 hz2 rfl (by decide) (.slice (some ⟨w5.heap.size, 0, none⟩) 0 0) 0 _ (by simp [Act.eval]) HZ.out.2 a n c (flatP O) (by simp [Act.eval]) (HROW.out _ HZ.out.1) (by unfold maxLen; omega) (by omega) HZ.out.1.size (fun v2 Wx o2 g2 => ?_)
          have HBx : Hid (Below w5.heap.size w5 Wx) := HZ.out.1.grown g2 HZ.out.1.size (fun j hj => (HZ.out.2.lt j hj).1)
          have HO2 : Hid (Wx.ownsRow w5.heap.size 34 7 v2 n (flatP O)) := by
            show World.ownsRow _ _ _ _ _ _ _
            simpa using o2
          clear o2 g2
          refine hK.out _ _ (HSS.out _ HBx.out) (fun hHeld => ?_)
          clear hK KK
          try simp only [Act.put, List.getElem_toArray, List.getElem_cons_succ, List.getElem_cons_zero, List.setIfInBounds_toArray, List.set_cons_zero, List.set_cons_succ]
          refine wpAnyH_ready (rs := [8]) (by kernel_rfl) (by simp) ?_
          refine AllReadyH.cons rfl (fun KK hK => ?_) ?_
          · go_simp
            refine hK.out _ _ (HSS.out _ (HBx.out.alloc HBx.out.size _)) (fun hHeld => ?_)
            clear hK KK
            try simp only [Act.put, List.getElem_toArray, List.getElem_cons_succ, List.getElem_cons_zero, List.setIfInBounds_toArray, List.set_cons_zero, List.set_cons_succ]
            refine wpAnyH_ready (rs := [9]) (by kernel_rfl) (by simp) ?_
            refine AllReadyH.cons rfl (fun KK hK => ?_) ?_
            · refine step_append_src rfl (.tmp 56) (.tmp 58) 22 rfl w5.heap.size 34 i0 op0.val 7 56 Try.underlying22 hi0 hz0 hz1 hz2 rfl (by decide) v2 n _ (by simp [Act.eval]) (HO2.out.alloc _) (some ⟨Wx.heap.size, 0, none⟩) 1 1 [.int .i64 oc, .int .i64 oa, .int .i64 os, .bool oi, .int .i64 orc, .int .i64 ora, .int .i32 och] (by simp [Act.eval]) (srcO16 (o := ⟨oc, oa, os, oi, orc, ora, och⟩) (heap_alloc_new Wx _)) (by unfold maxLen; omega) (by omega) (HBx.out.alloc HBx.out.size _).size (fun v3 Wy o3 g3 => ?_)
              have HBy : Hid (Below w5.heap.size w5 Wy) := ((HBx.out.alloc HBx.out.size _)).grown g3 ((HBx.out.alloc HBx.out.size _)).size (fun j hj => (HO2.out.lt j hj).1)
              have ho3 : Wy.ownsRow w5.heap.size 34 7 v3 (n + 1) (flatP (O ++ [⟨oc, oa, os, oi, orc, ora, och⟩])) := by
                rw [flatP_app, flatP_one]
                exact o3
              obtain ⟨a3, c3, rfl, _⟩ := rdP_own ho3
              have HR3 : Hid (Wy.ownsRow w5.heap.size 34 7 (.slice a3 (n + 1) c3) (n + 1) (flatP (O ++ [⟨oc, oa, os, oi, orc, ora, och⟩]))) := ho3
              clear o3 g3 ho3
              refine hK.out _ _ (HSS.out _ HBy.out) (fun hHeld => ?_)
              clear hK KK
              try simp only [Act.put, List.getElem_toArray, List.getElem_cons_succ, List.getElem_cons_zero, List.setIfInBounds_toArray, List.set_cons_zero, List.set_cons_succ]
              refine wpAnyH_take (i := 10) (v := ?_) rfl (by kernel_rfl) (by kernel_rfl) (by kernel_rfl) (fun _ _ _ h => h) (Or.inl ⟨by rfl, ?_⟩) (by assumption) ?_
              rotate_left
              · intro W' hSw; obtain ⟨t0, t1, t2, t3, t4, t5, t6⟩ := hSw; go_simp; try with_reducible rfl
              try simp only [Act.put, List.getElem_toArray, List.getElem_cons_succ, List.getElem_cons_zero, List.setIfInBounds_toArray, List.set_cons_zero, List.set_cons_succ]
              refine wpAnyH_take (i := 11) (v := ?_) rfl (by kernel_rfl) (by kernel_rfl) (by kernel_rfl) (fun _ _ _ h => h) (Or.inl ⟨by rfl, ?_⟩) (by assumption) ?_
              rotate_left
              · intro W' hSw; obtain ⟨t0, t1, t2, t3, t4, t5, t6⟩ := hSw; go_simp; try with_reducible rfl
              try simp only [Act.put, List.getElem_toArray, List.getElem_cons_succ, List.getElem_cons_zero, List.setIfInBounds_toArray, List.set_cons_zero, List.set_cons_succ]
              refine wpAnyH_ready (rs := [12]) (by kernel_rfl) (by simp) ?_
              refine AllReadyH.cons rfl (fun KK hK => ?_) AllReadyH.nil
              obtain ⟨hT, hTf⟩ := HTT.out Wy HBy.out
              go_simp
              refine hK.out _ _ (HSF.out _ _ HBy.out) (fun hHeld => ?_)
              clear hK KK
              try simp only [Act.put, List.getElem_toArray, List.getElem_cons_succ, List.getElem_cons_zero, List.setIfInBounds_toArray, List.set_cons_zero, List.set_cons_succ]
              refine wpAnyH_done (by kernel_rfl) ?_ _
              refine NoPanic.normal ?_
              clear hHeld hT hTf
              have HF : Hid (Q (Wy.setCell ⟨T, 0, none⟩ (.slice a3 (n + 1) c3))) := HEND.out Wy _ _ HBy.out HR3.out
              go_wp2
              go_ret2
              exact ⟨rfl, HF.out⟩
            exact AllReadyH.nil
          exact AllReadyH.nil
        refine AllReadyH.cons rfl (fun KK hK => ?_) ?_
        · go_simp
          refine hK.out _ _ (HSS.out _ ((HEA.out _ _).2)) (fun hHeld => ?_)
          clear hK KK
          try simp only [Act.put, List.getElem_toArray, List.getElem_cons_succ, List.getElem_cons_zero, List.setIfInBounds_toArray, List.set_cons_zero, List.set_cons_succ]
          refine wpAnyH_ready (rs := [6]) (by kernel_rfl) (by simp) ?_
          refine AllReadyH.cons rfl (fun KK hK => ?_) ?_
          · have HZ : Hid (Below w5.heap.size w5 ((w5.drew.alloc (.cells #[] 34)).alloc (.cells #[.int .i64 oc, .int .i64 oa, .int .i64 os, .bool oi, .int .i64 orc, .int .i64 ora, .int .i32 och] 34)) ∧ ((w5.drew.alloc (.cells #[] 34)).alloc (.cells #[.int .i64 oc, .int .i64 oa, .int .i64 os, .bool oi, .int .i64 orc, .int .i64 ora, .int .i32 och] 34)).ownsRow w5.heap.size 34 7 (.slice (some ⟨w5.heap.size, 0, none⟩) 0 0) 0 []) := ⟨(HEA.out _ _).2, (show (w5.drew.alloc (.cells #[] 34)).ownsRow w5.heap.size 34 7 (.slice (some ⟨w5.heap.size, 0, none⟩) 0 0) 0 [] from World.ownsRow_made w5.drew #[] 0 (Nat.le_refl _) (by simp [maxLen]) rfl).alloc _⟩
            refine step_append_src rfl (.tmp 51) (.tmp 55) 22 rfl w5.heap.size 34 i0 op0.val 7 56 Try.underlying22 hi0 hz0 hz1 hz2 rfl (by decide) (.slice (some ⟨w5.heap.size, 0, none⟩) 0 0) 0 _ (by simp [Act.eval]) HZ.out.2 a n c (flatP O) (by simp [Act.eval]) (HROW.out _ HZ.out.1) (by unfold maxLen; omega) (by omega) HZ.out.1.size (fun v2 Wx o2 g2 => ?_)
            have HBx : Hid (Below w5.heap.size w5 Wx) := HZ.out.1.grown g2 HZ.out.1.size (fun j hj => (HZ.out.2.lt j hj).1)
            have HO2 : Hid (Wx.ownsRow w5.heap.size 34 7 v2 n (flatP O)) := by
              show World.ownsRow _ _ _ _ _ _ _
              simpa using o2
            have HCX : Hid (Wx.heap[w5.heap.size + 1]? = some (.cells #[.int .i64 oc, .int .i64 oa, .int .i64 os, .bool oi, .int .i64 orc, .int .i64 ora, .int .i32 och] 34)) := (g2.block (w5.heap.size + 1) (by simp <;> omega) (fun h => by have h : some (w5.heap.size + 1) = some (w5.heap.size) := h; injection h with h; omega)).trans (by have := heap_alloc_new (w5.drew.alloc (.cells #[] 34)) (.cells #[.int .i64 oc, .int .i64 oa, .int .i64 os, .bool oi, .int .i64 orc, .int .i64 ora, .int .i32 och] 34); rw [World.size_alloc] at this; exact this)
            clear o2 g2
            refine hK.out _ _ (HSS.out _ HBx.out) (fun hHeld => ?_)
            clear hK KK
            try simp only [Act.put, List.getElem_toArray, List.getElem_cons_succ, List.getElem_cons_zero, List.setIfInBounds_toArray, List.set_cons_zero, List.set_cons_succ]
            refine wpAnyH_ready (rs := [9]) (by kernel_rfl) (by simp) ?_
            refine AllReadyH.cons rfl (fun KK hK => ?_) ?_
            · refine step_append_src rfl (.tmp 56) (.tmp 58) 22 rfl w5.heap.size 34 i0 op0.val 7 56 Try.underlying22 hi0 hz0 hz1 hz2 rfl (by decide) v2 n _ (by simp [Act.eval]) HO2.out (some ⟨w5.heap.size + 1, 0, none⟩) 1 1 [.int .i64 oc, .int .i64 oa, .int .i64 os, .bool oi, .int .i64 orc, .int .i64 ora, .int .i32 och] (by simp [Act.eval]) (srcO16 (o := ⟨oc, oa, os, oi, orc, ora, och⟩) HCX.out) (by unfold maxLen; omega) (by omega) HBx.out.size (fun v3 Wy o3 g3 => ?_)
              have HBy : Hid (Below w5.heap.size w5 Wy) := (HBx.out).grown g3 (HBx.out).size (fun j hj => (HO2.out.lt j hj).1)
              have ho3 : Wy.ownsRow w5.heap.size 34 7 v3 (n + 1) (flatP (O ++ [⟨oc, oa, os, oi, orc, ora, och⟩])) := by
                rw [flatP_app, flatP_one]
                exact o3
              obtain ⟨a3, c3, rfl, _⟩ := rdP_own ho3
              have HR3 : Hid (Wy.ownsRow w5.heap.size 34 7 (.slice a3 (n + 1) c3) (n + 1) (flatP (O ++ [⟨oc, oa, os, oi, orc, ora, och⟩]))) := ho3
              clear o3 g3 ho3
              refine hK.out _ _ (HSS.out _ HBy.out) (fun hHeld => ?_)
              clear hK KK
              try simp only [Act.put, List.getElem_toArray, List.getElem_cons_succ, List.getElem_cons_zero, List.setIfInBounds_toArray, List.set_cons_zero, List.set_cons_succ]
              refine wpAnyH_take (i := 10) (v := ?_) rfl (by kernel_rfl) (by kernel_rfl) (by kernel_rfl) (fun _ _ _ h => h) (Or.inl ⟨by rfl, ?_⟩) (by assumption) ?_
              rotate_left
              · intro W' hSw; obtain ⟨t0, t1, t2, t3, t4, t5, t6⟩ := hSw; go_simp; try with_reducible rfl
              try simp only [Act.put, List.getElem_toArray, List.getElem_cons_succ, List.getElem_cons_zero, List.setIfInBounds_toArray, List.set_cons_zero, List.set_cons_succ]
              refine wpAnyH_take (i := 11) (v := ?_) rfl (by kernel_rfl) (by kernel_rfl) (by kernel_rfl) (fun _ _ _ h => h) (Or.inl ⟨by rfl, ?_⟩) (by assumption) ?_
              rotate_left
              · intro W' hSw; obtain ⟨t0, t1, t2, t3, t4, t5, t6⟩ := hSw; go_simp; try with_reducible rfl
              try simp only [Act.put, List.getElem_toArray, List.getElem_cons_succ, List.getElem_cons_zero, List.setIfInBounds_toArray, List.set_cons_zero, List.set_cons_succ]
              refine wpAnyH_ready (rs := [12]) (by kernel_rfl) (by simp) ?_
              refine AllReadyH.cons rfl (fun KK hK => ?_) AllReadyH.nil
              obtain ⟨hT, hTf⟩ := HTT.out Wy HBy.out
              go_simp
              refine hK.out _ _ (HSF.out _ _ HBy.out) (fun hHeld => ?_)
              clear hK KK
              try simp only [Act.put, List.getElem_toArray, List.getElem_cons_succ, List.getElem_cons_zero, List.setIfInBounds_toArray, List.set_cons_zero, List.set_cons_succ]
              refine wpAnyH_done (by kernel_rfl) ?_ _
              refine NoPanic.normal ?_
              clear hHeld hT hTf
              have HF : Hid (Q (Wy.setCell ⟨T, 0, none⟩ (.slice a3 (n + 1) c3))) := HEND.out Wy _ _ HBy.out HR3.out
              go_wp2
              go_ret2
              exact ⟨rfl, HF.out⟩
            exact AllReadyH.nil
          exact AllReadyH.nil
        exact AllReadyH.nil
      refine AllReadyH.cons rfl (fun KK hK => ?_) ?_
      · go_simp
        refine hK.out _ _ (HSS.out _ ((HEA.out _ _).2)) (fun hHeld => ?_)
        clear hK KK
        try simp only [Act.put, List.getElem_toArray, List.getElem_cons_succ, List.getElem_cons_zero, List.setIfInBounds_toArray, List.set_cons_zero, List.set_cons_succ]
        refine wpAnyH_ready (rs := [5]) (by kernel_rfl) (by simp) ?_
        refine AllReadyH.cons rfl (fun KK hK => ?_) ?_
        · obtain ⟨hT, -⟩ := HTT.out ((w5.drew.alloc (.cells #[] 34)).alloc (.cells #[.int .i64 oc, .int .i64 oa, .int .i64 os, .bool oi, .int .i64 orc, .int .i64 ora, .int .i32 och] 34)) ((HEA.out _ _).2)
          have hT2 : ((w5.alloc (.cells #[] 34)).alloc (.cells #[.int .i64 oc, .int .i64 oa, .int .i64 os, .bool oi, .int .i64 orc, .int .i64 ora, .int .i32 och] 34)).cell? ⟨T, 0, none⟩ = some (.slice a n c) := hT
          have hT3 : ((w5.alloc (.cells #[] 34)).alloc (.cells #[.int .i64 oc, .int .i64 oa, .int .i64 os, .bool oi, .int .i64 orc, .int .i64 ora, .int .i32 och] 34)).drew.cell? ⟨T, 0, none⟩ = some (.slice a n c) := hT
          go_simp
          clear hT hT2 hT3
          refine hK.out _ _ (HSS.out _ ((HEA.out _ _).2)) (fun hHeld => ?_)
          clear hK KK
          try simp only [Act.put, List.getElem_toArray, List.getElem_cons_succ, List.getElem_cons_zero, List.setIfInBounds_toArray, List.set_cons_zero, List.set_cons_succ]
          refine wpAnyH_ready (rs := [6]) (by kernel_rfl) (by simp) ?_
          refine AllReadyH.cons rfl (fun KK hK => ?_) ?_
          · have HZ : Hid (Below w5.heap.size w5 ((w5.drew.alloc (.cells #[] 34)).alloc (.cells #[.int .i64 oc, .int .i64 oa, .int .i64 os, .bool oi, .int .i64 orc, .int .i64 ora, .int .i32 och] 34)) ∧ ((w5.drew.alloc (.cells #[] 34)).alloc (.cells #[.int .i64 oc, .int .i64 oa, .int .i64 os, .bool oi, .int .i64 orc, .int .i64 ora, .int .i32 och] 34)).ownsRow w5.heap.size 34 7 (.slice (some ⟨w5.heap.size, 0, none⟩) 0 0) 0 []) := ⟨(HEA.out _ _).2, (show (w5.drew.alloc (.cells #[] 34)).ownsRow w5.heap.size 34 7 (.slice (some ⟨w5.heap.size, 0, none⟩) 0 0) 0 [] from World.ownsRow_made w5.drew #[] 0 (Nat.le_refl _) (by simp [maxLen]) rfl).alloc _⟩
            refine step_append_src rfl (.tmp 51) (.tmp 55) 22 rfl w5.heap.size 34 i0 op0.val 7 56 Try.underlying22 hi0 hz0 hz1 hz2 rfl (by decide) (.slice (some ⟨w5.heap.size, 0, none⟩) 0 0) 0 _ (by simp [Act.eval]) HZ.out.2 a n c (flatP O) (by simp [Act.eval]) (HROW.out _ HZ.out.1) (by unfold maxLen; omega) (by omega) HZ.out.1.size (fun v2 Wx o2 g2 => ?_)
            have HBx : Hid (Below w5.heap.size w5 Wx) := HZ.out.1.grown g2 HZ.out.1.size (fun j hj => (HZ.out.2.lt j hj).1)
            have HO2 : Hid (Wx.ownsRow w5.heap.size 34 7 v2 n (flatP O)) := by
              show World.ownsRow _ _ _ _ _ _ _
              simpa using o2
            have HCX : Hid (Wx.heap[w5.heap.size + 1]? = some (.cells #[.int .i64 oc, .int .i64 oa, .int .i64 os, .bool oi, .int .i64 orc, .int .i64 ora, .int .i32 och] 34)) := (g2.block (w5.heap.size + 1) (by simp <;> omega) (fun h => by have h : some (w5.heap.size + 1) = some (w5.heap.size) := h; injection h with h; omega)).trans (by have := heap_alloc_new (w5.drew.alloc (.cells #[] 34)) (.cells #[.int .i64 oc, .int .i64 oa, .int .i64 os, .bool oi, .int .i64 orc, .int .i64 ora, .int .i32 och] 34); rw [World.size_alloc] at this; exact this)
            clear o2 g2
            refine hK.out _ _ (HSS.out _ HBx.out) (fun hHeld => ?_)
            clear hK KK
            try simp only [Act.put, List.getElem_toArray, List.getElem_cons_succ, List.getElem_cons_zero, List.setIfInBounds_toArray, List.set_cons_zero, List.set_cons_succ]
            refine wpAnyH_ready (rs := [9]) (by kernel_rfl) (by simp) ?_
            refine AllReadyH.cons rfl (fun KK hK => ?_) ?_
            · refine step_append_src rfl (.tmp 56) (.tmp 58) 22 rfl w5.heap.size 34 i0 op0.val 7 56 Try.underlying22 hi0 hz0 hz1 hz2 rfl (by decide) v2 n _ (by simp [Act.eval]) HO2.out (some ⟨w5.heap.size + 1, 0, none⟩) 1 1 [.int .i64 oc, .int .i64 oa, .int .i64 os, .bool oi, .int .i64 orc, .int .i64 ora, .int .i32 och] (by simp [Act.eval]) (srcO16 (o := ⟨oc, oa, os, oi, orc, ora, och⟩) HCX.out) (by unfold maxLen; omega) (by omega) HBx.out.size (fun v3 Wy o3 g3 => ?_)
              have HBy : Hid (Below w5.heap.size w5 Wy) := (HBx.out).grown g3 (HBx.out).size (fun j hj => (HO2.out.lt j hj).1)
              have ho3 : Wy.ownsRow w5.heap.size 34 7 v3 (n + 1) (flatP (O ++ [⟨oc, oa, os, oi, orc, ora, och⟩])) := by
                rw [flatP_app, flatP_one]
                exact o3
              obtain ⟨a3, c3, rfl, _⟩ := rdP_own ho3
              have HR3 : Hid (Wy.ownsRow w5.heap.size 34 7 (.slice a3 (n + 1) c3) (n + 1) (flatP (O ++ [⟨oc, oa, os, oi, orc, ora, och⟩]))) := ho3
              clear o3 g3 ho3
              refine hK.out _ _ (HSS.out _ HBy.out) (fun hHeld => ?_)
              clear hK KK
              try simp only [Act.put, List.getElem_toArray, List.getElem_cons_succ, List.getElem_cons_zero, List.setIfInBounds_toArray, List.set_cons_zero, List.set_cons_succ]
              refine wpAnyH_take (i := 10) (v := ?_) rfl (by kernel_rfl) (by kernel_rfl) (by kernel_rfl) (fun _ _ _ h => h) (Or.inl ⟨by rfl, ?_⟩) (by assumption) ?_
              rotate_left
              · intro W' hSw; obtain ⟨t0, t1, t2, t3, t4, t5, t6⟩ := hSw; go_simp; try with_reducible rfl
              try simp only [Act.put, List.getElem_toArray, List.getElem_cons_succ, List.getElem_cons_zero, List.setIfInBounds_toArray, List.set_cons_zero, List.set_cons_succ]
              refine wpAnyH_take (i := 11) (v := ?_) rfl (by kernel_rfl) (by kernel_rfl) (by kernel_rfl) (fun _ _ _ h => h) (Or.inl ⟨by rfl, ?_⟩) (by assumption) ?_
              rotate_left
              · intro W' hSw; obtain ⟨t0, t1, t2, t3, t4, t5, t6⟩ := hSw; go_simp; try with_reducible rfl
              try simp only [Act.put, List.getElem_toArray, List.getElem_cons_succ, List.getElem_cons_zero, List.setIfInBounds_toArray, List.set_cons_zero, List.set_cons_succ]
              refine wpAnyH_ready (rs := [12]) (by kernel_rfl) (by simp) ?_
              refine AllReadyH.cons rfl (fun KK hK => ?_) AllReadyH.nil
              obtain ⟨hT, hTf⟩ := HTT.out Wy HBy.out
              go_simp
              refine hK.out _ _ (HSF.out _ _ HBy.out) (fun hHeld => ?_)
              clear hK KK
              try simp only [Act.put, List.getElem_toArray, List.getElem_cons_succ, List.getElem_cons_zero, List.setIfInBounds_toArray, List.set_cons_zero, List.set_cons_succ]
              refine wpAnyH_done (by kernel_rfl) ?_ _
              refine NoPanic.normal ?_
              clear hHeld hT hTf
              have HF : Hid (Q (Wy.setCell ⟨T, 0, none⟩ (.slice a3 (n + 1) c3))) := HEND.out Wy _ _ HBy.out HR3.out
              go_wp2
              go_ret2
              exact ⟨rfl, HF.out⟩
            exact AllReadyH.nil
          exact AllReadyH.nil
        exact AllReadyH.nil
      exact AllReadyH.nil
    refine AllReadyH.cons rfl (fun KK hK => ?_) ?_
    · obtain ⟨hT, -⟩ := HTT.out w5.drew ((Below.refl _ w5).drew)
      have hT2 : w5.cell? ⟨T, 0, none⟩ = some (.slice a n c) := hT
      have hT3 : w5.drew.cell? ⟨T, 0, none⟩ = some (.slice a n c) := hT
      go_simp
      clear hT hT2 hT3
      refine hK.out _ _ (HSS.out _ ((Below.refl _ w5).drew)) (fun hHeld => ?_)
      clear hK KK
      try simp only [Act.put, List.getElem_toArray, List.getElem_cons_succ, List.getElem_cons_zero, List.setIfInBounds_toArray, List.set_cons_zero, List.set_cons_succ]
      refine wpAnyH_ready (rs := [1, 8]) (by kernel_rfl) (by simp) ?_
      refine AllReadyH.cons rfl (fun KK hK => ?_) ?_
      · go_simp
        refine hK.out _ _ (HSS.out _ (HEA1.out _)) (fun hHeld => ?_)
        clear hK KK
        try simp only [Act.put, List.getElem_toArray, List.getElem_cons_succ, List.getElem_cons_zero, List.setIfInBounds_toArray, List.set_cons_zero, List.set_cons_succ]
        refine wpAnyH_ready (rs := [6, 8]) (by kernel_rfl) (by simp) ?_
        refine AllReadyH.cons rfl (fun KK hK => ?_) ?_
        · have HZ : Hid (Below w5.heap.size w5 (w5.drew.alloc (.cells #[] 34)) ∧ (w5.drew.alloc (.cells #[] 34)).ownsRow w5.heap.size 34 7 (.slice (some ⟨w5.heap.size, 0, none⟩) 0 0) 0 []) := ⟨HEA1.out _, World.ownsRow_made w5.drew #[] 0 (Nat.le_refl _) (by simp [maxLen]) rfl⟩
          refine step_append_src rfl (.tmp 51) (.tmp 55) 22 rfl w5.heap.size 34 i0 op0.val 7 56 Try.underlying22 hi0 hz0 hz1 hz2 rfl (by decide) (.slice (some ⟨w5.heap.size, 0, none⟩) 0 0) 0 _ (by simp [Act.eval]) HZ.out.2 a n c (flatP O) (by simp [Act.eval]) (HROW.out _ HZ.out.1) (by unfold maxLen; omega) (by omega) HZ.out.1.size (fun v2 Wx o2 g2 => ?_)
          have HBx : Hid (Below w5.heap.size w5 Wx) := HZ.out.1.grown g2 HZ.out.1.size (fun j hj => (HZ.out.2.lt j hj).1)
          have HO2 : Hid (Wx.ownsRow w5.heap.size 34 7 v2 n (flatP O)) := by
            show World.ownsRow _ _ _ _ _ _ _
            simpa using o2
          clear o2 g2
          refine hK.out _ _ (HSS.out _ HBx.out) (fun hHeld => ?_)
          clear hK KK
          try simp only [Act.put, List.getElem_toArray, List.getElem_cons_succ, List.getElem_cons_zero, List.setIfInBounds_toArray, List.set_cons_zero, List.set_cons_succ]
          refine wpAnyH_ready (rs := [8]) (by kernel_rfl) (by simp) ?_
          refine AllReadyH.cons rfl (fun KK hK => ?_) ?_
          · go_simp
            refine hK.out _ _ (HSS.out _ (HBx.out.alloc HBx.out.size _)) (fun hHeld => ?_)
            clear hK KK
            try simp only [Act.put, List.getElem_toArray, List.getElem_cons_succ, List.getElem_cons_zero, List.setIfInBounds_toArray, List.set_cons_zero, List.set_cons_succ]
            refine wpAnyH_ready (rs := [9]) (by kernel_rfl) (by simp) ?_
            refine AllReadyH.cons rfl (fun KK hK => ?_) ?_
            · refine step_append_src rfl (.tmp 56) (.tmp 58) 22 rfl w5.heap.size 34 i0 op0.val 7 56 Try.underlying22 hi0 hz0 hz1 hz2 rfl (by decide) v2 n _ (by simp [Act.eval]) (HO2.out.alloc _) (some ⟨Wx.heap.size, 0, none⟩) 1 1 [.int .i64 oc, .int .i64 oa, .int .i64 os, .bool oi, .int .i64 orc, .int .i64 ora, .int .i32 och] (by simp [Act.eval]) (srcO16 (o := ⟨oc, oa, os, oi, orc, ora, och⟩) (heap_alloc_new Wx _)) (by unfold maxLen; omega) (by omega) (HBx.out.alloc HBx.out.size _).size (fun v3 Wy o3 g3 => ?_)
              have HBy : Hid (Below w5.heap.size w5 Wy) := ((HBx.out.alloc HBx.out.size _)).grown g3 ((HBx.out.alloc HBx.out.size _)).size (fun j hj => (HO2.out.lt j hj).1)
              have ho3 : Wy.ownsRow w5.heap.size 34 7 v3 (n + 1) (flatP (O ++ [⟨oc, oa, os, oi, orc, ora, och⟩])) := by
                rw [flatP_app, flatP_one]
                exact o3
              obtain ⟨a3, c3, rfl, _⟩ := rdP_own ho3
              have HR3 : Hid (Wy.ownsRow w5.heap.size 34 7 (.slice a3 (n + 1) c3) (n + 1) (flatP (O ++ [⟨oc, oa, os, oi, orc, ora, och⟩]))) := ho3
              clear o3 g3 ho3
              refine hK.out _ _ (HSS.out _ HBy.out) (fun hHeld => ?_)
              clear hK KK
              try simp only [Act.put, List.getElem_toArray, List.getElem_cons_succ, List.getElem_cons_zero, List.setIfInBounds_toArray, List.set_cons_zero, List.set_cons_succ]
              refine wpAnyH_take (i := 10) (v := ?_) rfl (by kernel_rfl) (by kernel_rfl) (by kernel_rfl) (fun _ _ _ h => h) (Or.inl ⟨by rfl, ?_⟩) (by assumption) ?_
              rotate_left
              · intro W' hSw; obtain ⟨t0, t1, t2, t3, t4, t5, t6⟩ := hSw; go_simp; try with_reducible rfl
              try simp only [Act.put, List.getElem_toArray, List.getElem_cons_succ, List.getElem_cons_zero, List.setIfInBounds_toArray, List.set_cons_zero, List.set_cons_succ]
              refine wpAnyH_take (i := 11) (v := ?_) rfl (by kernel_rfl) (by kernel_rfl) (by kernel_rfl) (fun _ _ _ h => h) (Or.inl ⟨by rfl, ?_⟩) (by assumption) ?_
              rotate_left
              · intro W' hSw; obtain ⟨t0, t1, t2, t3, t4, t5, t6⟩ := hSw; go_simp; try with_reducible rfl
              try simp only [Act.put, List.getElem_toArray, List.getElem_cons_succ, List.getElem_cons_zero, List.setIfInBounds_toArray, List.set_cons_zero, List.set_cons_succ]
              refine wpAnyH_ready (rs := [12]) (by kernel_rfl) (by simp) ?_
              refine AllReadyH.cons rfl (fun KK hK => ?_) AllReadyH.nil
              obtain ⟨hT, hTf⟩ := HTT.out Wy HBy.out
              go_simp
              refine hK.out _ _ (HSF.out _ _ HBy.out) (fun hHeld => ?_)
              clear hK KK
              try simp only [Act.put, List.getElem_toArray, List.getElem_cons_succ, List.getElem_cons_zero, List.setIfInBounds_toArray, List.set_cons_zero, List.set_cons_succ]
              refine wpAnyH_done (by kernel_rfl) ?_ _
              refine NoPanic.normal ?_
              clear hHeld hT hTf
              have HF : Hid (Q (Wy.setCell ⟨T, 0, none⟩ (.slice a3 (n + 1) c3))) := HEND.out Wy _ _ HBy.out HR3.out
              go_wp2
              go_ret2
              exact ⟨rfl, HF.out⟩
            exact AllReadyH.nil
          exact AllReadyH.nil
        refine AllReadyH.cons rfl (fun KK hK => ?_) ?_
        · go_simp
          refine hK.out _ _ (HSS.out _ ((HEA.out _ _).2)) (fun hHeld => ?_)
          clear hK KK
          try simp only [Act.put, List.getElem_toArray, List.getElem_cons_succ, List.getElem_cons_zero, List.setIfInBounds_toArray, List.set_cons_zero, List.set_cons_succ]
          refine wpAnyH_ready (rs := [6]) (by kernel_rfl) (by simp) ?_
          refine AllReadyH.cons rfl (fun KK hK => ?_) ?_
          · have HZ : Hid (Below w5.heap.size w5 ((w5.drew.alloc (.cells #[] 34)).alloc (.cells #[.int .i64 oc, .int .i64 oa, .int .i64 os, .bool oi, .int .i64 orc, .int .i64 ora, .int .i32 och] 34)) ∧ ((w5.drew.alloc (.cells #[] 34)).alloc (.cells #[.int .i64 oc, .int .i64 oa, .int .i64 os, .bool oi, .int .i64 orc, .int .i64 ora, .int .i32 och] 34)).ownsRow w5.heap.size 34 7 (.slice (some ⟨w5.heap.size, 0, none⟩) 0 0) 0 []) := ⟨(HEA.out _ _).2, (show (w5.drew.alloc (.cells #[] 34)).ownsRow w5.heap.size 34 7 (.slice (some ⟨w5.heap.size, 0, none⟩) 0 0) 0 [] from World.ownsRow_made w5.drew #[] 0 (Nat.le_refl _) (by simp [maxLen]) rfl).alloc _⟩
            refine step_append_src rfl (.tmp 51) (.tmp 55) 22 rfl w5.heap.size 34 i0 op0.val 7 56 Try.underlying22 hi0 hz0 hz1 hz2 rfl (by decide) (.slice (some ⟨w5.heap.size, 0, none⟩) 0 0) 0 _ (by simp [Act.eval]) HZ.out.2 a n c (flatP O) (by simp [Act.eval]) (HROW.out _ HZ.out.1) (by unfold maxLen; omega) (by omega) HZ.out.1.size (fun v2 Wx o2 g2 => ?_)
            have HBx : Hid (Below w5.heap.size w5 Wx) := HZ.out.1.grown g2 HZ.out.1.size (fun j hj => (HZ.out.2.lt j hj).1)
            have HO2 : Hid (Wx.ownsRow w5.heap.size 34 7 v2 n (flatP O)) := by
              show World.ownsRow _ _ _ _ _ _ _
              simpa using o2
            have HCX : Hid (Wx.heap[w5.heap.size + 1]? = some (.cells #[.int .i64 oc, .int .i64 oa, .int .i64 os, .bool oi, .int .i64 orc, .int .i64 ora, .int .i32 och] 34)) := (g2.block (w5.heap.size + 1) (by simp <;> omega) (fun h => by have h : some (w5.heap.size + 1) = some (w5.heap.size) := h; injection h with h; omega)).trans (by have := heap_alloc_new (w5.drew.alloc (.cells #[] 34)) (.cells #[.int .i64 oc, .int .i64 oa, .int .i64 os, .bool oi, .int .i64 orc, .int .i64 ora, .int .i32 och] 34); rw [World.size_alloc] at this; exact this)
            clear o2 g2
            refine hK.out _ _ (HSS.out _ HBx.out) (fun hHeld => ?_)
            clear hK KK
            try simp only [Act.put, List.getElem_toArray, List.getElem_cons_succ, List.getElem_cons_zero, List.setIfInBounds_toArray, List.set_cons_zero, List.set_cons_succ]
            refine wpAnyH_ready (rs := [9]) (by kernel_rfl) (by simp) ?_
            refine AllReadyH.cons rfl (fun KK hK => ?_) ?_
            · refine step_append_src rfl (.tmp 56) (.tmp 58) 22 rfl w5.heap.size 34 i0 op0.val 7 56 Try.underlying22 hi0 hz0 hz1 hz2 rfl (by decide) v2 n _ (by simp [Act.eval]) HO2.out (some ⟨w5.heap.size + 1, 0, none⟩) 1 1 [.int .i64 oc, .int .i64 oa, .int .i64 os, .bool oi, .int .i64 orc, .int .i64 ora, .int .i32 och] (by simp [Act.eval]) (srcO16 (o := ⟨oc, oa, os, oi, orc, ora, och⟩) HCX.out) (by unfold maxLen; omega) (by omega) HBx.out.size (fun v3 Wy o3 g3 => ?_)
              have HBy : Hid (Below w5.heap.size w5 Wy) := (HBx.out).grown g3 (HBx.out).size (fun j hj => (HO2.out.lt j hj).1)
              have ho3 : Wy.ownsRow w5.heap.size 34 7 v3 (n + 1) (flatP (O ++ [⟨oc, oa, os, oi, orc, ora, och⟩])) := by
                rw [flatP_app, flatP_one]
                exact o3
              obtain ⟨a3, c3, rfl, _⟩ := rdP_own ho3
              have HR3 : Hid (Wy.ownsRow w5.heap.size 34 7 (.slice a3 (n + 1) c3) (n + 1) (flatP (O ++ [⟨oc, oa, os, oi, orc, ora, och⟩]))) := ho3
              clear o3 g3 ho3
              refine hK.out _ _ (HSS.out _ HBy.out) (fun hHeld => ?_)
              clear hK KK
              try simp only [Act.put, List.getElem_toArray, List.getElem_cons_succ, List.getElem_cons_zero, List.setIfInBounds_toArray, List.set_cons_zero, List.set_cons_succ]
              refine wpAnyH_take (i := 10) (v := ?_) rfl (by kernel_rfl) (by kernel_rfl) (by kernel_rfl) (fun _ _ _ h => h) (Or.inl ⟨by rfl, ?_⟩) (by assumption) ?_
              rotate_left
              · intro W' hSw; obtain ⟨t0, t1, t2, t3, t4, t5, t6⟩ := hSw; go_simp; try with_reducible rfl
              try simp only [Act.put, List.getElem_toArray, List.getElem_cons_succ, List.getElem_cons_zero, List.setIfInBounds_toArray, List.set_cons_zero, List.set_cons_succ]
              refine wpAnyH_take (i := 11) (v := ?_) rfl (by kernel_rfl) (by kernel_rfl) (by kernel_rfl) (fun _ _ _ h => h) (Or.inl ⟨by rfl, ?_⟩) (by assumption) ?_
              rotate_left
              · intro W' hSw; obtain ⟨t0, t1, t2, t3, t4, t5, t6⟩ := hSw; go_simp; try with_reducible rfl
              try simp only [Act.put, List.getElem_toArray, List.getElem_cons_succ, List.getElem_cons_zero, List.setIfInBounds_toArray, List.set_cons_zero, List.set_cons_succ]
              refine wpAnyH_ready (rs := [12]) (by kernel_rfl) (by simp) ?_
              refine AllReadyH.cons rfl (fun KK hK => ?_) AllReadyH.nil
              obtain ⟨hT, hTf⟩ := HTT.out Wy HBy.out
              go_simp
              refine hK.out _ _ (HSF.out _ _ HBy.out) (fun hHeld => ?_)
              clear hK KK
              try simp only [Act.put, List.getElem_toArray, List.getElem_cons_succ, List.getElem_cons_zero, List.setIfInBounds_toArray, List.set_cons_zero, List.set_cons_succ]
              refine wpAnyH_done (by kernel_rfl) ?_ _
              refine NoPanic.normal ?_
              clear hHeld hT hTf
              have HF : Hid (Q (Wy.setCell ⟨T, 0, none⟩ (.slice a3 (n + 1) c3))) := HEND.out Wy _ _ HBy.out HR3.out
              go_wp2
              go_ret2
              exact ⟨rfl, HF.out⟩
            exact AllReadyH.nil
          exact AllReadyH.nil
        exact AllReadyH.nil
      refine AllReadyH.cons rfl (fun KK hK => ?_) ?_
      · go_simp
        refine hK.out _ _ (HSS.out _ (HEA1.out _)) (fun hHeld => ?_)
        clear hK KK
        try simp only [Act.put, List.getElem_toArray, List.getElem_cons_succ, List.getElem_cons_zero, List.setIfInBounds_toArray, List.set_cons_zero, List.set_cons_succ]
        refine wpAnyH_ready (rs := [1]) (by kernel_rfl) (by simp) ?_
        refine AllReadyH.cons rfl (fun KK hK => ?_) ?_
        · go_simp
          refine hK.out _ _ (HSS.out _ ((HEA.out _ _).2)) (fun hHeld => ?_)
          clear hK KK
          try simp only [Act.put, List.getElem_toArray, List.getElem_cons_succ, List.getElem_cons_zero, List.setIfInBounds_toArray, List.set_cons_zero, List.set_cons_succ]
          refine wpAnyH_ready (rs := [6]) (by kernel_rfl) (by simp) ?_
          refine AllReadyH.cons rfl (fun KK hK => ?_) ?_
          · have HZ : Hid (Below w5.heap.size w5 ((w5.drew.alloc (.cells #[.int .i64 oc, .int .i64 oa, .int .i64 os, .bool oi, .int .i64 orc, .int .i64 ora, .int .i32 och] 34)).alloc (.cells #[] 34)) ∧ ((w5.drew.alloc (.cells #[.int .i64 oc, .int .i64 oa, .int .i64 os, .bool oi, .int .i64 orc, .int .i64 ora, .int .i32 och] 34)).alloc (.cells #[] 34)).ownsRow w5.heap.size 34 7 (.slice (some ⟨w5.heap.size + 1, 0, none⟩) 0 0) 0 []) := ⟨(HEA.out _ _).2, by
              have h : ((w5.drew.alloc (.cells #[.int .i64 oc, .int .i64 oa, .int .i64 os, .bool oi, .int .i64 orc, .int .i64 ora, .int .i32 och] 34)).alloc (.cells #[] 34)).ownsRow w5.heap.size 34 7 (.slice (some ⟨(w5.drew.alloc (.cells #[.int .i64 oc, .int .i64 oa, .int .i64 os, .bool oi, .int .i64 orc, .int .i64 ora, .int .i32 och] 34)).heap.size, 0, none⟩) 0 0) 0 [] := World.ownsRow_made (w5.drew.alloc (.cells #[.int .i64 oc, .int .i64 oa, .int .i64 os, .bool oi, .int .i64 orc, .int .i64 ora, .int .i32 och] 34)) #[] 0 (by simp) (by simp [maxLen]) rfl
              rw [World.size_alloc] at h
              exact h⟩
            refine step_append_src rfl (.tmp 51) (.tmp 55) 22 rfl w5.heap.size 34 i0 op0.val 7 56 Try.underlying22 hi0 hz0 hz1 hz2 rfl (by decide) (.slice (some ⟨w5.heap.size + 1, 0, none⟩) 0 0) 0 _ (by simp [Act.eval]) HZ.out.2 a n c (flatP O) (by simp [Act.eval]) (HROW.out _ HZ.out.1) (by unfold maxLen; omega) (by omega) HZ.out.1.size (fun v2 Wx o2 g2 => ?_)
            have HBx : Hid (Below w5.heap.size w5 Wx) := HZ.out.1.grown g2 HZ.out.1.size (fun j hj => (HZ.out.2.lt j hj).1)
            have HO2 : Hid (Wx.ownsRow w5.heap.size 34 7 v2 n (flatP O)) := by
              show World.ownsRow _ _ _ _ _ _ _
              simpa using o2
            have HCX : Hid (Wx.heap[w5.heap.size]? = some (.cells #[.int .i64 oc, .int .i64 oa, .int .i64 os, .bool oi, .int .i64 orc, .int .i64 ora, .int .i32 och] 34)) := (g2.block (w5.heap.size) (by simp <;> omega) (fun h => by have h : some (w5.heap.size) = some (w5.heap.size + 1) := h; injection h with h; omega)).trans ((((Below.refl _ _).alloc (Nat.le_refl _) _).block w5.heap.size (by simp)).trans (heap_alloc_new w5.drew (.cells #[.int .i64 oc, .int .i64 oa, .int .i64 os, .bool oi, .int .i64 orc, .int .i64 ora, .int .i32 och] 34)))
            clear o2 g2
            refine hK.out _ _ (HSS.out _ HBx.out) (fun hHeld => ?_)
            clear hK KK
            try simp only [Act.put, List.getElem_toArray, List.getElem_cons_succ, List.getElem_cons_zero, List.setIfInBounds_toArray, List.set_cons_zero, List.set_cons_succ]
            refine wpAnyH_ready (rs := [9]) (by kernel_rfl) (by simp) ?_
            refine AllReadyH.cons rfl (fun KK hK => ?_) ?_
            · refine step_append_src rfl (.tmp 56) (.tmp 58) 22 rfl w5.heap.size 34 i0 op0.val 7 56 Try.underlying22 hi0 hz0 hz1 hz2 rfl (by decide) v2 n _ (by simp [Act.eval]) HO2.out (some ⟨w5.heap.size, 0, none⟩) 1 1 [.int .i64 oc, .int .i64 oa, .int .i64 os, .bool oi, .int .i64 orc, .int .i64 ora, .int .i32 och] (by simp [Act.eval]) (srcO16 (o := ⟨oc, oa, os, oi, orc, ora, och⟩) HCX.out) (by unfold maxLen; omega) (by omega) HBx.out.size (fun v3 Wy o3 g3 => ?_)
              have HBy : Hid (Below w5.heap.size w5 Wy) := (HBx.out).grown g3 (HBx.out).size (fun j hj => (HO2.out.lt j hj).1)
              have ho3 : Wy.ownsRow w5.heap.size 34 7 v3 (n + 1) (flatP (O ++ [⟨oc, oa, os, oi, orc, ora, och⟩])) := by
                rw [flatP_app, flatP_one]
                exact o3
              obtain ⟨a3, c3, rfl, _⟩ := rdP_own ho3
              have HR3 : Hid (Wy.ownsRow w5.heap.size 34 7 (.slice a3 (n + 1) c3) (n + 1) (flatP (O ++ [⟨oc, oa, os, oi, orc, ora, och⟩]))) := ho3
              clear o3 g3 ho3
              refine hK.out _ _ (HSS.out _ HBy.out) (fun hHeld => ?_)
              clear hK KK
              try simp only [Act.put, List.getElem_toArray, List.getElem_cons_succ, List.getElem_cons_zero, List.setIfInBounds_toArray, List.set_cons_zero, List.set_cons_succ]
              refine wpAnyH_take (i := 10) (v := ?_) rfl (by kernel_rfl) (by kernel_rfl) (by kernel_rfl) (fun _ _ _ h => h) (Or.inl ⟨by rfl, ?_⟩) (by assumption) ?_
              rotate_left
              · intro W' hSw; obtain ⟨t0, t1, t2, t3, t4, t5, t6⟩ := hSw; go_simp; try with_reducible rfl
              try simp only [Act.put, List.getElem_toArray, List.getElem_cons_succ, List.getElem_cons_zero, List.setIfInBounds_toArray, List.set_cons_zero, List.set_cons_succ]
              refine wpAnyH_take (i := 11) (v := ?_) rfl (by kernel_rfl) (by kernel_rfl) (by kernel_rfl) (fun _ _ _ h => h) (Or.inl ⟨by rfl, ?_⟩) (by assumption) ?_
              rotate_left
              · intro W' hSw; obtain ⟨t0, t1, t2, t3, t4, t5, t6⟩ := hSw; go_simp; try with_reducible rfl
              try simp only [Act.put, List.getElem_toArray, List.getElem_cons_succ, List.getElem_cons_zero, List.setIfInBounds_toArray, List.set_cons_zero, List.set_cons_succ]
              refine wpAnyH_ready (rs := [12]) (by kernel_rfl) (by simp) ?_
              refine AllReadyH.cons rfl (fun KK hK => ?_) AllReadyH.nil
              obtain ⟨hT, hTf⟩ := HTT.out Wy HBy.out
              go_simp
              refine hK.out _ _ (HSF.out _ _ HBy.out) (fun hHeld => ?_)
              clear hK KK
              try simp only [Act.put, List.getElem_toArray, List.getElem_cons_succ, List.getElem_cons_zero, List.setIfInBounds_toArray, List.set_cons_zero, List.set_cons_succ]
              refine wpAnyH_done (by kernel_rfl) ?_ _
              refine NoPanic.normal ?_
              clear hHeld hT hTf
              have HF : Hid (Q (Wy.setCell ⟨T, 0, none⟩ (.slice a3 (n + 1) c3))) := HEND.out Wy _ _ HBy.out HR3.out
              go_wp2
              go_ret2
              exact ⟨rfl, HF.out⟩
            exact AllReadyH.nil
          exact AllReadyH.nil
        exact AllReadyH.nil
      exact AllReadyH.nil
    refine AllReadyH.cons rfl (fun KK hK => ?_) ?_
    · go_simp
      refine hK.out _ _ (HSS.out _ (HEA1.out _)) (fun hHeld => ?_)
      clear hK KK
      try simp only [Act.put, List.getElem_toArray, List.getElem_cons_succ, List.getElem_cons_zero, List.setIfInBounds_toArray, List.set_cons_zero, List.set_cons_succ]
      refine wpAnyH_ready (rs := [1, 5]) (by kernel_rfl) (by simp) ?_
      refine AllReadyH.cons rfl (fun KK hK => ?_) ?_
      · go_simp
        refine hK.out _ _ (HSS.out _ ((HEA.out _ _).2)) (fun hHeld => ?_)
        clear hK KK
        try simp only [Act.put, List.getElem_toArray, List.getElem_cons_succ, List.getElem_cons_zero, List.setIfInBounds_toArray, List.set_cons_zero, List.set_cons_succ]
        refine wpAnyH_ready (rs := [5]) (by kernel_rfl) (by simp) ?_
        refine AllReadyH.cons rfl (fun KK hK => ?_) ?_
        · obtain ⟨hT, -⟩ := HTT.out ((w5.drew.alloc (.cells #[.int .i64 oc, .int .i64 oa, .int .i64 os, .bool oi, .int .i64 orc, .int .i64 ora, .int .i32 och] 34)).alloc (.cells #[] 34)) ((HEA.out _ _).2)
          have hT2 : ((w5.alloc (.cells #[.int .i64 oc, .int .i64 oa, .int .i64 os, .bool oi, .int .i64 orc, .int .i64 ora, .int .i32 och] 34)).alloc (.cells #[] 34)).cell? ⟨T, 0, none⟩ = some (.slice a n c) := hT
          have hT3 : ((w5.alloc (.cells #[.int .i64 oc, .int .i64 oa, .int .i64 os, .bool oi, .int .i64 orc, .int .i64 ora, .int .i32 och] 34)).alloc (.cells #[] 34)).drew.cell? ⟨T, 0, none⟩ = some (.slice a n c) := hT
          go_simp
          clear hT hT2 hT3
          refine hK.out _ _ (HSS.out _ ((HEA.out _ _).2)) (fun hHeld => ?_)
          clear hK KK
          try simp only [Act.put, List.getElem_toArray, List.getElem_cons_succ, List.getElem_cons_zero, List.setIfInBounds_toArray, List.set_cons_zero, List.set_cons_succ]
          refine wpAnyH_ready (rs := [6]) (by kernel_rfl) (by simp) ?_
          refine AllReadyH.cons rfl (fun KK hK => ?_) ?_
          · have HZ : Hid (Below w5.heap.size w5 ((w5.drew.alloc (.cells #[.int .i64 oc, .int .i64 oa, .int .i64 os, .bool oi, .int .i64 orc, .int .i64 ora, .int .i32 och] 34)).alloc (.cells #[] 34)) ∧ ((w5.drew.alloc (.cells #[.int .i64 oc, .int .i64 oa, .int .i64 os, .bool oi, .int .i64 orc, .int .i64 ora, .int .i32 och] 34)).alloc (.cells #[] 34)).ownsRow w5.heap.size 34 7 (.slice (some ⟨w5.heap.size + 1, 0, none⟩) 0 0) 0 []) := ⟨(HEA.out _ _).2, by
              have h : ((w5.drew.alloc (.cells #[.int .i64 oc, .int .i64 oa, .int .i64 os, .bool oi, .int .i64 orc, .int .i64 ora, .int .i32 och] 34)).alloc (.cells #[] 34)).ownsRow w5.heap.size 34 7 (.slice (some ⟨(w5.drew.alloc (.cells #[.int .i64 oc, .int .i64 oa, .int .i64 os, .bool oi, .int .i64 orc, .int .i64 ora, .int .i32 och] 34)).heap.size, 0, none⟩) 0 0) 0 [] := World.ownsRow_made (w5.drew.alloc (.cells #[.int .i64 oc, .int .i64 oa, .int .i64 os, .bool oi, .int .i64 orc, .int .i64 ora, .int .i32 och] 34)) #[] 0 (by simp) (by simp [maxLen]) rfl
              rw [World.size_alloc] at h
              exact h⟩
            refine step_append_src rfl (.tmp 51) (.tmp 55) 22 rfl w5.heap.size 34 i0 op0.val 7 56 Try.underlying22 hi0 hz0 hz1 hz2 rfl (by decide) (.slice (some ⟨w5.heap.size + 1, 0, none⟩) 0 0) 0 _ (by simp [Act.eval]) HZ.out.2 a n c (flatP O) (by simp [Act.eval]) (HROW.out _ HZ.out.1) (by unfold maxLen; omega) (by omega) HZ.out.1.size (fun v2 Wx o2 g2 => ?_)
            have HBx : Hid (Below w5.heap.size w5 Wx) := HZ.out.1.grown g2 HZ.out.1.size (fun j hj => (HZ.out.2.lt j hj).1)
            have HO2 : Hid (Wx.ownsRow w5.heap.size 34 7 v2 n (flatP O)) := by
              show World.ownsRow _ _ _ _ _ _ _
              simpa using o2
            have HCX : Hid (Wx.heap[w5.heap.size]? = some (.cells #[.int .i64 oc, .int .i64 oa, .int .i64 os, .bool oi, .int .i64 orc, .int .i64 ora, .int .i32 och] 34)) := (g2.block (w5.heap.size) (by simp <;> omega) (fun h => by have h : some (w5.heap.size) = some (w5.heap.size + 1) := h; injection h with h; omega)).trans ((((Below.refl _ _).alloc (Nat.le_refl _) _).block w5.heap.size (by simp)).trans (heap_alloc_new w5.drew (.cells #[.int .i64 oc, .int .i64 oa, .int .i64 os, .bool oi, .int .i64 orc, .int .i64 ora, .int .i32 och] 34)))
            clear o2 g2
            refine hK.out _ _ (HSS.out _ HBx.out) (fun hHeld => ?_)
            clear hK KK
            try simp only [Act.put, List.getElem_toArray, List.getElem_cons_succ, List.getElem_cons_zero, List.setIfInBounds_toArray, List.set_cons_zero, List.set_cons_succ]
            refine wpAnyH_ready (rs := [9]) (by kernel_rfl) (by simp) ?_
            refine AllReadyH.cons rfl (fun KK hK => ?_) ?_
            · refine step_append_src rfl (.tmp 56) (.tmp 58) 22 rfl w5.heap.size 34 i0 op0.val 7 56 Try.underlying22 hi0 hz0 hz1 hz2 rfl (by decide) v2 n _ (by simp [Act.eval]) HO2.out (some ⟨w5.heap.size, 0, none⟩) 1 1 [.int .i64 oc, .int .i64 oa, .int .i64 os, .bool oi, .int .i64 orc, .int .i64 ora, .int .i32 och] (by simp [Act.eval]) (srcO16 (o := ⟨oc, oa, os, oi, orc, ora, och⟩) HCX.out) (by unfold maxLen; omega) (by omega) HBx.out.size (fun v3 Wy o3 g3 => ?_)
              have HBy : Hid (Below w5.heap.size w5 Wy) := (HBx.out).grown g3 (HBx.out).size (fun j hj => (HO2.out.lt j hj).1)
              have ho3 : Wy.ownsRow w5.heap.size 34 7 v3 (n + 1) (flatP (O ++ [⟨oc, oa, os, oi, orc, ora, och⟩])) := by
                rw [flatP_app, flatP_one]
                exact o3
              obtain ⟨a3, c3, rfl, _⟩ := rdP_own ho3
              have HR3 : Hid (Wy.ownsRow w5.heap.size 34 7 (.slice a3 (n + 1) c3) (n + 1) (flatP (O ++ [⟨oc, oa, os, oi, orc, ora, och⟩]))) := ho3
              clear o3 g3 ho3
              refine hK.out _ _ (HSS.out _ HBy.out) (fun hHeld => ?_)
              clear hK KK
              try simp only [Act.put, List.getElem_toArray, List.getElem_cons_succ, List.getElem_cons_zero, List.setIfInBounds_toArray, List.set_cons_zero, List.set_cons_succ]
              refine wpAnyH_take (i := 10) (v := ?_) rfl (by kernel_rfl) (by kernel_rfl) (by kernel_rfl) (fun _ _ _ h => h) (Or.inl ⟨by rfl, ?_⟩) (by assumption) ?_
              rotate_left
              · intro W' hSw; obtain ⟨t0, t1, t2, t3, t4, t5, t6⟩ := hSw; go_simp; try with_reducible rfl
              try simp only [Act.put, List.getElem_toArray, List.getElem_cons_succ, List.getElem_cons_zero, List.setIfInBounds_toArray, List.set_cons_zero, List.set_cons_succ]
              refine wpAnyH_take (i := 11) (v := ?_) rfl (by kernel_rfl) (by kernel_rfl) (by kernel_rfl) (fun _ _ _ h => h) (Or.inl ⟨by rfl, ?_⟩) (by assumption) ?_
              rotate_left
              · intro W' hSw; obtain ⟨t0, t1, t2, t3, t4, t5, t6⟩ := hSw; go_simp; try with_reducible rfl
              try simp only [Act.put, List.getElem_toArray, List.getElem_cons_succ, List.getElem_cons_zero, List.setIfInBounds_toArray, List.set_cons_zero, List.set_cons_succ]
              refine wpAnyH_ready (rs := [12]) (by kernel_rfl) (by simp) ?_
              refine AllReadyH.cons rfl (fun KK hK => ?_) AllReadyH.nil
              obtain ⟨hT, hTf⟩ := HTT.out Wy HBy.out
              go_simp
              refine hK.out _ _ (HSF.out _ _ HBy.out) (fun hHeld => ?_)
              clear hK KK
              try simp only [Act.put, List.getElem_toArray, List.getElem_cons_succ, List.getElem_cons_zero, List.setIfInBounds_toArray, List.set_cons_zero, List.set_cons_succ]
              refine wpAnyH_done (by kernel_rfl) ?_ _
              refine NoPanic.normal ?_
              clear hHeld hT hTf
              have HF : Hid (Q (Wy.setCell ⟨T, 0, none⟩ (.slice a3 (n + 1) c3))) := HEND.out Wy _ _ HBy.out HR3.out
              go_wp2
              go_ret2
              exact ⟨rfl, HF.out⟩
            exact AllReadyH.nil
          exact AllReadyH.nil
        exact AllReadyH.nil
      refine AllReadyH.cons rfl (fun KK hK => ?_) ?_
      · obtain ⟨hT, -⟩ := HTT.out (w5.drew.alloc (.cells #[.int .i64 oc, .int .i64 oa, .int .i64 os, .bool oi, .int .i64 orc, .int .i64 ora, .int .i32 och] 34)) (HEA1.out _)
        have hT2 : (w5.alloc (.cells #[.int .i64 oc, .int .i64 oa, .int .i64 os, .bool oi, .int .i64 orc, .int .i64 ora, .int .i32 och] 34)).cell? ⟨T, 0, none⟩ = some (.slice a n c) := hT
        have hT3 : (w5.alloc (.cells #[.int .i64 oc, .int .i64 oa, .int .i64 os, .bool oi, .int .i64 orc, .int .i64 ora, .int .i32 och] 34)).drew.cell? ⟨T, 0, none⟩ = some (.slice a n c) := hT
        go_simp
        clear hT hT2 hT3
        refine hK.out _ _ (HSS.out _ (HEA1.out _)) (fun hHeld => ?_)
        clear hK KK
        try simp only [Act.put, List.getElem_toArray, List.getElem_cons_succ, List.getElem_cons_zero, List.setIfInBounds_toArray, List.set_cons_zero, List.set_cons_succ]
        refine wpAnyH_ready (rs := [1]) (by kernel_rfl) (by simp) ?_
        refine AllReadyH.cons rfl (fun KK hK => ?_) ?_
        · go_simp
          refine hK.out _ _ (HSS.out _ ((HEA.out _ _).2)) (fun hHeld => ?_)
          clear hK KK
          try simp only [Act.put, List.getElem_toArray, List.getElem_cons_succ, List.getElem_cons_zero, List.setIfInBounds_toArray, List.set_cons_zero, List.set_cons_succ]
          refine wpAnyH_ready (rs := [6]) (by kernel_rfl) (by simp) ?_
          refine AllReadyH.cons rfl (fun KK hK => ?_) ?_
          · have HZ : Hid (Below w5.heap.size w5 ((w5.drew.alloc (.cells #[.int .i64 oc, .int .i64 oa, .int .i64 os, .bool oi, .int .i64 orc, .int .i64 ora, .int .i32 och] 34)).alloc (.cells #[] 34)) ∧ ((w5.drew.alloc (.cells #[.int .i64 oc, .int .i64 oa, .int .i64 os, .bool oi, .int .i64 orc, .int .i64 ora, .int .i32 och] 34)).alloc (.cells #[] 34)).ownsRow w5.heap.size 34 7 (.slice (some ⟨w5.heap.size + 1, 0, none⟩) 0 0) 0 []) := ⟨(HEA.out _ _).2, by
              have h : ((w5.drew.alloc (.cells #[.int .i64 oc, .int .i64 oa, .int .i64 os, .bool oi, .int .i64 orc, .int .i64 ora, .int .i32 och] 34)).alloc (.cells #[] 34)).ownsRow w5.heap.size 34 7 (.slice (some ⟨(w5.drew.alloc (.cells #[.int .i64 oc, .int .i64 oa, .int .i64 os, .bool oi, .int .i64 orc, .int .i64 ora, .int .i32 och] 34)).heap.size, 0, none⟩) 0 0) 0 [] := World.ownsRow_made (w5.drew.alloc (.cells #[.int .i64 oc, .int .i64 oa, .int .i64 os, .bool oi, .int .i64 orc, .int .i64 ora, .int .i32 och] 34)) #[] 0 (by simp) (by simp [maxLen]) rfl
              rw [World.size_alloc] at h
              exact h⟩
            refine step_append_src rfl (.tmp 51) (.tmp 55) 22 rfl w5.heap.size 34 i0 op0.val 7 56 Try.underlying22 hi0 hz0 hz1 hz2 rfl (by decide) (.slice (some ⟨w5.heap.size + 1, 0, none⟩) 0 0) 0 _ (by simp [Act.eval]) HZ.out.2 a n c (flatP O) (by simp [Act.eval]) (HROW.out _ HZ.out.1) (by unfold maxLen; omega) (by omega) HZ.out.1.size (fun v2 Wx o2 g2 => ?_)
            have HBx : Hid (Below w5.heap.size w5 Wx) := HZ.out.1.grown g2 HZ.out.1.size (fun j hj => (HZ.out.2.lt j hj).1)
            have HO2 : Hid (Wx.ownsRow w5.heap.size 34 7 v2 n (flatP O)) := by
              show World.ownsRow _ _ _ _ _ _ _
              simpa using o2
            have HCX : Hid (Wx.heap[w5.heap.size]? = some (.cells #[.int .i64 oc, .int .i64 oa, .int .i64 os, .bool oi, .int .i64 orc, .int .i64 ora, .int .i32 och] 34)) := (g2.block (w5.heap.size) (by simp <;> omega) (fun h => by have h : some (w5.heap.size) = some (w5.heap.size + 1) := h; injection h with h; omega)).trans ((((Below.refl _ _).alloc (Nat.le_refl _) _).block w5.heap.size (by simp)).trans (heap_alloc_new w5.drew (.cells #[.int .i64 oc, .int .i64 oa, .int .i64 os, .bool oi, .int .i64 orc, .int .i64 ora, .int .i32 och] 34)))
            clear o2 g2
            refine hK.out _ _ (HSS.out _ HBx.out) (fun hHeld => ?_)
            clear hK KK
            try simp only [Act.put, List.getElem_toArray, List.getElem_cons_succ, List.getElem_cons_zero, List.setIfInBounds_toArray, List.set_cons_zero, List.set_cons_succ]
            refine wpAnyH_ready (rs := [9]) (by kernel_rfl) (by simp) ?_
            refine AllReadyH.cons rfl (fun KK hK => ?_) ?_
            · refine step_append_src rfl (.tmp 56) (.tmp 58) 22 rfl w5.heap.size 34 i0 op0.val 7 56 Try.underlying22 hi0 hz0 hz1 hz2 rfl (by decide) v2 n _ (by simp [Act.eval]) HO2.out (some ⟨w5.heap.size, 0, none⟩) 1 1 [.int .i64 oc, .int .i64 oa, .int .i64 os, .bool oi, .int .i64 orc, .int .i64 ora, .int .i32 och] (by simp [Act.eval]) (srcO16 (o := ⟨oc, oa, os, oi, orc, ora, och⟩) HCX.out) (by unfold maxLen; omega) (by omega) HBx.out.size (fun v3 Wy o3 g3 => ?_)
              have HBy : Hid (Below w5.heap.size w5 Wy) := (HBx.out).grown g3 (HBx.out).size (fun j hj => (HO2.out.lt j hj).1)
              have ho3 : Wy.ownsRow w5.heap.size 34 7 v3 (n + 1) (flatP (O ++ [⟨oc, oa, os, oi, orc, ora, och⟩])) := by
                rw [flatP_app, flatP_one]
                exact o3
              obtain ⟨a3, c3, rfl, _⟩ := rdP_own ho3
              have HR3 : Hid (Wy.ownsRow w5.heap.size 34 7 (.slice a3 (n + 1) c3) (n + 1) (flatP (O ++ [⟨oc, oa, os, oi, orc, ora, och⟩]))) := ho3
              clear o3 g3 ho3
              refine hK.out _ _ (HSS.out _ HBy.out) (fun hHeld => ?_)
              clear hK KK
              try simp only [Act.put, List.getElem_toArray, List.getElem_cons_succ, List.getElem_cons_zero, List.setIfInBounds_toArray, List.set_cons_zero, List.set_cons_succ]
              refine wpAnyH_take (i := 10) (v := ?_) rfl (by kernel_rfl) (by kernel_rfl) (by kernel_rfl) (fun _ _ _ h => h) (Or.inl ⟨by rfl, ?_⟩) (by assumption) ?_
              rotate_left
              · intro W' hSw; obtain ⟨t0, t1, t2, t3, t4, t5, t6⟩ := hSw; go_simp; try with_reducible rfl
              try simp only [Act.put, List.getElem_toArray, List.getElem_cons_succ, List.getElem_cons_zero, List.setIfInBounds_toArray, List.set_cons_zero, List.set_cons_succ]
              refine wpAnyH_take (i := 11) (v := ?_) rfl (by kernel_rfl) (by kernel_rfl) (by kernel_rfl) (fun _ _ _ h => h) (Or.inl ⟨by rfl, ?_⟩) (by assumption) ?_
              rotate_left
              · intro W' hSw; obtain ⟨t0, t1, t2, t3, t4, t5, t6⟩ := hSw; go_simp; try with_reducible rfl
              try simp only [Act.put, List.getElem_toArray, List.getElem_cons_succ, List.getElem_cons_zero, List.setIfInBounds_toArray, List.set_cons_zero, List.set_cons_succ]
              refine wpAnyH_ready (rs := [12]) (by kernel_rfl) (by simp) ?_
              refine AllReadyH.cons rfl (fun KK hK => ?_) AllReadyH.nil
              obtain ⟨hT, hTf⟩ := HTT.out Wy HBy.out
              go_simp
              refine hK.out _ _ (HSF.out _ _ HBy.out) (fun hHeld => ?_)
              clear hK KK
              try simp only [Act.put, List.getElem_toArray, List.getElem_cons_succ, List.getElem_cons_zero, List.setIfInBounds_toArray, List.set_cons_zero, List.set_cons_succ]
              refine wpAnyH_done (by kernel_rfl) ?_ _
              refine NoPanic.normal ?_
              clear hHeld hT hTf
              have HF : Hid (Q (Wy.setCell ⟨T, 0, none⟩ (.slice a3 (n + 1) c3))) := HEND.out Wy _ _ HBy.out HR3.out
              go_wp2
              go_ret2
              exact ⟨rfl, HF.out⟩
            exact AllReadyH.nil
          exact AllReadyH.nil
        exact AllReadyH.nil
      exact AllReadyH.nil
    exact AllReadyH.nil
  · go_upto_region 12 with fail
    clear q0 q1 q2 q3 q4 q5 q6 hs1 hs2 hd1 hd2
    refine wp_region_noPanic ?_
    refine wp_region_held_drew (S := (fun w' => w'.cell? ⟨X, 0, none⟩ = some (.int .i64 oc) ∧ w'.cell? ⟨X, 1, none⟩ = some (.int .i64 oa) ∧ w'.cell? ⟨X, 2, none⟩ = some (.int .i64 os) ∧ w'.cell? ⟨X, 3, none⟩ = some (.bool oi) ∧ w'.cell? ⟨X, 4, none⟩ = some (.int .i64 0) ∧ w'.cell? ⟨X, 5, none⟩ = some (.int .i64 0) ∧ w'.cell? ⟨X, 6, none⟩ = some (.int .i32 och))) (by kernel_rfl) (HSS.out _ (Below.refl _ w5).drew) (fun hHeld => ?_)
    refine wpAnyH_take (i := 0) (v := ?_) rfl (by kernel_rfl) (by kernel_rfl) (by kernel_rfl) (fun _ _ _ h => h) (Or.inl ⟨by rfl, ?_⟩) (by assumption) ?_
    rotate_left
    · intro W' hSw; obtain ⟨t0, t1, t2, t3, t4, t5, t6⟩ := hSw; go_simp; try with_reducible rfl
    try simp only [Act.put, List.getElem_toArray, List.getElem_cons_succ, List.getElem_cons_zero, List.setIfInBounds_toArray, List.set_cons_zero, List.set_cons_succ]
    refine wpAnyH_take (i := 2) (v := ?_) rfl (by kernel_rfl) (by kernel_rfl) (by kernel_rfl) (fun _ _ _ h => h) (Or.inl ⟨by rfl, ?_⟩) (by assumption) ?_
    rotate_left
    · intro W' hSw; obtain ⟨t0, t1, t2, t3, t4, t5, t6⟩ := hSw; go_simp; try with_reducible rfl
    try simp only [Act.put, List.getElem_toArray, List.getElem_cons_succ, List.getElem_cons_zero, List.setIfInBounds_toArray, List.set_cons_zero, List.set_cons_succ]
    refine wpAnyH_take (i := 3) (v := ?_) rfl (by kernel_rfl) (by kernel_rfl) (by kernel_rfl) (fun _ _ _ h => h) (Or.inl ⟨by rfl, ?_⟩) (by assumption) ?_
    rotate_left
    · intro W' hSw; obtain ⟨t0, t1, t2, t3, t4, t5, t6⟩ := hSw; go_simp; try with_reducible rfl
    try simp only [Act.put, List.getElem_toArray, List.getElem_cons_succ, List.getElem_cons_zero, List.setIfInBounds_toArray, List.set_cons_zero, List.set_cons_succ]
    refine wpAnyH_take (i := 4) (v := ?_) rfl (by kernel_rfl) (by kernel_rfl) (by kernel_rfl) (fun _ _ _ h => h) (Or.inl ⟨by rfl, ?_⟩) (by assumption) ?_
    rotate_left
    · intro W' hSw; obtain ⟨t0, t1, t2, t3, t4, t5, t6⟩ := hSw; go_simp; try with_reducible rfl
    try simp only [Act.put, List.getElem_toArray, List.getElem_cons_succ, List.getElem_cons_zero, List.setIfInBounds_toArray, List.set_cons_zero, List.set_cons_succ]
    refine wpAnyH_take (i := 7) (v := ?_) rfl (by kernel_rfl) (by kernel_rfl) (by kernel_rfl) (fun _ _ _ h => h) (Or.inl ⟨by rfl, ?_⟩) (by assumption) ?_
    rotate_left
    · intro W' hSw; obtain ⟨t0, t1, t2, t3, t4, t5, t6⟩ := hSw; go_simp; try with_reducible rfl
    try simp only [Act.put, List.getElem_toArray, List.getElem_cons_succ, List.getElem_cons_zero, List.setIfInBounds_toArray, List.set_cons_zero, List.set_cons_succ]
    refine wpAnyH_ready (rs := [1, 5, 8]) (by kernel_rfl) (by simp) ?_
    refine AllReadyH.cons rfl (fun KK hK => ?_) ?_
    · go_simp
      refine hK.out _ _ (HSS.out _ (HEA1.out _)) (fun hHeld => ?_)
      clear hK KK
      try simp only [Act.put, List.getElem_toArray, List.getElem_cons_succ, List.getElem_cons_zero, List.setIfInBounds_toArray, List.set_cons_zero, List.set_cons_succ]
      refine wpAnyH_ready (rs := [5, 8]) (by kernel_rfl) (by simp) ?_
      refine AllReadyH.cons rfl (fun KK hK => ?_) ?_
      · obtain ⟨hT, -⟩ := HTT.out (w5.drew.alloc (.cells #[] 34)) (HEA1.out _)
        have hT2 : (w5.alloc (.cells #[] 34)).cell? ⟨T, 0, none⟩ = some (.slice a n c) := hT
        have hT3 : (w5.alloc (.cells #[] 34)).drew.cell? ⟨T, 0, none⟩ = some (.slice a n c) := hT
        go_simp
        clear hT hT2 hT3
        refine hK.out _ _ (HSS.out _ (HEA1.out _)) (fun hHeld => ?_)
        clear hK KK
        try simp only [Act.put, List.getElem_toArray, List.getElem_cons_succ, List.getElem_cons_zero, List.setIfInBounds_toArray, List.set_cons_zero, List.set_cons_succ]
        refine wpAnyH_ready (rs := [6, 8]) (by kernel_rfl) (by simp) ?_
        refine AllReadyH.cons rfl (fun KK hK => ?_) ?_
        · have HZ : Hid (Below w5.heap.size w5 (w5.drew.alloc (.cells #[] 34)) ∧ (w5.drew.alloc (.cells #[] 34)).ownsRow w5.heap.size 34 7 (.slice (some ⟨w5.heap.size, 0, none⟩) 0 0) 0 []) := ⟨HEA1.out _, World.ownsRow_made w5.drew #[] 0 (Nat.le_refl _) (by simp [maxLen]) rfl⟩
          refine step_append_src rfl (.tmp 51) (.tmp 55) 22 rfl w5.heap.size 34 i0 op0.val 7 56 Try.underlying22 hi0 hz0 hz1 hz2 rfl (by decide) (.slice (some ⟨w5.heap.size, 0, none⟩) 0 0) 0 _ (by simp [Act.eval]) HZ.out.2 a n c (flatP O) (by simp [Act.eval]) (HROW.out _ HZ.out.1) (by unfold maxLen; omega) (by omega) HZ.out.1.size (fun v2 Wx o2 g2 => ?_)
          have HBx : Hid (Below w5.heap.size w5 Wx) := HZ.out.1.grown g2 HZ.out.1.size (fun j hj => (HZ.out.2.lt j hj).1)
          have HO2 : Hid (Wx.ownsRow w5.heap.size 34 7 v2 n (flatP O)) := by
            show World.ownsRow _ _ _ _ _ _ _
            simpa using o2
          clear o2 g2
          refine hK.out _ _ (HSS.out _ HBx.out) (fun hHeld => ?_)
          clear hK KK
          try simp only [Act.put, List.getElem_toArray, List.getElem_cons_succ, List.getElem_cons_zero, List.setIfInBounds_toArray, List.set_cons_zero, List.set_cons_succ]
          refine wpAnyH_ready (rs := [8]) (by kernel_rfl) (by simp) ?_
          refine AllReadyH.cons rfl (fun KK hK => ?_) ?_
          · go_simp
            refine hK.out _ _ (HSS.out _ (HBx.out.alloc HBx.out.size _)) (fun hHeld => ?_)
            clear hK KK
            try simp only [Act.put, List.getElem_toArray, List.getElem_cons_succ, List.getElem_cons_zero, List.setIfInBounds_toArray, List.set_cons_zero, List.set_cons_succ]
            refine wpAnyH_ready (rs := [9]) (by kernel_rfl) (by simp) ?_
            refine AllReadyH.cons rfl (fun KK hK => ?_) ?_
            · refine step_append_src rfl (.tmp 56) (.tmp 58) 22 rfl w5.heap.size 34 i0 op0.val 7 56 Try.underlying22 hi0 hz0 hz1 hz2 rfl (by decide) v2 n _ (by simp [Act.eval]) (HO2.out.alloc _) (some ⟨Wx.heap.size, 0, none⟩) 1 1 [.int .i64 oc, .int .i64 oa, .int .i64 os, .bool oi, .int .i64 0, .int .i64 0, .int .i32 och] (by simp [Act.eval]) (srcO16 (o := ⟨oc, oa, os, oi, 0, 0, och⟩) (heap_alloc_new Wx _)) (by unfold maxLen; omega) (by omega) (HBx.out.alloc HBx.out.size _).size (fun v3 Wy o3 g3 => ?_)
              have HBy : Hid (Below w5.heap.size w5 Wy) := ((HBx.out.alloc HBx.out.size _)).grown g3 ((HBx.out.alloc HBx.out.size _)).size (fun j hj => (HO2.out.lt j hj).1)
              have ho3 : Wy.ownsRow w5.heap.size 34 7 v3 (n + 1) (flatP (O ++ [⟨oc, oa, os, oi, 0, 0, och⟩])) := by
                rw [flatP_app, flatP_one]
                exact o3
              obtain ⟨a3, c3, rfl, _⟩ := rdP_own ho3
              have HR3 : Hid (Wy.ownsRow w5.heap.size 34 7 (.slice a3 (n + 1) c3) (n + 1) (flatP (O ++ [⟨oc, oa, os, oi, 0, 0, och⟩]))) := ho3
              clear o3 g3 ho3
              refine hK.out _ _ (HSS.out _ HBy.out) (fun hHeld => ?_)
              clear hK KK
              try simp only [Act.put, List.getElem_toArray, List.getElem_cons_succ, List.getElem_cons_zero, List.setIfInBounds_toArray, List.set_cons_zero, List.set_cons_succ]
              refine wpAnyH_take (i := 10) (v := ?_) rfl (by kernel_rfl) (by kernel_rfl) (by kernel_rfl) (fun _ _ _ h => h) (Or.inl ⟨by rfl, ?_⟩) (by assumption) ?_
              rotate_left
              · intro W' hSw; obtain ⟨t0, t1, t2, t3, t4, t5, t6⟩ := hSw; go_simp; try with_reducible rfl
              try simp only [Act.put, List.getElem_toArray, List.getElem_cons_succ, List.getElem_cons_zero, List.setIfInBounds_toArray, List.set_cons_zero, List.set_cons_succ]
              refine wpAnyH_take (i := 11) (v := ?_) rfl (by kernel_rfl) (by kernel_rfl) (by kernel_rfl) (fun _ _ _ h => h) (Or.inl ⟨by rfl, ?_⟩) (by assumption) ?_
              rotate_left
              · intro W' hSw; obtain ⟨t0, t1, t2, t3, t4, t5, t6⟩ := hSw; go_simp; try with_reducible rfl
              try simp only [Act.put, List.getElem_toArray, List.getElem_cons_succ, List.getElem_cons_zero, List.setIfInBounds_toArray, List.set_cons_zero, List.set_cons_succ]
              refine wpAnyH_ready (rs := [12]) (by kernel_rfl) (by simp) ?_
              refine AllReadyH.cons rfl (fun KK hK => ?_) AllReadyH.nil
              obtain ⟨hT, hTf⟩ := HTT.out Wy HBy.out
              go_simp
              refine hK.out _ _ (HSF.out _ _ HBy.out) (fun hHeld => ?_)
              clear hK KK
              try simp only [Act.put, List.getElem_toArray, List.getElem_cons_succ, List.getElem_cons_zero, List.setIfInBounds_toArray, List.set_cons_zero, List.set_cons_succ]
              refine wpAnyH_done (by kernel_rfl) ?_ _
              refine NoPanic.normal ?_
              clear hHeld hT hTf
              have HF : Hid (Q (Wy.setCell ⟨T, 0, none⟩ (.slice a3 (n + 1) c3))) := HEND.out Wy _ _ HBy.out HR3.out
              go_wp2
              go_ret2
              exact ⟨rfl, HF.out⟩
            exact AllReadyH.nil
          exact AllReadyH.nil
        refine AllReadyH.cons rfl (fun KK hK => ?_) ?_
        · go_simp
          refine hK.out _ _ (HSS.out _ ((HEA.out _ _).2)) (fun hHeld => ?_)
          clear hK KK
          try simp only [Act.put, List.getElem_toArray, List.getElem_cons_succ, List.getElem_cons_zero, List.setIfInBounds_toArray, List.set_cons_zero, List.set_cons_succ]
          refine wpAnyH_ready (rs := [6]) (by kernel_rfl) (by simp) ?_
          refine AllReadyH.cons rfl (fun KK hK => ?_) ?_
          · have HZ : Hid (Below w5.heap.size w5 ((w5.drew.alloc (.cells #[] 34)).alloc (.cells #[.int .i64 oc, .int .i64 oa, .int .i64 os, .bool oi, .int .i64 0, .int .i64 0, .int .i32 och] 34)) ∧ ((w5.drew.alloc (.cells #[] 34)).alloc (.cells #[.int .i64 oc, .int .i64 oa, .int .i64 os, .bool oi, .int .i64 0, .int .i64 0, .int .i32 och] 34)).ownsRow w5.heap.size 34 7 (.slice (some ⟨w5.heap.size, 0, none⟩) 0 0) 0 []) := ⟨(HEA.out _ _).2, (show (w5.drew.alloc (.cells #[] 34)).ownsRow w5.heap.size 34 7 (.slice (some ⟨w5.heap.size, 0, none⟩) 0 0) 0 [] from World.ownsRow_made w5.drew #[] 0 (Nat.le_refl _) (by simp [maxLen]) rfl).alloc _⟩
            refine step_append_src rfl (.tmp 51) (.tmp 55) 22 rfl w5.heap.size 34 i0 op0.val 7 56 Try.underlying22 hi0 hz0 hz1 hz2 rfl (by decide) (.slice (some ⟨w5.heap.size, 0, none⟩) 0 0) 0 _ (by simp [Act.eval]) HZ.out.2 a n c (flatP O) (by simp [Act.eval]) (HROW.out _ HZ.out.1) (by unfold maxLen; omega) (by omega) HZ.out.1.size (fun v2 Wx o2 g2 => ?_)
            have HBx : Hid (Below w5.heap.size w5 Wx) := HZ.out.1.grown g2 HZ.out.1.size (fun j hj => (HZ.out.2.lt j hj).1)
            have HO2 : Hid (Wx.ownsRow w5.heap.size 34 7 v2 n (flatP O)) := by
              show World.ownsRow _ _ _ _ _ _ _
              simpa using o2
            have HCX : Hid (Wx.heap[w5.heap.size + 1]? = some (.cells #[.int .i64 oc, .int .i64 oa, .int .i64 os, .bool oi, .int .i64 0, .int .i64 0, .int .i32 och] 34)) := (g2.block (w5.heap.size + 1) (by simp <;> omega) (fun h => by have h : some (w5.heap.size + 1) = some (w5.heap.size) := h; injection h with h; omega)).trans (by have := heap_alloc_new (w5.drew.alloc (.cells #[] 34)) (.cells #[.int .i64 oc, .int .i64 oa, .int .i64 os, .bool oi, .int .i64 0, .int .i64 0, .int .i32 och] 34); rw [World.size_alloc] at this; exact this)
            clear o2 g2
            refine hK.out _ _ (HSS.out _ HBx.out) (fun hHeld => ?_)
            clear hK KK
            try simp only [Act.put, List.getElem_toArray, List.getElem_cons_succ, List.getElem_cons_zero, List.setIfInBounds_toArray, List.set_cons_zero, List.set_cons_succ]
            refine wpAnyH_ready (rs := [9]) (by kernel_rfl) (by simp) ?_
            refine AllReadyH.cons rfl (fun KK hK => ?_) ?_
            · refine step_append_src rfl (.tmp 56) (.tmp 58) 22 rfl w5.heap.size 34 i0 op0.val 7 56 Try.underlying22 hi0 hz0 hz1 hz2 rfl (by decide) v2 n _ (by simp [Act.eval]) HO2.out (some ⟨w5.heap.size + 1, 0, none⟩) 1 1 [.int .i64 oc, .int .i64 oa, .int .i64 os, .bool oi, .int .i64 0, .int .i64 0, .int .i32 och] (by simp [Act.eval]) (srcO16 (o := ⟨oc, oa, os, oi, 0, 0, och⟩) HCX.out) (by unfold maxLen; omega) (by omega) HBx.out.size (fun v3 Wy o3 g3 => ?_)
              have HBy : Hid (Below w5.heap.size w5 Wy) := (HBx.out).grown g3 (HBx.out).size (fun j hj => (HO2.out.lt j hj).1)
              have ho3 : Wy.ownsRow w5.heap.size 34 7 v3 (n + 1) (flatP (O ++ [⟨oc, oa, os, oi, 0, 0, och⟩])) := by
                rw [flatP_app, flatP_one]
                exact o3
              obtain ⟨a3, c3, rfl, _⟩ := rdP_own ho3
              have HR3 : Hid (Wy.ownsRow w5.heap.size 34 7 (.slice a3 (n + 1) c3) (n + 1) (flatP (O ++ [⟨oc, oa, os, oi, 0, 0, och⟩]))) := ho3
              clear o3 g3 ho3
              refine hK.out _ _ (HSS.out _ HBy.out) (fun hHeld => ?_)
              clear hK KK
              try simp only [Act.put, List.getElem_toArray, List.getElem_cons_succ, List.getElem_cons_zero, List.setIfInBounds_toArray, List.set_cons_zero, List.set_cons_succ]
              refine wpAnyH_take (i := 10) (v := ?_) rfl (by kernel_rfl) (by kernel_rfl) (by kernel_rfl) (fun _ _ _ h => h) (Or.inl ⟨by rfl, ?_⟩) (by assumption) ?_
              rotate_left
              · intro W' hSw; obtain ⟨t0, t1, t2, t3, t4, t5, t6⟩ := hSw; go_simp; try with_reducible rfl
              try simp only [Act.put, List.getElem_toArray, List.getElem_cons_succ, List.getElem_cons_zero, List.setIfInBounds_toArray, List.set_cons_zero, List.set_cons_succ]
              refine wpAnyH_take (i := 11) (v := ?_) rfl (by kernel_rfl) (by kernel_rfl) (by kernel_rfl) (fun _ _ _ h => h) (Or.inl ⟨by rfl, ?_⟩) (by assumption) ?_
              rotate_left
              · intro W' hSw; obtain ⟨t0, t1, t2, t3, t4, t5, t6⟩ := hSw; go_simp; try with_reducible rfl
              try simp only [Act.put, List.getElem_toArray, List.getElem_cons_succ, List.getElem_cons_zero, List.setIfInBounds_toArray, List.set_cons_zero, List.set_cons_succ]
              refine wpAnyH_ready (rs := [12]) (by kernel_rfl) (by simp) ?_
              refine AllReadyH.cons rfl (fun KK hK => ?_) AllReadyH.nil
              obtain ⟨hT, hTf⟩ := HTT.out Wy HBy.out
              go_simp
              refine hK.out _ _ (HSF.out _ _ HBy.out) (fun hHeld => ?_)
              clear hK KK
              try simp only [Act.put, List.getElem_toArray, List.getElem_cons_succ, List.getElem_cons_zero, List.setIfInBounds_toArray, List.set_cons_zero, List.set_cons_succ]
              refine wpAnyH_done (by kernel_rfl) ?_ _
              refine NoPanic.normal ?_
              clear hHeld hT hTf
              have HF : Hid (Q (Wy.setCell ⟨T, 0, none⟩ (.slice a3 (n + 1) c3))) := HEND.out Wy _ _ HBy.out HR3.out
              go_wp2
              go_ret2
              exact ⟨rfl, HF.out⟩
            exact AllReadyH.nil
          exact AllReadyH.nil
        exact AllReadyH.nil
      refine AllReadyH.cons rfl (fun KK hK => ?_) ?_
      · go_simp
        refine hK.out _ _ (HSS.out _ ((HEA.out _ _).2)) (fun hHeld => ?_)
        clear hK KK
        try simp only [Act.put, List.getElem_toArray, List.getElem_cons_succ, List.getElem_cons_zero, List.setIfInBounds_toArray, List.set_cons_zero, List.set_cons_succ]
        refine wpAnyH_ready (rs := [5]) (by kernel_rfl) (by simp) ?_
        refine AllReadyH.cons rfl (fun KK hK => ?_) ?_
        · obtain ⟨hT, -⟩ := HTT.out ((w5.drew.alloc (.cells #[] 34)).alloc (.cells #[.int .i64 oc, .int .i64 oa, .int .i64 os, .bool oi, .int .i64 0, .int .i64 0, .int .i32 och] 34)) ((HEA.out _ _).2)
          have hT2 : ((w5.alloc (.cells #[] 34)).alloc (.cells #[.int .i64 oc, .int .i64 oa, .int .i64 os, .bool oi, .int .i64 0, .int .i64 0, .int .i32 och] 34)).cell? ⟨T, 0, none⟩ = some (.slice a n c) := hT
          have hT3 : ((w5.alloc (.cells #[] 34)).alloc (.cells #[.int .i64 oc, .int .i64 oa, .int .i64 os, .bool oi, .int .i64 0, .int .i64 0, .int .i32 och] 34)).drew.cell? ⟨T, 0, none⟩ = some (.slice a n c) := hT
          go_simp
          clear hT hT2 hT3
          refine hK.out _ _ (HSS.out _ ((HEA.out _ _).2)) (fun hHeld => ?_)
          clear hK KK
          try simp only [Act.put, List.getElem_toArray, List.getElem_cons_succ, List.getElem_cons_zero, List.setIfInBounds_toArray, List.set_cons_zero, List.set_cons_succ]
          refine wpAnyH_ready (rs := [6]) (by kernel_rfl) (by simp) ?_
          refine AllReadyH.cons rfl (fun KK hK => ?_) ?_
          · have HZ : Hid (Below w5.heap.size w5 ((w5.drew.alloc (.cells #[] 34)).alloc (.cells #[.int .i64 oc, .int .i64 oa, .int .i64 os, .bool oi, .int .i64 0, .int .i64 0, .int .i32 och] 34)) ∧ ((w5.drew.alloc (.cells #[] 34)).alloc (.cells #[.int .i64 oc, .int .i64 oa, .int .i64 os, .bool oi, .int .i64 0, .int .i64 0, .int .i32 och] 34)).ownsRow w5.heap.size 34 7 (.slice (some ⟨w5.heap.size, 0, none⟩) 0 0) 0 []) := ⟨(HEA.out _ _).2, (show (w5.drew.alloc (.cells #[] 34)).ownsRow w5.heap.size 34 7 (.slice (some ⟨w5.heap.size, 0, none⟩) 0 0) 0 [] from World.ownsRow_made w5.drew #[] 0 (Nat.le_refl _) (by simp [maxLen]) rfl).alloc _⟩
            refine step_append_src rfl (.tmp 51) (.tmp 55) 22 rfl w5.heap.size 34 i0 op0.val 7 56 Try.underlying22 hi0 hz0 hz1 hz2 rfl (by decide) (.slice (some ⟨w5.heap.size, 0, none⟩) 0 0) 0 _ (by simp [Act.eval]) HZ.out.2 a n c (flatP O) (by simp [Act.eval]) (HROW.out _ HZ.out.1) (by unfold maxLen; omega) (by omega) HZ.out.1.size (fun v2 Wx o2 g2 => ?_)
            have HBx : Hid (Below w5.heap.size w5 Wx) := HZ.out.1.grown g2 HZ.out.1.size (fun j hj => (HZ.out.2.lt j hj).1)
            have HO2 : Hid (Wx.ownsRow w5.heap.size 34 7 v2 n (flatP O)) := by
              show World.ownsRow _ _ _ _ _ _ _
              simpa using o2
            have HCX : Hid (Wx.heap[w5.heap.size + 1]? = some (.cells #[.int .i64 oc, .int .i64 oa, .int .i64 os, .bool oi, .int .i64 0, .int .i64 0, .int .i32 och] 34)) := (g2.block (w5.heap.size + 1) (by simp <;> omega) (fun h => by have h : some (w5.heap.size + 1) = some (w5.heap.size) := h; injection h with h; omega)).trans (by have := heap_alloc_new (w5.drew.alloc (.cells #[] 34)) (.cells #[.int .i64 oc, .int .i64 oa, .int .i64 os, .bool oi, .int .i64 0, .int .i64 0, .int .i32 och] 34); rw [World.size_alloc] at this; exact this)
            clear o2 g2
            refine hK.out _ _ (HSS.out _ HBx.out) (fun hHeld => ?_)
            clear hK KK
            try simp only [Act.put, List.getElem_toArray, List.getElem_cons_succ, List.getElem_cons_zero, List.setIfInBounds_toArray, List.set_cons_zero, List.set_cons_succ]
            refine wpAnyH_ready (rs := [9]) (by kernel_rfl) (by simp) ?_
            refine AllReadyH.cons rfl (fun KK hK => ?_) ?_
            · refine step_append_src rfl (.tmp 56) (.tmp 58) 22 rfl w5.heap.size 34 i0 op0.val 7 56 Try.underlying22 hi0 hz0 hz1 hz2 rfl (by decide) v2 n _ (by simp [Act.eval]) HO2.out (some ⟨w5.heap.size + 1, 0, none⟩) 1 1 [.int .i64 oc, .int .i64 oa, .int .i64 os, .bool oi, .int .i64 0, .int .i64 0, .int .i32 och] (by simp [Act.eval]) (srcO16 (o := ⟨oc, oa, os, oi, 0, 0, och⟩) HCX.out) (by unfold maxLen; omega) (by omega) HBx.out.size (fun v3 Wy o3 g3 => ?_)
              have HBy : Hid (Below w5.heap.size w5 Wy) := (HBx.out).grown g3 (HBx.out).size (fun j hj => (HO2.out.lt j hj).1)
              have ho3 : Wy.ownsRow w5.heap.size 34 7 v3 (n + 1) (flatP (O ++ [⟨oc, oa, os, oi, 0, 0, och⟩])) := by
                rw [flatP_app, flatP_one]
                exact o3
              obtain ⟨a3, c3, rfl, _⟩ := rdP_own ho3
              have HR3 : Hid (Wy.ownsRow w5.heap.size 34 7 (.slice a3 (n + 1) c3) (n + 1) (flatP (O ++ [⟨oc, oa, os, oi, 0, 0, och⟩]))) := ho3
              clear o3 g3 ho3
              refine hK.out _ _ (HSS.out _ HBy.out) (fun hHeld => ?_)
              clear hK KK
              try simp only [Act.put, List.getElem_toArray, List.getElem_cons_succ, List.getElem_cons_zero, List.setIfInBounds_toArray, List.set_cons_zero, List.set_cons_succ]
              refine wpAnyH_take (i := 10) (v := ?_) rfl (by kernel_rfl) (by kernel_rfl) (by kernel_rfl) (fun _ _ _ h => h) (Or.inl ⟨by rfl, ?_⟩) (by assumption) ?_
              rotate_left
              · intro W' hSw; obtain ⟨t0, t1, t2, t3, t4, t5, t6⟩ := hSw; go_simp; try with_reducible rfl
              try simp only [Act.put, List.getElem_toArray, List.getElem_cons_succ, List.getElem_cons_zero, List.setIfInBounds_toArray, List.set_cons_zero, List.set_cons_succ]
              refine wpAnyH_take (i := 11) (v := ?_) rfl (by kernel_rfl) (by kernel_rfl) (by kernel_rfl) (fun _ _ _ h => h) (Or.inl ⟨by rfl, ?_⟩) (by assumption) ?_
              rotate_left
              · intro W' hSw; obtain ⟨t0, t1, t2, t3, t4, t5, t6⟩ := hSw; go_simp; try with_reducible rfl
              try simp only [Act.put, List.getElem_toArray, List.getElem_cons_succ, List.getElem_cons_zero, List.setIfInBounds_toArray, List.set_cons_zero, List.set_cons_succ]
              refine wpAnyH_ready (rs := [12]) (by kernel_rfl) (by simp) ?_
              refine AllReadyH.cons rfl (fun KK hK => ?_) AllReadyH.nil
              obtain ⟨hT, hTf⟩ := HTT.out Wy HBy.out
              go_simp
              refine hK.out _ _ (HSF.out _ _ HBy.out) (fun hHeld => ?_)
              clear hK KK
              try simp only [Act.put, List.getElem_toArray, List.getElem_cons_succ, List.getElem_cons_zero, List.setIfInBounds_toArray, List.set_cons_zero, List.set_cons_succ]
              refine wpAnyH_done (by kernel_rfl) ?_ _
              refine NoPanic.normal ?_
              clear hHeld hT hTf
              have HF : Hid (Q (Wy.setCell ⟨T, 0, none⟩ (.slice a3 (n + 1) c3))) := HEND.out Wy _ _ HBy.out HR3.out
              go_wp2
              go_ret2
              exact ⟨rfl, HF.out⟩
            exact AllReadyH.nil
          exact AllReadyH.nil
        exact AllReadyH.nil
      exact AllReadyH.nil
    refine AllReadyH.cons rfl (fun KK hK => ?_) ?_
    · obtain ⟨hT, -⟩ := HTT.out w5.drew ((Below.refl _ w5).drew)
      have hT2 : w5.cell? ⟨T, 0, none⟩ = some (.slice a n c) := hT
      have hT3 : w5.drew.cell? ⟨T, 0, none⟩ = some (.slice a n c) := hT
      go_simp
      clear hT hT2 hT3
      refine hK.out _ _ (HSS.out _ ((Below.refl _ w5).drew)) (fun hHeld => ?_)
      clear hK KK
      try simp only [Act.put, List.getElem_toArray, List.getElem_cons_succ, List.getElem_cons_zero, List.setIfInBounds_toArray, List.set_cons_zero, List.set_cons_succ]
      refine wpAnyH_ready (rs := [1, 8]) (by kernel_rfl) (by simp) ?_
      refine AllReadyH.cons rfl (fun KK hK => ?_) ?_
      · go_simp
        refine hK.out _ _ (HSS.out _ (HEA1.out _)) (fun hHeld => ?_)
        clear hK KK
        try simp only [Act.put, List.getElem_toArray, List.getElem_cons_succ, List.getElem_cons_zero, List.setIfInBounds_toArray, List.set_cons_zero, List.set_cons_succ]
        refine wpAnyH_ready (rs := [6, 8]) (by kernel_rfl) (by simp) ?_
        refine AllReadyH.cons rfl (fun KK hK => ?_) ?_
        · have HZ : Hid (Below w5.heap.size w5 (w5.drew.alloc (.cells #[] 34)) ∧ (w5.drew.alloc (.cells #[] 34)).ownsRow w5.heap.size 34 7 (.slice (some ⟨w5.heap.size, 0, none⟩) 0 0) 0 []) := ⟨HEA1.out _, World.ownsRow_made w5.drew #[] 0 (Nat.le_refl _) (by simp [maxLen]) rfl⟩
          refine step_append_src rfl (.tmp 51) (.tmp 55) 22 rfl w5.heap.size 34 i0 op0.val 7 56 Try.underlying22 hi0 hz0 hz1 hz2 rfl (by decide) (.slice (some ⟨w5.heap.size, 0, none⟩) 0 0) 0 _ (by simp [Act.eval]) HZ.out.2 a n c (flatP O) (by simp [Act.eval]) (HROW.out _ HZ.out.1) (by unfold maxLen; omega) (by omega) HZ.out.1.size (fun v2 Wx o2 g2 => ?_)
          have HBx : Hid (Below w5.heap.size w5 Wx) := HZ.out.1.grown g2 HZ.out.1.size (fun j hj => (HZ.out.2.lt j hj).1)
          have HO2 : Hid (Wx.ownsRow w5.heap.size 34 7 v2 n (flatP O)) := by
            show World.ownsRow _ _ _ _ _ _ _
            simpa using o2
          clear o2 g2
          refine hK.out _ _ (HSS.out _ HBx.out) (fun hHeld => ?_)
          clear hK KK
          try simp only [Act.put, List.getElem_toArray, List.getElem_cons_succ, List.getElem_cons_zero, List.setIfInBounds_toArray, List.set_cons_zero, List.set_cons_succ]
          refine wpAnyH_ready (rs := [8]) (by kernel_rfl) (by simp) ?_
          refine AllReadyH.cons rfl (fun KK hK => ?_) ?_
          · go_simp
            refine hK.out _ _ (HSS.out _ (HBx.out.alloc HBx.out.size _)) (fun hHeld => ?_)
            clear hK KK
            try simp only [Act.put, List.getElem_toArray, List.getElem_cons_succ, List.getElem_cons_zero, List.setIfInBounds_toArray, List.set_cons_zero, List.set_cons_succ]
            refine wpAnyH_ready (rs := [9]) (by kernel_rfl) (by simp) ?_
            refine AllReadyH.cons rfl (fun KK hK => ?_) ?_
            · refine step_append_src rfl (.tmp 56) (.tmp 58) 22 rfl w5.heap.size 34 i0 op0.val 7 56 Try.underlying22 hi0 hz0 hz1 hz2 rfl (by decide) v2 n _ (by simp [Act.eval]) (HO2.out.alloc _) (some ⟨Wx.heap.size, 0, none⟩) 1 1 [.int .i64 oc, .int .i64 oa, .int .i64 os, .bool oi, .int .i64 0, .int .i64 0, .int .i32 och] (by simp [Act.eval]) (srcO16 (o := ⟨oc, oa, os, oi, 0, 0, och⟩) (heap_alloc_new Wx _)) (by unfold maxLen; omega) (by omega) (HBx.out.alloc HBx.out.size _).size (fun v3 Wy o3 g3 => ?_)
              have HBy : Hid (Below w5.heap.size w5 Wy) := ((HBx.out.alloc HBx.out.size _)).grown g3 ((HBx.out.alloc HBx.out.size _)).size (fun j hj => (HO2.out.lt j hj).1)
              have ho3 : Wy.ownsRow w5.heap.size 34 7 v3 (n + 1) (flatP (O ++ [⟨oc, oa, os, oi, 0, 0, och⟩])) := by
                rw [flatP_app, flatP_one]
                exact o3
              obtain ⟨a3, c3, rfl, _⟩ := rdP_own ho3
              have HR3 : Hid (Wy.ownsRow w5.heap.size 34 7 (.slice a3 (n + 1) c3) (n + 1) (flatP (O ++ [⟨oc, oa, os, oi, 0, 0, och⟩]))) := ho3
              clear o3 g3 ho3
              refine hK.out _ _ (HSS.out _ HBy.out) (fun hHeld => ?_)
              clear hK KK
              try simp only [Act.put, List.getElem_toArray, List.getElem_cons_succ, List.getElem_cons_zero, List.setIfInBounds_toArray, List.set_cons_zero, List.set_cons_succ]
              refine wpAnyH_take (i := 10) (v := ?_) rfl (by kernel_rfl) (by kernel_rfl) (by kernel_rfl) (fun _ _ _ h => h) (Or.inl ⟨by rfl, ?_⟩) (by assumption) ?_
              rotate_left
              · intro W' hSw; obtain ⟨t0, t1, t2, t3, t4, t5, t6⟩ := hSw; go_simp; try with_reducible rfl
              try simp only [Act.put, List.getElem_toArray, List.getElem_cons_succ, List.getElem_cons_zero, List.setIfInBounds_toArray, List.set_cons_zero, List.set_cons_succ]
              refine wpAnyH_take (i := 11) (v := ?_) rfl (by kernel_rfl) (by kernel_rfl) (by kernel_rfl) (fun _ _ _ h => h) (Or.inl ⟨by rfl, ?_⟩) (by assumption) ?_
              rotate_left
              · intro W' hSw; obtain ⟨t0, t1, t2, t3, t4, t5, t6⟩ := hSw; go_simp; try with_reducible rfl
              try simp only [Act.put, List.getElem_toArray, List.getElem_cons_succ, List.getElem_cons_zero, List.setIfInBounds_toArray, List.set_cons_zero, List.set_cons_succ]
              refine wpAnyH_ready (rs := [12]) (by kernel_rfl) (by simp) ?_
              refine AllReadyH.cons rfl (fun KK hK => ?_) AllReadyH.nil
              obtain ⟨hT, hTf⟩ := HTT.out Wy HBy.out
              go_simp
              refine hK.out _ _ (HSF.out _ _ HBy.out) (fun hHeld => ?_)
              clear hK KK
              try simp only [Act.put, List.getElem_toArray, List.getElem_cons_succ, List.getElem_cons_zero, List.setIfInBounds_toArray, List.set_cons_zero, List.set_cons_succ]
              refine wpAnyH_done (by kernel_rfl) ?_ _
              refine NoPanic.normal ?_
              clear hHeld hT hTf
              have HF : Hid (Q (Wy.setCell ⟨T, 0, none⟩ (.slice a3 (n + 1) c3))) := HEND.out Wy _ _ HBy.out HR3.out
              go_wp2
              go_ret2
              exact ⟨rfl, HF.out⟩
            exact AllReadyH.nil
          exact AllReadyH.nil
        refine AllReadyH.cons rfl (fun KK hK => ?_) ?_
        · go_simp
          refine hK.out _ _ (HSS.out _ ((HEA.out _ _).2)) (fun hHeld => ?_)
          clear hK KK
          try simp only [Act.put, List.getElem_toArray, List.getElem_cons_succ, List.getElem_cons_zero, List.setIfInBounds_toArray, List.set_cons_zero, List.set_cons_succ]
          refine wpAnyH_ready (rs := [6]) (by kernel_rfl) (by simp) ?_
          refine AllReadyH.cons rfl (fun KK hK => ?_) ?_
          · have HZ : Hid (Below w5.heap.size w5 ((w5.drew.alloc (.cells #[] 34)).alloc (.cells #[.int .i64 oc, .int .i64 oa, .int .i64 os, .bool oi, .int .i64 0, .int .i64 0, .int .i32 och] 34)) ∧ ((w5.drew.alloc (.cells #[] 34)).alloc (.cells #[.int .i64 oc, .int .i64 oa, .int .i64 os, .bool oi, .int .i64 0, .int .i64 0, .int .i32 och] 34)).ownsRow w5.heap.size 34 7 (.slice (some ⟨w5.heap.size, 0, none⟩) 0 0) 0 []) := ⟨(HEA.out _ _).2, (show (w5.drew.alloc (.cells #[] 34)).ownsRow w5.heap.size 34 7 (.slice (some ⟨w5.heap.size, 0, none⟩) 0 0) 0 [] from World.ownsRow_made w5.drew #[] 0 (Nat.le_refl _) (by simp [maxLen]) rfl).alloc _⟩
            refine step_append_src rfl (.tmp 51) (.tmp 55) 22 rfl w5.heap.size 34 i0 op0.val 7 56 Try.underlying22 hi0 hz0 hz1 hz2 rfl (by decide) (.slice (some ⟨w5.heap.size, 0, none⟩) 0 0) 0 _ (by simp [Act.eval]) HZ.out.2 a n c (flatP O) (by simp [Act.eval]) (HROW.out _ HZ.out.1) (by unfold maxLen; omega) (by omega) HZ.out.1.size (fun v2 Wx o2 g2 => ?_)
            have HBx : Hid (Below w5.heap.size w5 Wx) := HZ.out.1.grown g2 HZ.out.1.size (fun j hj => (HZ.out.2.lt j hj).1)
            have HO2 : Hid (Wx.ownsRow w5.heap.size 34 7 v2 n (flatP O)) := by
              show World.ownsRow _ _ _ _ _ _ _
              simpa using o2
            have HCX : Hid (Wx.heap[w5.heap.size + 1]? = some (.cells #[.int .i64 oc, .int .i64 oa, .int .i64 os, .bool oi, .int .i64 0, .int .i64 0, .int .i32 och] 34)) := (g2.block (w5.heap.size + 1) (by simp <;> omega) (fun h => by have h : some (w5.heap.size + 1) = some (w5.heap.size) := h; injection h with h; omega)).trans (by have := heap_alloc_new (w5.drew.alloc (.cells #[] 34)) (.cells #[.int .i64 oc, .int .i64 oa, .int .i64 os, .bool oi, .int .i64 0, .int .i64 0, .int .i32 och] 34); rw [World.size_alloc] at this; exact this)
            clear o2 g2
            refine hK.out _ _ (HSS.out _ HBx.out) (fun hHeld => ?_)
            clear hK KK
            try simp only [Act.put, List.getElem_toArray, List.getElem_cons_succ, List.getElem_cons_zero, List.setIfInBounds_toArray, List.set_cons_zero, List.set_cons_succ]
            refine wpAnyH_ready (rs := [9]) (by kernel_rfl) (by simp) ?_
            refine AllReadyH.cons rfl (fun KK hK => ?_) ?_
            · refine step_append_src rfl (.tmp 56) (.tmp 58) 22 rfl w5.heap.size 34 i0 op0.val 7 56 Try.underlying22 hi0 hz0 hz1 hz2 rfl (by decide) v2 n _ (by simp [Act.eval]) HO2.out (some ⟨w5.heap.size + 1, 0, none⟩) 1 1 [.int .i64 oc, .int .i64 oa, .int .i64 os, .bool oi, .int .i64 0, .int .i64 0, .int .i32 och] (by simp [Act.eval]) (srcO16 (o := ⟨oc, oa, os, oi, 0, 0, och⟩) HCX.out) (by unfold maxLen; omega) (by omega) HBx.out.size (fun v3 Wy o3 g3 => ?_)
              have HBy : Hid (Below w5.heap.size w5 Wy) := (HBx.out).grown g3 (HBx.out).size (fun j hj => (HO2.out.lt j hj).1)
              have ho3 : Wy.ownsRow w5.heap.size 34 7 v3 (n + 1) (flatP (O ++ [⟨oc, oa, os, oi, 0, 0, och⟩])) := by
                rw [flatP_app, flatP_one]
                exact o3
              obtain ⟨a3, c3, rfl, _⟩ := rdP_own ho3
              have HR3 : Hid (Wy.ownsRow w5.heap.size 34 7 (.slice a3 (n + 1) c3) (n + 1) (flatP (O ++ [⟨oc, oa, os, oi, 0, 0, och⟩]))) := ho3
              clear o3 g3 ho3
              refine hK.out _ _ (HSS.out _ HBy.out) (fun hHeld => ?_)
              clear hK KK
              try simp only [Act.put, List.getElem_toArray, List.getElem_cons_succ, List.getElem_cons_zero, List.setIfInBounds_toArray, List.set_cons_zero, List.set_cons_succ]
              refine wpAnyH_take (i := 10) (v := ?_) rfl (by kernel_rfl) (by kernel_rfl) (by kernel_rfl) (fun _ _ _ h => h) (Or.inl ⟨by rfl, ?_⟩) (by assumption) ?_
              rotate_left
              · intro W' hSw; obtain ⟨t0, t1, t2, t3, t4, t5, t6⟩ := hSw; go_simp; try with_reducible rfl
              try simp only [Act.put, List.getElem_toArray, List.getElem_cons_succ, List.getElem_cons_zero, List.setIfInBounds_toArray, List.set_cons_zero, List.set_cons_succ]
              refine wpAnyH_take (i := 11) (v := ?_) rfl (by kernel_rfl) (by kernel_rfl) (by kernel_rfl) (fun _ _ _ h => h) (Or.inl ⟨by rfl, ?_⟩) (by assumption) ?_
              rotate_left
              · intro W' hSw; obtain ⟨t0, t1, t2, t3, t4, t5, t6⟩ := hSw; go_simp; try with_reducible rfl
              try simp only [Act.put, List.getElem_toArray, List.getElem_cons_succ, List.getElem_cons_zero, List.setIfInBounds_toArray, List.set_cons_zero, List.set_cons_succ]
              refine wpAnyH_ready (rs := [12]) (by kernel_rfl) (by simp) ?_
              refine AllReadyH.cons rfl (fun KK hK => ?_) AllReadyH.nil
              obtain ⟨hT, hTf⟩ := HTT.out Wy HBy.out
              go_simp
              refine hK.out _ _ (HSF.out _ _ HBy.out) (fun hHeld => ?_)
              clear hK KK
              try simp only [Act.put, List.getElem_toArray, List.getElem_cons_succ, List.getElem_cons_zero, List.setIfInBounds_toArray, List.set_cons_zero, List.set_cons_succ]
              refine wpAnyH_done (by kernel_rfl) ?_ _
              refine NoPanic.normal ?_
              clear hHeld hT hTf
              have HF : Hid (Q (Wy.setCell ⟨T, 0, none⟩ (.slice a3 (n + 1) c3))) := HEND.out Wy _ _ HBy.out HR3.out
              go_wp2
              go_ret2
              exact ⟨rfl, HF.out⟩
            exact AllReadyH.nil
          exact AllReadyH.nil
        exact AllReadyH.nil
      refine AllReadyH.cons rfl (fun KK hK => ?_) ?_
      · go_simp
        refine hK.out _ _ (HSS.out _ (HEA1.out _)) (fun hHeld => ?_)
        clear hK KK
        try simp only [Act.put, List.getElem_toArray, List.getElem_cons_succ, List.getElem_cons_zero, List.setIfInBounds_toArray, List.set_cons_zero, List.set_cons_succ]
        refine wpAnyH_ready (rs := [1]) (by kernel_rfl) (by simp) ?_
        refine AllReadyH.cons rfl (fun KK hK => ?_) ?_
        · go_simp
          refine hK.out _ _ (HSS.out _ ((HEA.out _ _).2)) (fun hHeld => ?_)
          clear hK KK
          try simp only [Act.put, List.getElem_toArray, List.getElem_cons_succ, List.getElem_cons_zero, List.setIfInBounds_toArray, List.set_cons_zero, List.set_cons_succ]
          refine wpAnyH_ready (rs := [6]) (by kernel_rfl) (by simp) ?_
          refine AllReadyH.cons rfl (fun KK hK => ?_) ?_
          · have HZ : Hid (Below w5.heap.size w5 ((w5.drew.alloc (.cells #[.int .i64 oc, .int .i64 oa, .int .i64 os, .bool oi, .int .i64 0, .int .i64 0, .int .i32 och] 34)).alloc (.cells #[] 34)) ∧ ((w5.drew.alloc (.cells #[.int .i64 oc, .int .i64 oa, .int .i64 os, .bool oi, .int .i64 0, .int .i64 0, .int .i32 och] 34)).alloc (.cells #[] 34)).ownsRow w5.heap.size 34 7 (.slice (some ⟨w5.heap.size + 1, 0, none⟩) 0 0) 0 []) := ⟨(HEA.out _ _).2, by
              have h : ((w5.drew.alloc (.cells #[.int .i64 oc, .int .i64 oa, .int .i64 os, .bool oi, .int .i64 0, .int .i64 0, .int .i32 och] 34)).alloc (.cells #[] 34)).ownsRow w5.heap.size 34 7 (.slice (some ⟨(w5.drew.alloc (.cells #[.int .i64 oc, .int .i64 oa, .int .i64 os, .bool oi, .int .i64 0, .int .i64 0, .int .i32 och] 34)).heap.size, 0, none⟩) 0 0) 0 [] := World.ownsRow_made (w5.drew.alloc (.cells #[.int .i64 oc, .int .i64 oa, .int .i64 os, .bool oi, .int .i64 0, .int .i64 0, .int .i32 och] 34)) #[] 0 (by simp) (by simp [maxLen]) rfl
              rw [World.size_alloc] at h
              exact h⟩
            refine step_append_src rfl (.tmp 51) (.tmp 55) 22 rfl w5.heap.size 34 i0 op0.val 7 56 Try.underlying22 hi0 hz0 hz1 hz2 rfl (by decide) (.slice (some ⟨w5.heap.size + 1, 0, none⟩) 0 0) 0 _ (by simp [Act.eval]) HZ.out.2 a n c (flatP O) (by simp [Act.eval]) (HROW.out _ HZ.out.1) (by unfold maxLen; omega) (by omega) HZ.out.1.size (fun v2 Wx o2 g2 => ?_)
            have HBx : Hid (Below w5.heap.size w5 Wx) := HZ.out.1.grown g2 HZ.out.1.size (fun j hj => (HZ.out.2.lt j hj).1)
            have HO2 : Hid (Wx.ownsRow w5.heap.size 34 7 v2 n (flatP O)) := by
              show World.ownsRow _ _ _ _ _ _ _
              simpa using o2
            have HCX : Hid (Wx.heap[w5.heap.size]? = some (.cells #[.int .i64 oc, .int .i64 oa, .int .i64 os, .bool oi, .int .i64 0, .int .i64 0, .int .i32 och] 34)) := (g2.block (w5.heap.size) (by simp <;> omega) (fun h => by have h : some (w5.heap.size) = some (w5.heap.size + 1) := h; injection h with h; omega)).trans ((((Below.refl _ _).alloc (Nat.le_refl _) _).block w5.heap.size (by simp)).trans (heap_alloc_new w5.drew (.cells #[.int .i64 oc, .int .i64 oa, .int .i64 os, .bool oi, .int .i64 0, .int .i64 0, .int .i32 och] 34)))
            clear o2 g2
            refine hK.out _ _ (HSS.out _ HBx.out) (fun hHeld => ?_)
            clear hK KK
            try simp only [Act.put, List.getElem_toArray, List.getElem_cons_succ, List.getElem_cons_zero, List.setIfInBounds_toArray, List.set_cons_zero, List.set_cons_succ]
            refine wpAnyH_ready (rs := [9]) (by kernel_rfl) (by simp) ?_
            refine AllReadyH.cons rfl (fun KK hK => ?_) ?_
            · refine step_append_src rfl (.tmp 56) (.tmp 58) 22 rfl w5.heap.size 34 i0 op0.val 7 56 Try.underlying22 hi0 hz0 hz1 hz2 rfl (by decide) v2 n _ (by simp [Act.eval]) HO2.out (some ⟨w5.heap.size, 0, none⟩) 1 1 [.int .i64 oc, .int .i64 oa, .int .i64 os, .bool oi, .int .i64 0, .int .i64 0, .int .i32 och] (by simp [Act.eval]) (srcO16 (o := ⟨oc, oa, os, oi, 0, 0, och⟩) HCX.out) (by unfold maxLen; omega) (by omega) HBx.out.size (fun v3 Wy o3 g3 => ?_)
              have HBy : Hid (Below w5.heap.size w5 Wy) := (HBx.out).grown g3 (HBx.out).size (fun j hj => (HO2.out.lt j hj).1)
              have ho3 : Wy.ownsRow w5.heap.size 34 7 v3 (n + 1) (flatP (O ++ [⟨oc, oa, os, oi, 0, 0, och⟩])) := by
                rw [flatP_app, flatP_one]
                exact o3
              obtain ⟨a3, c3, rfl, _⟩ := rdP_own ho3
              have HR3 : Hid (Wy.ownsRow w5.heap.size 34 7 (.slice a3 (n + 1) c3) (n + 1) (flatP (O ++ [⟨oc, oa, os, oi, 0, 0, och⟩]))) := ho3
              clear o3 g3 ho3
              refine hK.out _ _ (HSS.out _ HBy.out) (fun hHeld => ?_)
              clear hK KK
              try simp only [Act.put, List.getElem_toArray, List.getElem_cons_succ, List.getElem_cons_zero, List.setIfInBounds_toArray, List.set_cons_zero, List.set_cons_succ]
              refine wpAnyH_take (i := 10) (v := ?_) rfl (by kernel_rfl) (by kernel_rfl) (by kernel_rfl) (fun _ _ _ h => h) (Or.inl ⟨by rfl, ?_⟩) (by assumption) ?_
              rotate_left
              · intro W' hSw; obtain ⟨t0, t1, t2, t3, t4, t5, t6⟩ := hSw; go_simp; try with_reducible rfl
              try simp only [Act.put, List.getElem_toArray, List.getElem_cons_succ, List.getElem_cons_zero, List.setIfInBounds_toArray, List.set_cons_zero, List.set_cons_succ]
              refine wpAnyH_take (i := 11) (v := ?_) rfl (by kernel_rfl) (by kernel_rfl) (by kernel_rfl) (fun _ _ _ h => h) (Or.inl ⟨by rfl, ?_⟩) (by assumption) ?_
              rotate_left
              · intro W' hSw; obtain ⟨t0, t1, t2, t3, t4, t5, t6⟩ := hSw; go_simp; try with_reducible rfl
              try simp only [Act.put, List.getElem_toArray, List.getElem_cons_succ, List.getElem_cons_zero, List.setIfInBounds_toArray, List.set_cons_zero, List.set_cons_succ]
              refine wpAnyH_ready (rs := [12]) (by kernel_rfl) (by simp) ?_
              refine AllReadyH.cons rfl (fun KK hK => ?_) AllReadyH.nil
              obtain ⟨hT, hTf⟩ := HTT.out Wy HBy.out
              go_simp
              refine hK.out _ _ (HSF.out _ _ HBy.out) (fun hHeld => ?_)
              clear hK KK
              try simp only [Act.put, List.getElem_toArray, List.getElem_cons_succ, List.getElem_cons_zero, List.setIfInBounds_toArray, List.set_cons_zero, List.set_cons_succ]
              refine wpAnyH_done (by kernel_rfl) ?_ _
              refine NoPanic.normal ?_
              clear hHeld hT hTf
              have HF : Hid (Q (Wy.setCell ⟨T, 0, none⟩ (.slice a3 (n + 1) c3))) := HEND.out Wy _ _ HBy.out HR3.out
              go_wp2
              go_ret2
              exact ⟨rfl, HF.out⟩
            exact AllReadyH.nil
          exact AllReadyH.nil
        exact AllReadyH.nil
      exact AllReadyH.nil
    refine AllReadyH.cons rfl (fun KK hK => ?_) ?_
    · go_simp
      refine hK.out _ _ (HSS.out _ (HEA1.out _)) (fun hHeld => ?_)
      clear hK KK
      try simp only [Act.put, List.getElem_toArray, List.getElem_cons_succ, List.getElem_cons_zero, List.setIfInBounds_toArray, List.set_cons_zero, List.set_cons_succ]
      refine wpAnyH_ready (rs := [1, 5]) (by kernel_rfl) (by simp) ?_
      refine AllReadyH.cons rfl (fun KK hK => ?_) ?_
      · go_simp
        refine hK.out _ _ (HSS.out _ ((HEA.out _ _).2)) (fun hHeld => ?_)
        clear hK KK
        try simp only [Act.put, List.getElem_toArray, List.getElem_cons_succ, List.getElem_cons_zero, List.setIfInBounds_toArray, List.set_cons_zero, List.set_cons_succ]
        refine wpAnyH_ready (rs := [5]) (by kernel_rfl) (by simp) ?_
        refine AllReadyH.cons rfl (fun KK hK => ?_) ?_
        · obtain ⟨hT, -⟩ := HTT.out ((w5.drew.alloc (.cells #[.int .i64 oc, .int .i64 oa, .int .i64 os, .bool oi, .int .i64 0, .int .i64 0, .int .i32 och] 34)).alloc (.cells #[] 34)) ((HEA.out _ _).2)
          have hT2 : ((w5.alloc (.cells #[.int .i64 oc, .int .i64 oa, .int .i64 os, .bool oi, .int .i64 0, .int .i64 0, .int .i32 och] 34)).alloc (.cells #[] 34)).cell? ⟨T, 0, none⟩ = some (.slice a n c) := hT
          have hT3 : ((w5.alloc (.cells #[.int .i64 oc, .int .i64 oa, .int .i64 os, .bool oi, .int .i64 0, .int .i64 0, .int .i32 och] 34)).alloc (.cells #[] 34)).drew.cell? ⟨T, 0, none⟩ = some (.slice a n c) := hT
          go_simp
          clear hT hT2 hT3
          refine hK.out _ _ (HSS.out _ ((HEA.out _ _).2)) (fun hHeld => ?_)
          clear hK KK
          try simp only [Act.put, List.getElem_toArray, List.getElem_cons_succ, List.getElem_cons_zero, List.setIfInBounds_toArray, List.set_cons_zero, List.set_cons_succ]
          refine wpAnyH_ready (rs := [6]) (by kernel_rfl) (by simp) ?_
          refine AllReadyH.cons rfl (fun KK hK => ?_) ?_
          · have HZ : Hid (Below w5.heap.size w5 ((w5.drew.alloc (.cells #[.int .i64 oc, .int .i64 oa, .int .i64 os, .bool oi, .int .i64 0, .int .i64 0, .int .i32 och] 34)).alloc (.cells #[] 34)) ∧ ((w5.drew.alloc (.cells #[.int .i64 oc, .int .i64 oa, .int .i64 os, .bool oi, .int .i64 0, .int .i64 0, .int .i32 och] 34)).alloc (.cells #[] 34)).ownsRow w5.heap.size 34 7 (.slice (some ⟨w5.heap.size + 1, 0, none⟩) 0 0) 0 []) := ⟨(HEA.out _ _).2, by
              have h : ((w5.drew.alloc (.cells #[.int .i64 oc, .int .i64 oa, .int .i64 os, .bool oi, .int .i64 0, .int .i64 0, .int .i32 och] 34)).alloc (.cells #[] 34)).ownsRow w5.heap.size 34 7 (.slice (some ⟨(w5.drew.alloc (.cells #[.int .i64 oc, .int .i64 oa, .int .i64 os, .bool oi, .int .i64 0, .int .i64 0, .int .i32 och] 34)).heap.size, 0, none⟩) 0 0) 0 [] := World.ownsRow_made (w5.drew.alloc (.cells #[.int .i64 oc, .int .i64 oa, .int .i64 os, .bool oi, .int .i64 0, .int .i64 0, .int .i32 och] 34)) #[] 0 (by simp) (by simp [maxLen]) rfl
              rw [World.size_alloc] at h
              exact h⟩
            refine step_append_src rfl (.tmp 51) (.tmp 55) 22 rfl w5.heap.size 34 i0 op0.val 7 56 Try.underlying22 hi0 hz0 hz1 hz2 rfl (by decide) (.slice (some ⟨w5.heap.size + 1, 0, none⟩) 0 0) 0 _ (by simp [Act.eval]) HZ.out.2 a n c (flatP O) (by simp [Act.eval]) (HROW.out _ HZ.out.1) (by unfold maxLen; omega) (by omega) HZ.out.1.size (fun v2 Wx o2 g2 => ?_)
            have HBx : Hid (Below w5.heap.size w5 Wx) := HZ.out.1.grown g2 HZ.out.1.size (fun j hj => (HZ.out.2.lt j hj).1)
            have HO2 : Hid (Wx.ownsRow w5.heap.size 34 7 v2 n (flatP O)) := by
              show World.ownsRow _ _ _ _ _ _ _
              simpa using o2
            have HCX : Hid (Wx.heap[w5.heap.size]? = some (.cells #[.int .i64 oc, .int .i64 oa, .int .i64 os, .bool oi, .int .i64 0, .int .i64 0, .int .i32 och] 34)) := (g2.block (w5.heap.size) (by simp <;> omega) (fun h => by have h : some (w5.heap.size) = some (w5.heap.size + 1) := h; injection h with h; omega)).trans ((((Below.refl _ _).alloc (Nat.le_refl _) _).block w5.heap.size (by simp)).trans (heap_alloc_new w5.drew (.cells #[.int .i64 oc, .int .i64 oa, .int .i64 os, .bool oi, .int .i64 0, .int .i64 0, .int .i32 och] 34)))
            clear o2 g2
            refine hK.out _ _ (HSS.out _ HBx.out) (fun hHeld => ?_)
            clear hK KK
            try simp only [Act.put, List.getElem_toArray, List.getElem_cons_succ, List.getElem_cons_zero, List.setIfInBounds_toArray, List.set_cons_zero, List.set_cons_succ]
            refine wpAnyH_ready (rs := [9]) (by kernel_rfl) (by simp) ?_
            refine AllReadyH.cons rfl (fun KK hK => ?_) ?_
            · refine step_append_src rfl (.tmp 56) (.tmp 58) 22 rfl w5.heap.size 34 i0 op0.val 7 56 Try.underlying22 hi0 hz0 hz1 hz2 rfl (by decide) v2 n _ (by simp [Act.eval]) HO2.out (some ⟨w5.heap.size, 0, none⟩) 1 1 [.int .i64 oc, .int .i64 oa, .int .i64 os, .bool oi, .int .i64 0, .int .i64 0, .int .i32 och] (by simp [Act.eval]) (srcO16 (o := ⟨oc, oa, os, oi, 0, 0, och⟩) HCX.out) (by unfold maxLen; omega) (by omega) HBx.out.size (fun v3 Wy o3 g3 => ?_)
              have HBy : Hid (Below w5.heap.size w5 Wy) := (HBx.out).grown g3 (HBx.out).size (fun j hj => (HO2.out.lt j hj).1)
              have ho3 : Wy.ownsRow w5.heap.size 34 7 v3 (n + 1) (flatP (O ++ [⟨oc, oa, os, oi, 0, 0, och⟩])) := by
                rw [flatP_app, flatP_one]
                exact o3
              obtain ⟨a3, c3, rfl, _⟩ := rdP_own ho3
              have HR3 : Hid (Wy.ownsRow w5.heap.size 34 7 (.slice a3 (n + 1) c3) (n + 1) (flatP (O ++ [⟨oc, oa, os, oi, 0, 0, och⟩]))) := ho3
              clear o3 g3 ho3
              refine hK.out _ _ (HSS.out _ HBy.out) (fun hHeld => ?_)
              clear hK KK
              try simp only [Act.put, List.getElem_toArray, List.getElem_cons_succ, List.getElem_cons_zero, List.setIfInBounds_toArray, List.set_cons_zero, List.set_cons_succ]
              refine wpAnyH_take (i := 10) (v := ?_) rfl (by kernel_rfl) (by kernel_rfl) (by kernel_rfl) (fun _ _ _ h => h) (Or.inl ⟨by rfl, ?_⟩) (by assumption) ?_
              rotate_left
              · intro W' hSw; obtain ⟨t0, t1, t2, t3, t4, t5, t6⟩ := hSw; go_simp; try with_reducible rfl
              try simp only [Act.put, List.getElem_toArray, List.getElem_cons_succ, List.getElem_cons_zero, List.setIfInBounds_toArray, List.set_cons_zero, List.set_cons_succ]
              refine wpAnyH_take (i := 11) (v := ?_) rfl (by kernel_rfl) (by kernel_rfl) (by kernel_rfl) (fun _ _ _ h => h) (Or.inl ⟨by rfl, ?_⟩) (by assumption) ?_
              rotate_left
              · intro W' hSw; obtain ⟨t0, t1, t2, t3, t4, t5, t6⟩ := hSw; go_simp; try with_reducible rfl
              try simp only [Act.put, List.getElem_toArray, List.getElem_cons_succ, List.getElem_cons_zero, List.setIfInBounds_toArray, List.set_cons_zero, List.set_cons_succ]
              refine wpAnyH_ready (rs := [12]) (by kernel_rfl) (by simp) ?_
              refine AllReadyH.cons rfl (fun KK hK => ?_) AllReadyH.nil
              obtain ⟨hT, hTf⟩ := HTT.out Wy HBy.out
              go_simp
              refine hK.out _ _ (HSF.out _ _ HBy.out) (fun hHeld => ?_)
              clear hK KK
              try simp only [Act.put, List.getElem_toArray, List.getElem_cons_succ, List.getElem_cons_zero, List.setIfInBounds_toArray, List.set_cons_zero, List.set_cons_succ]
              refine wpAnyH_done (by kernel_rfl) ?_ _
              refine NoPanic.normal ?_
              clear hHeld hT hTf
              have HF : Hid (Q (Wy.setCell ⟨T, 0, none⟩ (.slice a3 (n + 1) c3))) := HEND.out Wy _ _ HBy.out HR3.out
              go_wp2
              go_ret2
              exact ⟨rfl, HF.out⟩
            exact AllReadyH.nil
          exact AllReadyH.nil
        exact AllReadyH.nil
      refine AllReadyH.cons rfl (fun KK hK => ?_) ?_
      · obtain ⟨hT, -⟩ := HTT.out (w5.drew.alloc (.cells #[.int .i64 oc, .int .i64 oa, .int .i64 os, .bool oi, .int .i64 0, .int .i64 0, .int .i32 och] 34)) (HEA1.out _)
        have hT2 : (w5.alloc (.cells #[.int .i64 oc, .int .i64 oa, .int .i64 os, .bool oi, .int .i64 0, .int .i64 0, .int .i32 och] 34)).cell? ⟨T, 0, none⟩ = some (.slice a n c) := hT
        have hT3 : (w5.alloc (.cells #[.int .i64 oc, .int .i64 oa, .int .i64 os, .bool oi, .int .i64 0, .int .i64 0, .int .i32 och] 34)).drew.cell? ⟨T, 0, none⟩ = some (.slice a n c) := hT
        go_simp
        clear hT hT2 hT3
        refine hK.out _ _ (HSS.out _ (HEA1.out _)) (fun hHeld => ?_)
        clear hK KK
        try simp only [Act.put, List.getElem_toArray, List.getElem_cons_succ, List.getElem_cons_zero, List.setIfInBounds_toArray, List.set_cons_zero, List.set_cons_succ]
        refine wpAnyH_ready (rs := [1]) (by kernel_rfl) (by simp) ?_
        refine AllReadyH.cons rfl (fun KK hK => ?_) ?_
        · go_simp
          refine hK.out _ _ (HSS.out _ ((HEA.out _ _).2)) (fun hHeld => ?_)
          clear hK KK
          try simp only [Act.put, List.getElem_toArray, List.getElem_cons_succ, List.getElem_cons_zero, List.setIfInBounds_toArray, List.set_cons_zero, List.set_cons_succ]
          refine wpAnyH_ready (rs := [6]) (by kernel_rfl) (by simp) ?_
          refine AllReadyH.cons rfl (fun KK hK => ?_) ?_
          · have HZ : Hid (Below w5.heap.size w5 ((w5.drew.alloc (.cells #[.int .i64 oc, .int .i64 oa, .int .i64 os, .bool oi, .int .i64 0, .int .i64 0, .int .i32 och] 34)).alloc (.cells #[] 34)) ∧ ((w5.drew.alloc (.cells #[.int .i64 oc, .int .i64 oa, .int .i64 os, .bool oi, .int .i64 0, .int .i64 0, .int .i32 och] 34)).alloc (.cells #[] 34)).ownsRow w5.heap.size 34 7 (.slice (some ⟨w5.heap.size + 1, 0, none⟩) 0 0) 0 []) := ⟨(HEA.out _ _).2, by
              have h : ((w5.drew.alloc (.cells #[.int .i64 oc, .int .i64 oa, .int .i64 os, .bool oi, .int .i64 0, .int .i64 0, .int .i32 och] 34)).alloc (.cells #[] 34)).ownsRow w5.heap.size 34 7 (.slice (some ⟨(w5.drew.alloc (.cells #[.int .i64 oc, .int .i64 oa, .int .i64 os, .bool oi, .int .i64 0, .int .i64 0, .int .i32 och] 34)).heap.size, 0, none⟩) 0 0) 0 [] := World.ownsRow_made (w5.drew.alloc (.cells #[.int .i64 oc, .int .i64 oa, .int .i64 os, .bool oi, .int .i64 0, .int .i64 0, .int .i32 och] 34)) #[] 0 (by simp) (by simp [maxLen]) rfl
              rw [World.size_alloc] at h
              exact h⟩
            refine step_append_src rfl (.tmp 51) (.tmp 55) 22 rfl w5.heap.size 34 i0 op0.val 7 56 Try.underlying22 hi0 hz0 hz1 hz2 rfl (by decide) (.slice (some ⟨w5.heap.size + 1, 0, none⟩) 0 0) 0 _ (by simp [Act.eval]) HZ.out.2 a n c (flatP O) (by simp [Act.eval]) (HROW.out _ HZ.out.1) (by unfold maxLen; omega) (by omega) HZ.out.1.size (fun v2 Wx o2 g2 => ?_)
            have HBx : Hid (Below w5.heap.size w5 Wx) := HZ.out.1.grown g2 HZ.out.1.size (fun j hj => (HZ.out.2.lt j hj).1)
            have HO2 : Hid (Wx.ownsRow w5.heap.size 34 7 v2 n (flatP O)) := by
              show World.ownsRow _ _ _ _ _ _ _
              simpa using o2
            have HCX : Hid (Wx.heap[w5.heap.size]? = some (.cells #[.int .i64 oc, .int .i64 oa, .int .i64 os, .bool oi, .int .i64 0, .int .i64 0, .int .i32 och] 34)) := (g2.block (w5.heap.size) (by simp <;> omega) (fun h => by have h : some (w5.heap.size) = some (w5.heap.size + 1) := h; injection h with h; omega)).trans ((((Below.refl _ _).alloc (Nat.le_refl _) _).block w5.heap.size (by simp)).trans (heap_alloc_new w5.drew (.cells #[.int .i64 oc, .int .i64 oa, .int .i64 os, .bool oi, .int .i64 0, .int .i64 0, .int .i32 och] 34)))
            clear o2 g2
            refine hK.out _ _ (HSS.out _ HBx.out) (fun hHeld => ?_)
            clear hK KK
            try simp only [Act.put, List.getElem_toArray, List.getElem_cons_succ, List.getElem_cons_zero, List.setIfInBounds_toArray, List.set_cons_zero, List.set_cons_succ]
            refine wpAnyH_ready (rs := [9]) (by kernel_rfl) (by simp) ?_
            refine AllReadyH.cons rfl (fun KK hK => ?_) ?_
            · refine step_append_src rfl (.tmp 56) (.tmp 58) 22 rfl w5.heap.size 34 i0 op0.val 7 56 Try.underlying22 hi0 hz0 hz1 hz2 rfl (by decide) v2 n _ (by simp [Act.eval]) HO2.out (some ⟨w5.heap.size, 0, none⟩) 1 1 [.int .i64 oc, .int .i64 oa, .int .i64 os, .bool oi, .int .i64 0, .int .i64 0, .int .i32 och] (by simp [Act.eval]) (srcO16 (o := ⟨oc, oa, os, oi, 0, 0, och⟩) HCX.out) (by unfold maxLen; omega) (by omega) HBx.out.size (fun v3 Wy o3 g3 => ?_)
              have HBy : Hid (Below w5.heap.size w5 Wy) := (HBx.out).grown g3 (HBx.out).size (fun j hj => (HO2.out.lt j hj).1)
              have ho3 : Wy.ownsRow w5.heap.size 34 7 v3 (n + 1) (flatP (O ++ [⟨oc, oa, os, oi, 0, 0, och⟩])) := by
                rw [flatP_app, flatP_one]
                exact o3
              obtain ⟨a3, c3, rfl, _⟩ := rdP_own ho3
              have HR3 : Hid (Wy.ownsRow w5.heap.size 34 7 (.slice a3 (n + 1) c3) (n + 1) (flatP (O ++ [⟨oc, oa, os, oi, 0, 0, och⟩]))) := ho3
              clear o3 g3 ho3
              refine hK.out _ _ (HSS.out _ HBy.out) (fun hHeld => ?_)
              clear hK KK
              try simp only [Act.put, List.getElem_toArray, List.getElem_cons_succ, List.getElem_cons_zero, List.setIfInBounds_toArray, List.set_cons_zero, List.set_cons_succ]
              refine wpAnyH_take (i := 10) (v := ?_) rfl (by kernel_rfl) (by kernel_rfl) (by kernel_rfl) (fun _ _ _ h => h) (Or.inl ⟨by rfl, ?_⟩) (by assumption) ?_
              rotate_left
              · intro W' hSw; obtain ⟨t0, t1, t2, t3, t4, t5, t6⟩ := hSw; go_simp; try with_reducible rfl
              try simp only [Act.put, List.getElem_toArray, List.getElem_cons_succ, List.getElem_cons_zero, List.setIfInBounds_toArray, List.set_cons_zero, List.set_cons_succ]
              refine wpAnyH_take (i := 11) (v := ?_) rfl (by kernel_rfl) (by kernel_rfl) (by kernel_rfl) (fun _ _ _ h => h) (Or.inl ⟨by rfl, ?_⟩) (by assumption) ?_
              rotate_left
              · intro W' hSw; obtain ⟨t0, t1, t2, t3, t4, t5, t6⟩ := hSw; go_simp; try with_reducible rfl
              try simp only [Act.put, List.getElem_toArray, List.getElem_cons_succ, List.getElem_cons_zero, List.setIfInBounds_toArray, List.set_cons_zero, List.set_cons_succ]
              refine wpAnyH_ready (rs := [12]) (by kernel_rfl) (by simp) ?_
              refine AllReadyH.cons rfl (fun KK hK => ?_) AllReadyH.nil
              obtain ⟨hT, hTf⟩ := HTT.out Wy HBy.out
              go_simp
              refine hK.out _ _ (HSF.out _ _ HBy.out) (fun hHeld => ?_)
              clear hK KK
              try simp only [Act.put, List.getElem_toArray, List.getElem_cons_succ, List.getElem_cons_zero, List.setIfInBounds_toArray, List.set_cons_zero, List.set_cons_succ]
              refine wpAnyH_done (by kernel_rfl) ?_ _
              refine NoPanic.normal ?_
              clear hHeld hT hTf
              have HF : Hid (Q (Wy.setCell ⟨T, 0, none⟩ (.slice a3 (n + 1) c3))) := HEND.out Wy _ _ HBy.out HR3.out
              go_wp2
              go_ret2
              exact ⟨rfl, HF.out⟩
            exact AllReadyH.nil
          exact AllReadyH.nil
        exact AllReadyH.nil
      exact AllReadyH.nil
    exact AllReadyH.nil
end Go.Proofs.Ytcbnmahbdcjamaa
