/- The walk of FrameLonger. -/
import Derived.Test.YtjdgacanlbhfbaaFrameOnceW
import Derived.Test.YtjdgacanlbhfbaaBasR
import Derived.Deep.RegionHeld3
namespace Go.Proofs.Ytjdgacanlbhfbaa
open Go.RowKit
set_option linter.unusedVariables false
set_option linter.unusedSimpArgs false

/-- A frame of operations. -/
def opsF (ff : Int) (l : List Opn) : Frm := ⟨1, ff, [], l, 0⟩
theorem opN_six (o : Opn) : 6 ≤ (opN o).length := by
  unfold opN
  rw [List.length_append]
  simp only [List.length_cons, List.length_nil]
  omega
theorem longer (ff : Int) (l : List Opn) (o : Opn) : (bytesN (opsF ff l)).length + 6 ≤ (bytesN (opsF ff (l ++ [o]))).length := by
  have e : ∀ m, (bodyN (opsF ff m)).length = (pks [1, ff, 0]).length + ((pk ((m.length : Nat) : Int)).length + ((pks (m.flatMap opN)).length + (pk 0).length)) := fun m => by
    show (pks (numN (opsF ff m))).length = _
    unfold numN opsF
    simp only [List.flatMap_nil, List.nil_append, List.length_nil]
    rw [pks_app, pks_app, pks_app, List.length_append, List.length_append, List.length_append]
    simp [pks_cons, pks_nil]
  have h1 := e l
  have h2 := e (l ++ [o])
  have h3 := pk_mono ((l.length : Nat) : Int) (((l ++ [o]).length : Nat) : Int) (by rw [List.length_append]; omega)
  have h4 : (pks ((l ++ [o]).flatMap opN)).length = (pks (l.flatMap opN)).length + (pks (opN o)).length := by
    rw [List.flatMap_append, pks_app, List.length_append]
    simp
  have h5 := pks_len (opN o)
  have h6 := opN_six o
  have h7 : (bytesN (opsF ff l)).length = 6 + (pt (bodyN (opsF ff l))).length := wrapN_len _
  have h8 : (bytesN (opsF ff (l ++ [o]))).length = 6 + (pt (bodyN (opsF ff (l ++ [o])))).length := wrapN_len _
  have h9 := pt_len (bodyN (opsF ff l))
  have h10 := pt_len (bodyN (opsF ff (l ++ [o])))
  have h11 := pk_mono (((bodyN (opsF ff l)).length : Nat) : Int) (((bodyN (opsF ff (l ++ [o]))).length : Nat) : Int) (by omega)
  omega
theorem opsF_right (ff : Int) (l : List Opn) (h : l.length ≤ 64) : frB (opsF ff l) = (decide (0 ≤ ff) && decide (ff < 64) && l.all opB) := by
  unfold frB rpB opsF
  simp [vcB, h]
theorem opsF_more (ff : Int) (l : List Opn) (o : Opn) (h : l.length ≤ 63) : frB (opsF ff (l ++ [o])) = (frB (opsF ff l) && opB o) := by
  rw [opsF_right ff l (by omega), opsF_right ff (l ++ [o]) (by rw [List.length_append]; simp; omega), List.all_append]
  simp [Bool.and_assoc]
theorem c_bytesG (F : Frm) (W : World) (v : Value) (h : FrAt W v F) (h1 : F.vec.length ≤ 1000) (h2 : F.ops.length ≤ 1000) : Calls Try.prog 31 #[v] W fun e w' => (frB F = true → ∃ a c, e = .returned (.tuple #[.slice a (bytesN F).length c, .int .i64 0])) ∧ (frB F = false → e = .returned (.tuple #[.slice none 0 0, .int .i64 1])) ∧ Below W.heap.size W w' :=
  (frBytes_any F v W h (by omega) (by omega)).mono fun e w' q => by
    obtain ⟨q1, q2, q3⟩ := q
    refine ⟨fun hf => ?_, q3, q1⟩
    obtain ⟨v', rfl, ho⟩ := q2 hf
    obtain ⟨a, c, rfl, _⟩ := rd_own2 ho
    exact ⟨a, c, rfl⟩
theorem bytesG_len (F : Frm) (h1 : F.vec.length ≤ 1000) (h2 : F.ops.length ≤ 1000) : (bytesN F).length ≤ 200000 := by
  have h4 := bodyN_len F
  have h5 : (bytesN F).length = 6 + (pt (bodyN F)).length := wrapN_len _
  have h6 := pt_len (bodyN F)
  have h7 := pk_len ((bodyN F).length : Nat)
  omega
theorem belF {w W : World} {b : Nat} {o : Obj} (h : Below w.heap.size w W) (ho : w.heap[b]? = some o) : W.heap[b]? = some o := (h.block b (Array.getElem?_eq_some_iff.1 ho).1).trans ho
theorem srcP15 {w : World} {a : Option Addr} {n c : Nat} {l : List Opn} (h : RdP w a n l) (hn : a = none → c = 0) : SrcAt w a n c 7 (flatP l) := by
  have hl := h.1
  refine ⟨by rw [flatP_len]; omega, fun q => ⟨?_, hn q⟩, fun x hx j u hu => ?_, flatP_cells l⟩
  · subst q
    rcases Nat.eq_zero_or_pos n with h0 | h0
    · exact h0
    · obtain ⟨b, off, hb, _⟩ := h.2 h0; cases hb
  · have hp : 0 < n := by
      have := (List.getElem?_eq_some_iff.1 hu).1
      rw [flatP_len] at this
      omega
    obtain ⟨b, off, hb, hc⟩ := h.2 hp
    rw [hx] at hb
    cases hb
    rw [add_lit14]
    exact hc j u hu
theorem srcO {w : World} {c : Nat} {o : Opn} (h : w.heap[c]? = some (.cells #[.int .i64 o.c, .int .i64 o.a, .int .i64 o.s, .bool o.ins, .int .i64 o.rc, .int .i64 o.ra, .int .i32 o.ch] 34)) : SrcAt w (some ⟨c, 0, none⟩) 1 1 7 (encP o) := by
  refine ⟨rfl, (fun q => by cases q), fun x hx j u hu => ?_, encP_one o⟩
  cases hx
  rw [add_lit14, Nat.zero_add, cell_of_row w c j _ _ _ h]
  simpa [encP] using hu
set_option maxRecDepth 100000 in
set_option maxHeartbeats 40000000 in
theorem frameLonger_walk (f : Frm) (fv : Value) (o : Opn) (w : World) (hf : FrAtC w fv f) :
    Calls Try.prog 10 #[fv, o.val] w fun e w' => e = .returned (.bool true) ∧ Below w.heap.size w w' := by
  have HCUT : Hid (∀ W, Below w.heap.size w W → Calls Try.prog 30 #[fv] W fun e w' => ∃ v', e = .returned v' ∧ FrAtD w' v' (cutF f) W.heap.size ∧ Below W.heap.size W w') := fun W h => cut_any f fv W (hf.later h)
  obtain ⟨va, vn, vc, oa, on, oc, rfl, _⟩ := hf
  obtain ⟨W1, hW1⟩ : ∃ W1, W1 = (w.alloc (.cells #[.int .i64 f.kind, .int .i64 f.fr, .slice va vn vc, .slice oa on oc, .int .i64 f.next] 55)).alloc (.cells #[.int .i64 o.c, .int .i64 o.a, .int .i64 o.s, .bool o.ins, .int .i64 o.rc, .int .i64 o.ra, .int .i32 o.ch] 34) := ⟨_, rfl⟩
  have HB1 : Hid (Below w.heap.size w W1) := by show Below _ _ _; rw [hW1]; exact ((Below.refl _ w).alloc (Nat.le_refl _) _).alloc (by simp) _
  have hx : W1.heap[w.heap.size]? = some (.cells #[.int .i64 f.kind, .int .i64 f.fr, .slice va vn vc, .slice oa on oc, .int .i64 f.next] 55) := by
    rw [hW1]
    exact (((Below.refl _ _).alloc (Nat.le_refl _) _).block w.heap.size (by simp)).trans (heap_alloc_new w _)
  have hy : W1.heap[w.heap.size + 1]? = some (.cells #[.int .i64 o.c, .int .i64 o.a, .int .i64 o.s, .bool o.ins, .int .i64 o.rc, .int .i64 o.ra, .int .i32 o.ch] 34) := by
    rw [hW1]
    have := heap_alloc_new (w.alloc (.cells #[.int .i64 f.kind, .int .i64 f.fr, .slice va vn vc, .slice oa on oc, .int .i64 f.next] 55)) (.cells #[.int .i64 o.c, .int .i64 o.a, .int .i64 o.s, .bool o.ins, .int .i64 o.rc, .int .i64 o.ra, .int .i32 o.ch] 34)
    simpa using this
  obtain ⟨Y, hY⟩ : ∃ Y, Y = w.heap.size + 1 := ⟨_, rfl⟩
  obtain ⟨X, hX⟩ : ∃ X, X = w.heap.size := ⟨_, rfl⟩
  have HYE : Hid (Y = w.heap.size + 1) := hY
  have HXE : Hid (X = w.heap.size) := hX
  rw [← hX] at hx
  rw [← hY] at hy
  have hXY : X ≠ Y := by omega
  have HX1 : Hid (W1.heap[X]? = some (.cells #[.int .i64 f.kind, .int .i64 f.fr, .slice va vn vc, .slice oa on oc, .int .i64 f.next] 55)) := hx
  have HY1 : Hid (W1.heap[Y]? = some (.cells #[.int .i64 o.c, .int .i64 o.a, .int .i64 o.s, .bool o.ins, .int .i64 o.rc, .int .i64 o.ra, .int .i32 o.ch] 34)) := hy
  clear hx hy hX hY
  go_enter Try.func10, Try.ntmps10
  go_upto_region 1 with fail
  simp only [← hW1, ← HYE.out]
  simp only [← HXE.out]
  clear hW1
  go_upto_region 2 with (go_at_call 29; refine (shown15_any _).mono ?_; rintro e w2 ⟨rfl, hb⟩; have HB2 : Hid (Below W1.heap.size W1 w2) := hb; clear hb)
  have HBw2 : Hid (Below w.heap.size w w2) := HB1.out.trans (HB2.out.mono HB1.out.size)
  have HY2 : Hid (w2.heap[Y]? = some (.cells #[.int .i64 o.c, .int .i64 o.a, .int .i64 o.s, .bool o.ins, .int .i64 o.rc, .int .i64 o.ra, .int .i32 o.ch] 34)) := (HB2.out.block Y (Array.getElem?_eq_some_iff.1 HY1.out).1).trans HY1.out
  have HX2 : Hid (w2.heap[X]? = some (.cells #[.int .i64 f.kind, .int .i64 f.fr, .slice va vn vc, .slice oa on oc, .int .i64 f.next] 55)) := (HB2.out.block X (Array.getElem?_eq_some_iff.1 HX1.out).1).trans HX1.out
  obtain ⟨⟨x0, x1, x2, x3, x4⟩, _⟩ := cells5 HX2.out
  go_upto_region 3 with (go_at_call 30
                         refine (HCUT.out _ HBw2.out).mono ?_
                         rintro e w3 ⟨v', rfl, hat, hb⟩
                         obtain ⟨va', vn', vc', oa', on', oc', rfl, _⟩ := id hat
                         have HAT : Hid (FrAtD w3 (.agg #[.int .i64 (cutF f).kind, .int .i64 (cutF f).fr, .slice va' vn' vc', .slice oa' on' oc', .int .i64 (cutF f).next]) (cutF f) w2.heap.size) := hat
                         have HB3 : Hid (Below w2.heap.size w2 w3) := hb
                         have HX3 : Hid (w3.heap[X]? = some (.cells #[.int .i64 f.kind, .int .i64 f.fr, .slice va vn vc, .slice oa on oc, .int .i64 f.next] 55)) := (hb.block X (Array.getElem?_eq_some_iff.1 HX2.out).1).trans HX2.out
                         have HY3 : Hid (w3.heap[Y]? = some (.cells #[.int .i64 o.c, .int .i64 o.a, .int .i64 o.s, .bool o.ins, .int .i64 o.rc, .int .i64 o.ra, .int .i32 o.ch] 34)) := (hb.block Y (Array.getElem?_eq_some_iff.1 HY2.out).1).trans HY2.out
                         clear x0 x1 x2 x3 x4
                         obtain ⟨⟨x0, x1, x2, x3, x4⟩, z0, z1, z2, z3, z4⟩ := cells5 HX3.out
                         clear hat hb)
  obtain ⟨W4, hW4⟩ : ∃ W4, W4 = (((((w3.setCell ⟨X, 0, none⟩ (.int .i64 (cutF f).kind)).setCell ⟨X, 1, none⟩ (.int .i64 (cutF f).fr)).setCell ⟨X, 2, none⟩ (.slice va' vn' vc')).setCell ⟨X, 3, none⟩ (.slice oa' on' oc')).setCell ⟨X, 4, none⟩ (.int .i64 (cutF f).next)) := ⟨_, rfl⟩
  clear x0 x1 x2 x3 x4 z0 z1 z2 z3 z4
  simp only [← hW4]
  have hs4 := set5g HX3.out (.int .i64 (cutF f).kind) (.int .i64 (cutF f).fr) (.slice va' vn' vc') (.slice oa' on' oc') (.int .i64 (cutF f).next)
  rw [← hW4] at hs4
  have hlt : X < w2.heap.size := (Array.getElem?_eq_some_iff.1 HX2.out).1
  have hatf : FrAtD W4 (.agg #[.int .i64 (cutF f).kind, .int .i64 (cutF f).fr, .slice va' vn' vc', .slice oa' on' oc', .int .i64 (cutF f).next]) (cutF f) w2.heap.size := HAT.out.cg hs4.1 (fun j hj e => by omega)
  have HBw4 : Hid (Below w.heap.size w W4) := (HBw2.out.trans (HB3.out.mono HBw2.out.size)).trans (cg_bel hs4.1 (HBw2.out.trans (HB3.out.mono HBw2.out.size)).size (fun j hj => by have := HXE.out; omega))
  have HX4 : Hid (W4.heap[X]? = some (.cells #[.int .i64 (cutF f).kind, .int .i64 (cutF f).fr, .slice va' vn' vc', .slice oa' on' oc', .int .i64 (cutF f).next] 55)) := hs4.2
  have HY4 : Hid (W4.heap[Y]? = some (.cells #[.int .i64 o.c, .int .i64 o.a, .int .i64 o.s, .bool o.ins, .int .i64 o.rc, .int .i64 o.ra, .int .i32 o.ch] 34)) := cg_heap hs4.1 HY3.out (fun e => hXY e.symm)
  obtain ⟨⟨x0, x1, x2, x3, x4⟩, z0, z1, z2, z3, z4⟩ := cells5 hs4.2
  obtain ⟨p, hp⟩ : ∃ p, p = min on' 63 := ⟨_, rfl⟩
  have hp63 : p ≤ 63 := by omega
  obtain ⟨_, _, _, _, _, _, ee, r1, r2, r3, r4, r5, r6, r7, r8⟩ := hatf
  cases ee
  have hmin := min_run on' p 63 (by omega)
  have hcr := cutP_run oa' on' oc' p (by omega)
  obtain ⟨l, hl⟩ : ∃ l, l = (cutF f).ops.take p := ⟨_, rfl⟩
  have hrl : RdP W4 oa' p l := by rw [hl]; exact rdP_take r2 p (by omega)
  have HRL : Hid (RdP W4 oa' p l ∧ (oa' = none → oc' = 0) ∧ (∀ x, oa' = some x → w2.heap.size ≤ x.block) ∧ p ≤ oc' ∧ X < w2.heap.size) := ⟨hrl, r6, r8, by omega, hlt⟩
  generalize (cutF f).fr = ff at *
  clear hW4 hs4 hlt HCUT HX1 HX2 HX3 HAT HY1 HY2 HY3 r1 r2 r3 r4 r5 r6 r7 r8 hrl hl hp
  go_upto_region 7 with fail
  obtain ⟨i0, hi0, hz0, hz1, hz2⟩ := info_parts infoP15
  obtain ⟨W7, hW7⟩ : ∃ W7, W7 = ((((W4.setCell ⟨X, 0, none⟩ (.int .i64 1)).setCell ⟨X, 2, none⟩ (.slice none 0 0)).setCell ⟨X, 4, none⟩ (.int .i64 0)).setCell ⟨X, 3, none⟩ (.slice oa' p oc')) := ⟨_, rfl⟩
  have hc7 : Chg W4 W7 (fun k => k = X) := by
    rw [hW7]
    exact cg_trans (cg_trans (cg_trans (cg_set W4 X 0 _) (cg_set _ X 2 _) (fun _ _ h => h)) (cg_set _ X 4 _) (fun _ _ h => h)) (cg_set _ X 3 _) (fun _ _ h => h)
  have hx7 : W7.heap[X]? = some (.cells #[.int .i64 1, .int .i64 ff, .slice none 0 0, .slice oa' p oc', .int .i64 0] 55) := by
    rw [hW7]
    have r0 := heap_setX W4 X 0 (.int .i64 1) _ _ _ HX4.out
    have r1 := heap_setX _ X 2 (.slice none 0 0) _ _ _ r0
    have r2 := heap_setX _ X 4 (.int .i64 0) _ _ _ r1
    have r3 := heap_setX _ X 3 (.slice oa' p oc') _ _ _ r2
    rw [r3]
    simp
  have hy7 : W7.heap[Y]? = some (.cells #[.int .i64 o.c, .int .i64 o.a, .int .i64 o.s, .bool o.ins, .int .i64 o.rc, .int .i64 o.ra, .int .i32 o.ch] 34) := cg_heap hc7 HY4.out (fun e => hXY e.symm)
  have hb7 : Below w.heap.size w W7 := HBw4.out.trans (cg_bel hc7 HBw4.out.size (fun j hj => by have := HXE.out; omega))
  have hr7 : RdP W7 oa' p l := rdP_cg HRL.out.1 hc7 (fun x e h => by have h1 := HRL.out.2.2.1 x e; have h2 := HRL.out.2.2.2.2; omega)
  have HV7 : Hid (∀ V, Below W7.heap.size W7 V → V.heap[X]? = some (.cells #[.int .i64 1, .int .i64 ff, .slice none 0 0, .slice oa' p oc', .int .i64 0] 55) ∧ V.heap[Y]? = some (.cells #[.int .i64 o.c, .int .i64 o.a, .int .i64 o.s, .bool o.ins, .int .i64 o.rc, .int .i64 o.ra, .int .i32 o.ch] 34) ∧ RdP V oa' p l ∧ Below w.heap.size w V) := fun V hV => ⟨belF hV hx7, belF hV hy7, hr7.later hV, hb7.trans (hV.mono hb7.size)⟩
  have HNN : Hid (oa' = none → oc' = 0) := HRL.out.2.1
  have hpo : p ≤ oc' := HRL.out.2.2.2.1
  have hlp : l.length = p := hr7.1
  have HLP : Hid (l.length = p) := hlp
  obtain ⟨⟨y0, y1, y2, y3, y4⟩, _⟩ := cells5 hx7
  rw [← hW7]
  clear hW7 hc7 hx7 hy7 hb7 hr7 x0 x1 x2 x3 x4 z0 z1 z2 z3 z4 HX4 HY4 HRL hcr hmin
  have HB1Z : Hid (∀ V, Below W7.heap.size W7 V → Calls Try.prog 31 #[.agg #[.int .i64 1, .int .i64 ff, .slice none 0 0, .slice oa' p oc', .int .i64 0]] V fun e w' => (frB (opsF ff l) = true → ∃ a c, e = .returned (.tuple #[.slice a (bytesN (opsF ff l)).length c, .int .i64 0])) ∧ (frB (opsF ff l) = false → e = .returned (.tuple #[.slice none 0 0, .int .i64 1])) ∧ Below V.heap.size V w') := fun V hV => c_bytesG (opsF ff l) V _ ⟨none, 0, 0, oa', p, oc', rfl, ⟨rfl, fun h => absurd h (by omega)⟩, (HV7.out V hV).2.2.1⟩ (by simp [opsF]) (by show l.length ≤ 1000; omega)
  have HB2Z : Hid (∀ V a3 c3, RdP V a3 (p + 1) (l ++ [o]) → Calls Try.prog 31 #[.agg #[.int .i64 1, .int .i64 ff, .slice none 0 0, .slice a3 (p + 1) c3, .int .i64 0]] V fun e w' => (frB (opsF ff (l ++ [o])) = true → ∃ a c, e = .returned (.tuple #[.slice a (bytesN (opsF ff (l ++ [o]))).length c, .int .i64 0])) ∧ (frB (opsF ff (l ++ [o])) = false → e = .returned (.tuple #[.slice none 0 0, .int .i64 1])) ∧ Below V.heap.size V w') := fun V a3 c3 h => c_bytesG (opsF ff (l ++ [o])) V _ ⟨none, 0, 0, a3, p + 1, c3, rfl, ⟨rfl, fun h => absurd h (by omega)⟩, h⟩ (by simp [opsF]) (by show (l ++ [o]).length ≤ 1000; rw [List.length_append]; simp; omega)
  have hmore := opsF_more ff l o (by omega)
  obtain ⟨nb, hnb⟩ : ∃ nb, nb = (bytesN (opsF ff l)).length := ⟨_, rfl⟩
  obtain ⟨nc, hnc⟩ : ∃ nc, nc = (bytesN (opsF ff (l ++ [o]))).length := ⟨_, rfl⟩
  have hlg := longer ff l o
  have hlb : (bytesN (opsF ff l)).length ≤ 200000 ∧ (bytesN (opsF ff (l ++ [o]))).length ≤ 200000 := ⟨bytesG_len _ (by simp [opsF]) (by show l.length ≤ 1000; omega), bytesG_len _ (by simp [opsF]) (by show (l ++ [o]).length ≤ 1000; rw [List.length_append]; simp; omega)⟩
  rw [← hnb, ← hnc] at hlg hlb
  have HLG : Hid (nb + 6 ≤ nc) := hlg
  have HLB : Hid (nb ≤ 200000 ∧ nc ≤ 200000) := hlb
  clear hlg hlb
  have HLES : Hid (0 < p → frB (opsF ff l) = true → ∀ V, Below W7.heap.size W7 V → ∃ nl : Nat, nl < (bytesN (opsF ff l)).length ∧ Calls Try.prog 31 #[.agg #[.int .i64 1, .int .i64 ff, .slice none 0 0, .slice oa' (p - 1) oc', .int .i64 0]] V fun e w' => (∃ a c, e = .returned (.tuple #[.slice a nl c, .int .i64 0])) ∧ Below V.heap.size V w') := fun h0 hz V hV => by
    obtain ⟨m, x, hmx⟩ : ∃ m x, l = m ++ [x] := ⟨l.dropLast, l.getLast (fun e => by rw [e] at hlp; simp at hlp; omega), (List.dropLast_concat_getLast _).symm⟩
    have hm : m.length = p - 1 := by rw [hmx, List.length_append] at hlp; simp at hlp; omega
    have hrm : RdP V oa' (p - 1) m := by
      have := rdP_take (HV7.out V hV).2.2.1 (p - 1) (by omega)
      rw [hmx, List.take_append_of_le_length (by omega), List.take_of_length_le (by omega)] at this
      exact this
    have hz2 : frB (opsF ff m) = true := by
      rw [hmx, opsF_more ff m x (by omega), Bool.and_eq_true] at hz
      exact hz.1
    have h6 := longer ff m x
    rw [← hmx] at h6
    refine ⟨(bytesN (opsF ff m)).length, by omega, (c_bytesG (opsF ff m) V _ ⟨none, 0, 0, oa', p - 1, oc', rfl, ⟨rfl, fun h => absurd h (by omega)⟩, hrm⟩ (by simp [opsF]) (by show m.length ≤ 1000; omega)).mono ?_⟩
    rintro e w' ⟨q1, _, q3⟩
    exact ⟨q1 hz2, q3⟩
  rw [← hnb] at HB1Z HLES
  rw [← hnc] at HB2Z
  clear hnb hnc
  cases hz1 : frB (opsF ff l)
  · rw [hz1] at HB1Z HLES hmore
    simp only [Bool.false_and] at hmore
    rw [hmore] at HB2Z
    have HY1 : Hid (∀ V, Below W7.heap.size W7 V → Calls Try.prog 31 #[.agg #[.int .i64 1, .int .i64 ff, .slice none 0 0, .slice oa' p oc', .int .i64 0]] V fun e w' => (e = .returned (.tuple #[.slice none 0 0, .int .i64 1])) ∧ Below V.heap.size V w') := fun V hV => (HB1Z.out V hV).mono (by rintro e w' ⟨q1, q2, q3⟩; exact ⟨q2 rfl, q3⟩)
    have HY2 : Hid (∀ V a3 c3, RdP V a3 (p + 1) (l ++ [o]) → Calls Try.prog 31 #[.agg #[.int .i64 1, .int .i64 ff, .slice none 0 0, .slice a3 (p + 1) c3, .int .i64 0]] V fun e w' => (e = .returned (.tuple #[.slice none 0 0, .int .i64 1])) ∧ Below V.heap.size V w') := fun V a3 c3 h => (HB2Z.out V a3 c3 h).mono (by rintro e w' ⟨q1, q2, q3⟩; exact ⟨q2 rfl, q3⟩)
    clear HB1Z HB2Z hmore hz1
    go_upto_region 9 with (go_at_call 31; refine (HY1.out W7 (Below.refl _ _)).mono ?_; rintro e w7 ⟨rfl, hb⟩; have HB7 : Hid (Below W7.heap.size W7 w7) := hb; obtain ⟨⟨y0, y1, y2, y3, y4⟩, _⟩ := cells5 (HV7.out w7 hb).1; clear hb)
    obtain ⟨W8, hW8⟩ : ∃ W8, W8 = w7.alloc (.cells #[.int .i64 1, .int .i64 ff, .slice none 0 0, .slice oa' p oc', .int .i64 0] 55) := ⟨_, rfl⟩
    obtain ⟨G, hG⟩ : ∃ G, G = w7.heap.size := ⟨_, rfl⟩
    have hbw : Below w7.heap.size w7 W8 := by rw [hW8]; exact (Below.refl _ w7).alloc (Nat.le_refl _) _
    have HB8 : Hid (Below W7.heap.size W7 W8) := HB7.out.trans (hbw.mono HB7.out.size)
    have hg8 : W8.heap[G]? = some (.cells #[.int .i64 1, .int .i64 ff, .slice none 0 0, .slice oa' p oc', .int .i64 0] 55) := by rw [hW8, hG]; exact heap_alloc_new w7 _
    have HG8 : Hid (W8.heap[G]? = some (.cells #[.int .i64 1, .int .i64 ff, .slice none 0 0, .slice oa' p oc', .int .i64 0] 55) ∧ W7.heap.size ≤ G ∧ G < W8.heap.size) := ⟨hg8, by rw [hG]; exact HB7.out.size, (Array.getElem?_eq_some_iff.1 hg8).1⟩
    have HSS : Hid (∀ w', Below W8.heap.size W8 w' → (w'.cell? ⟨X, 3, none⟩ = some (.slice oa' p oc') ∧ w'.cell? ⟨Y, 0, none⟩ = some (.int .i64 o.c) ∧ w'.cell? ⟨Y, 1, none⟩ = some (.int .i64 o.a) ∧ w'.cell? ⟨Y, 2, none⟩ = some (.int .i64 o.s) ∧ w'.cell? ⟨Y, 3, none⟩ = some (.bool o.ins) ∧ w'.cell? ⟨Y, 4, none⟩ = some (.int .i64 o.rc) ∧ w'.cell? ⟨Y, 5, none⟩ = some (.int .i64 o.ra) ∧ w'.cell? ⟨Y, 6, none⟩ = some (.int .i32 o.ch)) ∧ (∃ vg, w'.cell? ⟨G, 3, none⟩ = some vg) ∧ w'.frozen? ⟨G, 3, none⟩ = false) := fun V hV => by
      have h1 := HV7.out V (HB8.out.trans (hV.mono HB8.out.size))
      have h2 := belF hV HG8.out.1
      exact ⟨⟨cell_of_row V X 3 _ _ _ h1.1, cell_of_row V Y 0 _ _ _ h1.2.1, cell_of_row V Y 1 _ _ _ h1.2.1, cell_of_row V Y 2 _ _ _ h1.2.1, cell_of_row V Y 3 _ _ _ h1.2.1, cell_of_row V Y 4 _ _ _ h1.2.1, cell_of_row V Y 5 _ _ _ h1.2.1, cell_of_row V Y 6 _ _ _ h1.2.1⟩, ⟨_, cell_of_row V G 3 _ _ _ h2⟩, Lib.frozen_of_heap h2 _⟩
    have HSF : Hid (∀ w' v3, Below W7.heap.size W7 w' → w'.heap[G]? = some (.cells #[.int .i64 1, .int .i64 ff, .slice none 0 0, v3, .int .i64 0] 55) → (w'.cell? ⟨X, 3, none⟩ = some (.slice oa' p oc') ∧ w'.cell? ⟨Y, 0, none⟩ = some (.int .i64 o.c) ∧ w'.cell? ⟨Y, 1, none⟩ = some (.int .i64 o.a) ∧ w'.cell? ⟨Y, 2, none⟩ = some (.int .i64 o.s) ∧ w'.cell? ⟨Y, 3, none⟩ = some (.bool o.ins) ∧ w'.cell? ⟨Y, 4, none⟩ = some (.int .i64 o.rc) ∧ w'.cell? ⟨Y, 5, none⟩ = some (.int .i64 o.ra) ∧ w'.cell? ⟨Y, 6, none⟩ = some (.int .i32 o.ch)) ∧ (∃ vg, w'.cell? ⟨G, 3, none⟩ = some vg) ∧ w'.frozen? ⟨G, 3, none⟩ = false) := fun V v3 hV h2 => by
      have h1 := HV7.out V hV
      exact ⟨⟨cell_of_row V X 3 _ _ _ h1.1, cell_of_row V Y 0 _ _ _ h1.2.1, cell_of_row V Y 1 _ _ _ h1.2.1, cell_of_row V Y 2 _ _ _ h1.2.1, cell_of_row V Y 3 _ _ _ h1.2.1, cell_of_row V Y 4 _ _ _ h1.2.1, cell_of_row V Y 5 _ _ _ h1.2.1, cell_of_row V Y 6 _ _ _ h1.2.1⟩, ⟨_, cell_of_row V G 3 _ _ _ h2⟩, Lib.frozen_of_heap h2 _⟩
    have HEA1 : Hid (∀ x : Obj, Below W8.heap.size W8 (W8.drew.alloc x)) := fun x => (Below.refl _ W8).drew.alloc (Nat.le_refl _) _
    have HEA : Hid (∀ x y : Obj, Below W8.heap.size W8 (W8.drew.alloc x) ∧ Below W8.heap.size W8 ((W8.drew.alloc x).alloc y)) := fun x y => ⟨(Below.refl _ W8).drew.alloc (Nat.le_refl _) _, ((Below.refl _ W8).drew.alloc (Nat.le_refl _) _).alloc (by simp) _⟩
    have HS9 : Hid (∀ Wy a3 c3, Below W8.heap.size W8 Wy → RdP Wy a3 (p + 1) (l ++ [o]) → (∀ k, (Value.slice a3 (p + 1) c3).ownBlock = some k → W8.heap.size ≤ k) → Below W7.heap.size W7 (Wy.setCell ⟨G, 3, none⟩ (.slice a3 (p + 1) c3)) ∧ (Wy.setCell ⟨G, 3, none⟩ (.slice a3 (p + 1) c3)).heap[G]? = some (.cells #[.int .i64 1, .int .i64 ff, .slice none 0 0, .slice a3 (p + 1) c3, .int .i64 0] 55) ∧ RdP (Wy.setCell ⟨G, 3, none⟩ (.slice a3 (p + 1) c3)) a3 (p + 1) (l ++ [o])) := fun Wy a3 c3 hb hr hk => by
      have hc := cg_set Wy G 3 (.slice a3 (p + 1) c3)
      have hby := HB8.out.trans (hb.mono HB8.out.size)
      refine ⟨hby.trans (cg_bel hc hby.size (fun k h => by rw [h]; exact HG8.out.2.1)), ?_, rdP_cg hr hc (fun x e h => ?_)⟩
      · rw [heap_setX Wy G 3 _ _ _ _ (belF hb HG8.out.1)]; simp
      · subst e
        have := hk x.block rfl
        have := HG8.out.2.2
        omega
    rw [← hG, ← hW8]
    clear hG hW8 hbw hg8 HB7 HY1 y0 y1 y2 y3 y4
    refine wp_region_noPanic ?_
    refine wp_region_held_drew (S := (fun w' => (w'.cell? ⟨X, 3, none⟩ = some (.slice oa' p oc') ∧ w'.cell? ⟨Y, 0, none⟩ = some (.int .i64 o.c) ∧ w'.cell? ⟨Y, 1, none⟩ = some (.int .i64 o.a) ∧ w'.cell? ⟨Y, 2, none⟩ = some (.int .i64 o.s) ∧ w'.cell? ⟨Y, 3, none⟩ = some (.bool o.ins) ∧ w'.cell? ⟨Y, 4, none⟩ = some (.int .i64 o.rc) ∧ w'.cell? ⟨Y, 5, none⟩ = some (.int .i64 o.ra) ∧ w'.cell? ⟨Y, 6, none⟩ = some (.int .i32 o.ch)) ∧ (∃ vg, w'.cell? ⟨G, 3, none⟩ = some vg) ∧ w'.frozen? ⟨G, 3, none⟩ = false)) (by kernel_rfl) (HSS.out _ (Below.refl _ W8).drew) (fun hHeld => ?_)
    refine wpAnyH_take (i := 1) (v := ?_) rfl (by kernel_rfl) (by kernel_rfl) (by kernel_rfl) (fun _ _ _ h => h) (Or.inl ⟨by rfl, ?_⟩) (by assumption) ?_
    rotate_left
    · intro W' hSw; obtain ⟨⟨s0, t0, t1, t2, t3, t4, t5, t6⟩, ⟨vg, g3⟩, gf⟩ := hSw; go_simp; try with_reducible rfl
    try simp only [Act.put, List.getElem_toArray, List.getElem_cons_succ, List.getElem_cons_zero, List.setIfInBounds_toArray, List.set_cons_zero, List.set_cons_succ]
    refine wpAnyH_take (i := 2) (v := ?_) rfl (by kernel_rfl) (by kernel_rfl) (by kernel_rfl) (fun _ _ _ h => h) (Or.inl ⟨by rfl, ?_⟩) (by assumption) ?_
    rotate_left
    · intro W' hSw; obtain ⟨⟨s0, t0, t1, t2, t3, t4, t5, t6⟩, ⟨vg, g3⟩, gf⟩ := hSw; go_simp; try with_reducible rfl
    try simp only [Act.put, List.getElem_toArray, List.getElem_cons_succ, List.getElem_cons_zero, List.setIfInBounds_toArray, List.set_cons_zero, List.set_cons_succ]
    refine wpAnyH_take (i := 4) (v := ?_) rfl (by kernel_rfl) (by kernel_rfl) (by kernel_rfl) (fun _ _ _ h => h) (Or.inl ⟨by rfl, ?_⟩) (by assumption) ?_
    rotate_left
    · intro W' hSw; obtain ⟨⟨s0, t0, t1, t2, t3, t4, t5, t6⟩, ⟨vg, g3⟩, gf⟩ := hSw; go_simp; try with_reducible rfl
    try simp only [Act.put, List.getElem_toArray, List.getElem_cons_succ, List.getElem_cons_zero, List.setIfInBounds_toArray, List.set_cons_zero, List.set_cons_succ]
    refine wpAnyH_ready (rs := [0, 5]) (by kernel_rfl) (by simp) ?_
    refine AllReadyH.cons rfl (fun KK hK => ?_) ?_
    · go_simp
      refine hK.out _ _ (HSS.out _ (HEA1.out _)) (fun hHeld => ?_)
      clear hK KK
      try simp only [Act.put, List.getElem_toArray, List.getElem_cons_succ, List.getElem_cons_zero, List.setIfInBounds_toArray, List.set_cons_zero, List.set_cons_succ]
      have HZ : Hid (Below W8.heap.size W8 (W8.drew.alloc (.cells #[] 34)) ∧ (W8.drew.alloc (.cells #[] 34)).ownsRow W8.heap.size 34 7 (.slice (some ⟨W8.heap.size, 0, none⟩) 0 0) 0 []) := ⟨HEA1.out _, World.ownsRow_made W8.drew #[] 0 (Nat.le_refl _) (by simp [maxLen]) rfl⟩
      refine wpAnyH_ready (rs := [3, 5]) (by kernel_rfl) (by simp) ?_
      refine AllReadyH.cons rfl (fun KK hK => ?_) ?_
      · refine step_append_src rfl (.tmp 34) (.tmp 36) 22 rfl W8.heap.size 34 i0 op0.val 7 56 Try.underlying22 hi0 hz0 hz1 hz2 rfl (by decide) (.slice (some ⟨W8.heap.size, 0, none⟩) 0 0) 0 _ (by simp [Act.eval]) HZ.out.2 oa' p oc' (flatP l) (by simp [Act.eval]) (srcP15 (HV7.out _ (HB8.out.trans (HZ.out.1.mono HB8.out.size))).2.2.1 HNN.out) (by unfold maxLen; omega) (by omega) HZ.out.1.size (fun v2 Wx o2 g2 => ?_)
        have HBx : Hid (Below W8.heap.size W8 Wx) := HZ.out.1.grown g2 HZ.out.1.size (fun j hj => (HZ.out.2.lt j hj).1)
        have HO2 : Hid (Wx.ownsRow W8.heap.size 34 7 v2 p (flatP l)) := by
          show World.ownsRow _ _ _ _ _ _ _
          simpa using o2
        clear o2 g2
        refine hK.out _ _ (HSS.out _ HBx.out) (fun hHeld => ?_)
        clear hK KK
        try simp only [Act.put, List.getElem_toArray, List.getElem_cons_succ, List.getElem_cons_zero, List.setIfInBounds_toArray, List.set_cons_zero, List.set_cons_succ]
        refine wpAnyH_ready (rs := [5]) (by kernel_rfl) (by simp) ?_
        refine AllReadyH.cons rfl (fun KK hK => ?_) ?_
        · go_simp
          refine hK.out _ _ (HSS.out _ (HBx.out.alloc HBx.out.size _)) (fun hHeld => ?_)
          clear hK KK
          try simp only [Act.put, List.getElem_toArray, List.getElem_cons_succ, List.getElem_cons_zero, List.setIfInBounds_toArray, List.set_cons_zero, List.set_cons_succ]
          refine wpAnyH_ready (rs := [6]) (by kernel_rfl) (by simp) ?_
          refine AllReadyH.cons rfl (fun KK hK => ?_) AllReadyH.nil
          refine step_append_src rfl (.tmp 37) (.tmp 39) 22 rfl W8.heap.size 34 i0 op0.val 7 56 Try.underlying22 hi0 hz0 hz1 hz2 rfl (by decide) v2 p _ (by simp [Act.eval]) (HO2.out.alloc _) (some ⟨Wx.heap.size, 0, none⟩) 1 1 [.int .i64 o.c, .int .i64 o.a, .int .i64 o.s, .bool o.ins, .int .i64 o.rc, .int .i64 o.ra, .int .i32 o.ch] (by simp [Act.eval]) (srcO (heap_alloc_new Wx _)) (by unfold maxLen; omega) (by omega) (HBx.out.alloc HBx.out.size _).size (fun v3 Wy o3 g3 => ?_)
          have HBy : Hid (Below W8.heap.size W8 Wy) := ((HBx.out.alloc HBx.out.size _)).grown g3 ((HBx.out.alloc HBx.out.size _)).size (fun j hj => (HO2.out.lt j hj).1)
          have ho3 : Wy.ownsRow W8.heap.size 34 7 v3 (p + 1) (flatP (l ++ [o])) := by rw [flatP_app, flatP_one]; exact o3
          obtain ⟨a3, c3, rfl, hc3, _, hr3, hn3⟩ := rdP_own ho3
          have HR3 : Hid (RdP Wy a3 (p + 1) (l ++ [o]) ∧ ∀ k, (Value.slice a3 (p + 1) c3).ownBlock = some k → W8.heap.size ≤ k) := ⟨hr3, fun k hk => (ho3.lt k hk).1⟩
          clear o3 g3 ho3 hr3 hc3 hn3
          refine hK.out _ _ (HSS.out _ HBy.out) (fun hHeld => ?_)
          clear hK KK
          try simp only [Act.put, List.getElem_toArray, List.getElem_cons_succ, List.getElem_cons_zero, List.setIfInBounds_toArray, List.set_cons_zero, List.set_cons_succ]
          refine wpAnyH_take (i := 7) (v := ?_) rfl (by kernel_rfl) (by kernel_rfl) (by kernel_rfl) (fun _ _ _ h => h) (Or.inl ⟨by rfl, ?_⟩) (by assumption) ?_
          rotate_left
          · intro W' hSw; obtain ⟨⟨s0, t0, t1, t2, t3, t4, t5, t6⟩, ⟨vg, g3⟩, gf⟩ := hSw; go_simp; try with_reducible rfl
          try simp only [Act.put, List.getElem_toArray, List.getElem_cons_succ, List.getElem_cons_zero, List.setIfInBounds_toArray, List.set_cons_zero, List.set_cons_succ]
          refine wpAnyH_ready (rs := [8]) (by kernel_rfl) (by simp) ?_
          refine AllReadyH.cons rfl (fun KK hK => ?_) AllReadyH.nil
          obtain ⟨_, ⟨vg, g3⟩, gf⟩ := HSS.out Wy HBy.out
          go_simp
          refine hK.out _ _ (HSF.out _ _ (HS9.out Wy a3 c3 HBy.out HR3.out.1 HR3.out.2).1 (HS9.out Wy a3 c3 HBy.out HR3.out.1 HR3.out.2).2.1) (fun hHeld => ?_)
          clear hK KK
          try simp only [Act.put, List.getElem_toArray, List.getElem_cons_succ, List.getElem_cons_zero, List.setIfInBounds_toArray, List.set_cons_zero, List.set_cons_succ]
          refine wpAnyH_done (by kernel_rfl) ?_ _
          refine NoPanic.normal ?_
          clear hHeld g3 gf
          have h9 := HS9.out Wy a3 c3 HBy.out HR3.out.1 HR3.out.2
          obtain ⟨W9, hW9⟩ : ∃ W9, W9 = Wy.setCell ⟨G, 3, none⟩ (.slice a3 (p + 1) c3) := ⟨_, rfl⟩
          rw [← hW9] at h9 ⊢
          have H9 : Hid (type_of% h9) := h9
          clear hW9 h9
          obtain ⟨⟨y0, y1, y2, y3, y4⟩, _⟩ := cells5 H9.out.2.1
          go_wp2_with (go_at_call 31; refine (HY2.out _ _ _ H9.out.2.2).mono ?_; rintro e w10 ⟨rfl, hb⟩; have HB10 : Hid (Below W7.heap.size W7 w10) := H9.out.1.trans (hb.mono H9.out.1.size); clear hb)
          go_ret
          exact ⟨rfl, (HV7.out _ HB10.out).2.2.2⟩
        exact AllReadyH.nil
      refine AllReadyH.cons rfl (fun KK hK => ?_) ?_
      · go_simp
        refine hK.out _ _ (HSS.out _ (HZ.out.1.alloc HZ.out.1.size _)) (fun hHeld => ?_)
        clear hK KK
        try simp only [Act.put, List.getElem_toArray, List.getElem_cons_succ, List.getElem_cons_zero, List.setIfInBounds_toArray, List.set_cons_zero, List.set_cons_succ]
        have HZ0 : Hid (type_of% HZ.out) := HZ.out
        clear HZ
        have HZ : Hid (Below W8.heap.size W8 ((W8.drew.alloc (.cells #[] 34)).alloc (.cells #[.int .i64 o.c, .int .i64 o.a, .int .i64 o.s, .bool o.ins, .int .i64 o.rc, .int .i64 o.ra, .int .i32 o.ch] 34)) ∧ ((W8.drew.alloc (.cells #[] 34)).alloc (.cells #[.int .i64 o.c, .int .i64 o.a, .int .i64 o.s, .bool o.ins, .int .i64 o.rc, .int .i64 o.ra, .int .i32 o.ch] 34)).ownsRow W8.heap.size 34 7 (.slice (some ⟨W8.heap.size, 0, none⟩) 0 0) 0 []) := ⟨HZ0.out.1.alloc HZ0.out.1.size _, HZ0.out.2.alloc _⟩
        refine wpAnyH_ready (rs := [3]) (by kernel_rfl) (by simp) ?_
        refine AllReadyH.cons rfl (fun KK hK => ?_) ?_
        · refine step_append_src rfl (.tmp 34) (.tmp 36) 22 rfl W8.heap.size 34 i0 op0.val 7 56 Try.underlying22 hi0 hz0 hz1 hz2 rfl (by decide) (.slice (some ⟨W8.heap.size, 0, none⟩) 0 0) 0 _ (by simp [Act.eval]) HZ.out.2 oa' p oc' (flatP l) (by simp [Act.eval]) (srcP15 (HV7.out _ (HB8.out.trans (HZ.out.1.mono HB8.out.size))).2.2.1 HNN.out) (by unfold maxLen; omega) (by omega) HZ.out.1.size (fun v2 Wx o2 g2 => ?_)
          have HBx : Hid (Below W8.heap.size W8 Wx) := HZ.out.1.grown g2 HZ.out.1.size (fun j hj => (HZ.out.2.lt j hj).1)
          have HO2 : Hid (Wx.ownsRow W8.heap.size 34 7 v2 p (flatP l)) := by
            show World.ownsRow _ _ _ _ _ _ _
            simpa using o2
          have HCX : Hid (Wx.heap[W8.heap.size + 1]? = some (.cells #[.int .i64 o.c, .int .i64 o.a, .int .i64 o.s, .bool o.ins, .int .i64 o.rc, .int .i64 o.ra, .int .i32 o.ch] 34)) := (g2.block (W8.heap.size + 1) (by simp <;> omega) (fun h => by have h : some (W8.heap.size + 1) = some (W8.heap.size) := h; injection h with h; omega)).trans ((by have := heap_alloc_new (W8.drew.alloc (.cells #[] 34)) (.cells #[.int .i64 o.c, .int .i64 o.a, .int .i64 o.s, .bool o.ins, .int .i64 o.rc, .int .i64 o.ra, .int .i32 o.ch] 34); rw [World.size_alloc] at this; exact this))
          clear o2 g2
          refine hK.out _ _ (HSS.out _ HBx.out) (fun hHeld => ?_)
          clear hK KK
          try simp only [Act.put, List.getElem_toArray, List.getElem_cons_succ, List.getElem_cons_zero, List.setIfInBounds_toArray, List.set_cons_zero, List.set_cons_succ]
          refine wpAnyH_ready (rs := [6]) (by kernel_rfl) (by simp) ?_
          refine AllReadyH.cons rfl (fun KK hK => ?_) AllReadyH.nil
          refine step_append_src rfl (.tmp 37) (.tmp 39) 22 rfl W8.heap.size 34 i0 op0.val 7 56 Try.underlying22 hi0 hz0 hz1 hz2 rfl (by decide) v2 p _ (by simp [Act.eval]) HO2.out (some ⟨W8.heap.size + 1, 0, none⟩) 1 1 [.int .i64 o.c, .int .i64 o.a, .int .i64 o.s, .bool o.ins, .int .i64 o.rc, .int .i64 o.ra, .int .i32 o.ch] (by simp [Act.eval]) (srcO HCX.out) (by unfold maxLen; omega) (by omega) HBx.out.size (fun v3 Wy o3 g3 => ?_)
          have HBy : Hid (Below W8.heap.size W8 Wy) := (HBx.out).grown g3 (HBx.out).size (fun j hj => (HO2.out.lt j hj).1)
          have ho3 : Wy.ownsRow W8.heap.size 34 7 v3 (p + 1) (flatP (l ++ [o])) := by rw [flatP_app, flatP_one]; exact o3
          obtain ⟨a3, c3, rfl, hc3, _, hr3, hn3⟩ := rdP_own ho3
          have HR3 : Hid (RdP Wy a3 (p + 1) (l ++ [o]) ∧ ∀ k, (Value.slice a3 (p + 1) c3).ownBlock = some k → W8.heap.size ≤ k) := ⟨hr3, fun k hk => (ho3.lt k hk).1⟩
          clear o3 g3 ho3 hr3 hc3 hn3
          refine hK.out _ _ (HSS.out _ HBy.out) (fun hHeld => ?_)
          clear hK KK
          try simp only [Act.put, List.getElem_toArray, List.getElem_cons_succ, List.getElem_cons_zero, List.setIfInBounds_toArray, List.set_cons_zero, List.set_cons_succ]
          refine wpAnyH_take (i := 7) (v := ?_) rfl (by kernel_rfl) (by kernel_rfl) (by kernel_rfl) (fun _ _ _ h => h) (Or.inl ⟨by rfl, ?_⟩) (by assumption) ?_
          rotate_left
          · intro W' hSw; obtain ⟨⟨s0, t0, t1, t2, t3, t4, t5, t6⟩, ⟨vg, g3⟩, gf⟩ := hSw; go_simp; try with_reducible rfl
          try simp only [Act.put, List.getElem_toArray, List.getElem_cons_succ, List.getElem_cons_zero, List.setIfInBounds_toArray, List.set_cons_zero, List.set_cons_succ]
          refine wpAnyH_ready (rs := [8]) (by kernel_rfl) (by simp) ?_
          refine AllReadyH.cons rfl (fun KK hK => ?_) AllReadyH.nil
          obtain ⟨_, ⟨vg, g3⟩, gf⟩ := HSS.out Wy HBy.out
          go_simp
          refine hK.out _ _ (HSF.out _ _ (HS9.out Wy a3 c3 HBy.out HR3.out.1 HR3.out.2).1 (HS9.out Wy a3 c3 HBy.out HR3.out.1 HR3.out.2).2.1) (fun hHeld => ?_)
          clear hK KK
          try simp only [Act.put, List.getElem_toArray, List.getElem_cons_succ, List.getElem_cons_zero, List.setIfInBounds_toArray, List.set_cons_zero, List.set_cons_succ]
          refine wpAnyH_done (by kernel_rfl) ?_ _
          refine NoPanic.normal ?_
          clear hHeld g3 gf
          have h9 := HS9.out Wy a3 c3 HBy.out HR3.out.1 HR3.out.2
          obtain ⟨W9, hW9⟩ : ∃ W9, W9 = Wy.setCell ⟨G, 3, none⟩ (.slice a3 (p + 1) c3) := ⟨_, rfl⟩
          rw [← hW9] at h9 ⊢
          have H9 : Hid (type_of% h9) := h9
          clear hW9 h9
          obtain ⟨⟨y0, y1, y2, y3, y4⟩, _⟩ := cells5 H9.out.2.1
          go_wp2_with (go_at_call 31; refine (HY2.out _ _ _ H9.out.2.2).mono ?_; rintro e w10 ⟨rfl, hb⟩; have HB10 : Hid (Below W7.heap.size W7 w10) := H9.out.1.trans (hb.mono H9.out.1.size); clear hb)
          go_ret
          exact ⟨rfl, (HV7.out _ HB10.out).2.2.2⟩
        exact AllReadyH.nil
      exact AllReadyH.nil
    refine AllReadyH.cons rfl (fun KK hK => ?_) ?_
    · go_simp
      refine hK.out _ _ (HSS.out _ (HEA1.out _)) (fun hHeld => ?_)
      clear hK KK
      try simp only [Act.put, List.getElem_toArray, List.getElem_cons_succ, List.getElem_cons_zero, List.setIfInBounds_toArray, List.set_cons_zero, List.set_cons_succ]
      refine wpAnyH_ready (rs := [0]) (by kernel_rfl) (by simp) ?_
      refine AllReadyH.cons rfl (fun KK hK => ?_) ?_
      · go_simp
        refine hK.out _ _ (HSS.out _ (HEA.out _ _).2) (fun hHeld => ?_)
        clear hK KK
        try simp only [Act.put, List.getElem_toArray, List.getElem_cons_succ, List.getElem_cons_zero, List.setIfInBounds_toArray, List.set_cons_zero, List.set_cons_succ]
        have HZ : Hid (Below W8.heap.size W8 ((W8.drew.alloc (.cells #[.int .i64 o.c, .int .i64 o.a, .int .i64 o.s, .bool o.ins, .int .i64 o.rc, .int .i64 o.ra, .int .i32 o.ch] 34)).alloc (.cells #[] 34)) ∧ ((W8.drew.alloc (.cells #[.int .i64 o.c, .int .i64 o.a, .int .i64 o.s, .bool o.ins, .int .i64 o.rc, .int .i64 o.ra, .int .i32 o.ch] 34)).alloc (.cells #[] 34)).ownsRow W8.heap.size 34 7 (.slice (some ⟨W8.heap.size + 1, 0, none⟩) 0 0) 0 []) := ⟨(HEA.out _ _).2, by
          have h : ((W8.drew.alloc (.cells #[.int .i64 o.c, .int .i64 o.a, .int .i64 o.s, .bool o.ins, .int .i64 o.rc, .int .i64 o.ra, .int .i32 o.ch] 34)).alloc (.cells #[] 34)).ownsRow W8.heap.size 34 7 (.slice (some ⟨(W8.drew.alloc (.cells #[.int .i64 o.c, .int .i64 o.a, .int .i64 o.s, .bool o.ins, .int .i64 o.rc, .int .i64 o.ra, .int .i32 o.ch] 34)).heap.size, 0, none⟩) 0 0) 0 [] := World.ownsRow_made (W8.drew.alloc (.cells #[.int .i64 o.c, .int .i64 o.a, .int .i64 o.s, .bool o.ins, .int .i64 o.rc, .int .i64 o.ra, .int .i32 o.ch] 34)) #[] 0 (by simp) (by simp [maxLen]) rfl
          rw [World.size_alloc] at h
          exact h⟩
        refine wpAnyH_ready (rs := [3]) (by kernel_rfl) (by simp) ?_
        refine AllReadyH.cons rfl (fun KK hK => ?_) ?_
        · refine step_append_src rfl (.tmp 34) (.tmp 36) 22 rfl W8.heap.size 34 i0 op0.val 7 56 Try.underlying22 hi0 hz0 hz1 hz2 rfl (by decide) (.slice (some ⟨W8.heap.size + 1, 0, none⟩) 0 0) 0 _ (by simp [Act.eval]) HZ.out.2 oa' p oc' (flatP l) (by simp [Act.eval]) (srcP15 (HV7.out _ (HB8.out.trans (HZ.out.1.mono HB8.out.size))).2.2.1 HNN.out) (by unfold maxLen; omega) (by omega) HZ.out.1.size (fun v2 Wx o2 g2 => ?_)
          have HBx : Hid (Below W8.heap.size W8 Wx) := HZ.out.1.grown g2 HZ.out.1.size (fun j hj => (HZ.out.2.lt j hj).1)
          have HO2 : Hid (Wx.ownsRow W8.heap.size 34 7 v2 p (flatP l)) := by
            show World.ownsRow _ _ _ _ _ _ _
            simpa using o2
          have HCX : Hid (Wx.heap[W8.heap.size]? = some (.cells #[.int .i64 o.c, .int .i64 o.a, .int .i64 o.s, .bool o.ins, .int .i64 o.rc, .int .i64 o.ra, .int .i32 o.ch] 34)) := (g2.block (W8.heap.size) (by simp <;> omega) (fun h => by have h : some (W8.heap.size) = some (W8.heap.size + 1) := h; injection h with h; omega)).trans ((((Below.refl _ _).alloc (Nat.le_refl _) _).block W8.heap.size (by simp)).trans (heap_alloc_new W8.drew (.cells #[.int .i64 o.c, .int .i64 o.a, .int .i64 o.s, .bool o.ins, .int .i64 o.rc, .int .i64 o.ra, .int .i32 o.ch] 34)))
          clear o2 g2
          refine hK.out _ _ (HSS.out _ HBx.out) (fun hHeld => ?_)
          clear hK KK
          try simp only [Act.put, List.getElem_toArray, List.getElem_cons_succ, List.getElem_cons_zero, List.setIfInBounds_toArray, List.set_cons_zero, List.set_cons_succ]
          refine wpAnyH_ready (rs := [6]) (by kernel_rfl) (by simp) ?_
          refine AllReadyH.cons rfl (fun KK hK => ?_) AllReadyH.nil
          refine step_append_src rfl (.tmp 37) (.tmp 39) 22 rfl W8.heap.size 34 i0 op0.val 7 56 Try.underlying22 hi0 hz0 hz1 hz2 rfl (by decide) v2 p _ (by simp [Act.eval]) HO2.out (some ⟨W8.heap.size, 0, none⟩) 1 1 [.int .i64 o.c, .int .i64 o.a, .int .i64 o.s, .bool o.ins, .int .i64 o.rc, .int .i64 o.ra, .int .i32 o.ch] (by simp [Act.eval]) (srcO HCX.out) (by unfold maxLen; omega) (by omega) HBx.out.size (fun v3 Wy o3 g3 => ?_)
          have HBy : Hid (Below W8.heap.size W8 Wy) := (HBx.out).grown g3 (HBx.out).size (fun j hj => (HO2.out.lt j hj).1)
          have ho3 : Wy.ownsRow W8.heap.size 34 7 v3 (p + 1) (flatP (l ++ [o])) := by rw [flatP_app, flatP_one]; exact o3
          obtain ⟨a3, c3, rfl, hc3, _, hr3, hn3⟩ := rdP_own ho3
          have HR3 : Hid (RdP Wy a3 (p + 1) (l ++ [o]) ∧ ∀ k, (Value.slice a3 (p + 1) c3).ownBlock = some k → W8.heap.size ≤ k) := ⟨hr3, fun k hk => (ho3.lt k hk).1⟩
          clear o3 g3 ho3 hr3 hc3 hn3
          refine hK.out _ _ (HSS.out _ HBy.out) (fun hHeld => ?_)
          clear hK KK
          try simp only [Act.put, List.getElem_toArray, List.getElem_cons_succ, List.getElem_cons_zero, List.setIfInBounds_toArray, List.set_cons_zero, List.set_cons_succ]
          refine wpAnyH_take (i := 7) (v := ?_) rfl (by kernel_rfl) (by kernel_rfl) (by kernel_rfl) (fun _ _ _ h => h) (Or.inl ⟨by rfl, ?_⟩) (by assumption) ?_
          rotate_left
          · intro W' hSw; obtain ⟨⟨s0, t0, t1, t2, t3, t4, t5, t6⟩, ⟨vg, g3⟩, gf⟩ := hSw; go_simp; try with_reducible rfl
          try simp only [Act.put, List.getElem_toArray, List.getElem_cons_succ, List.getElem_cons_zero, List.setIfInBounds_toArray, List.set_cons_zero, List.set_cons_succ]
          refine wpAnyH_ready (rs := [8]) (by kernel_rfl) (by simp) ?_
          refine AllReadyH.cons rfl (fun KK hK => ?_) AllReadyH.nil
          obtain ⟨_, ⟨vg, g3⟩, gf⟩ := HSS.out Wy HBy.out
          go_simp
          refine hK.out _ _ (HSF.out _ _ (HS9.out Wy a3 c3 HBy.out HR3.out.1 HR3.out.2).1 (HS9.out Wy a3 c3 HBy.out HR3.out.1 HR3.out.2).2.1) (fun hHeld => ?_)
          clear hK KK
          try simp only [Act.put, List.getElem_toArray, List.getElem_cons_succ, List.getElem_cons_zero, List.setIfInBounds_toArray, List.set_cons_zero, List.set_cons_succ]
          refine wpAnyH_done (by kernel_rfl) ?_ _
          refine NoPanic.normal ?_
          clear hHeld g3 gf
          have h9 := HS9.out Wy a3 c3 HBy.out HR3.out.1 HR3.out.2
          obtain ⟨W9, hW9⟩ : ∃ W9, W9 = Wy.setCell ⟨G, 3, none⟩ (.slice a3 (p + 1) c3) := ⟨_, rfl⟩
          rw [← hW9] at h9 ⊢
          have H9 : Hid (type_of% h9) := h9
          clear hW9 h9
          obtain ⟨⟨y0, y1, y2, y3, y4⟩, _⟩ := cells5 H9.out.2.1
          go_wp2_with (go_at_call 31; refine (HY2.out _ _ _ H9.out.2.2).mono ?_; rintro e w10 ⟨rfl, hb⟩; have HB10 : Hid (Below W7.heap.size W7 w10) := H9.out.1.trans (hb.mono H9.out.1.size); clear hb)
          go_ret
          exact ⟨rfl, (HV7.out _ HB10.out).2.2.2⟩
        exact AllReadyH.nil
      exact AllReadyH.nil
    exact AllReadyH.nil
  · cases hz2 : opB o
    · rw [hz1] at HB1Z HLES hmore
      rw [hz2] at hmore
      simp only [Bool.true_and] at hmore
      rw [hmore] at HB2Z
      have HY1 : Hid (∀ V, Below W7.heap.size W7 V → Calls Try.prog 31 #[.agg #[.int .i64 1, .int .i64 ff, .slice none 0 0, .slice oa' p oc', .int .i64 0]] V fun e w' => (∃ a c, e = .returned (.tuple #[.slice a nb c, .int .i64 0])) ∧ Below V.heap.size V w') := fun V hV => (HB1Z.out V hV).mono (by rintro e w' ⟨q1, q2, q3⟩; exact ⟨q1 rfl, q3⟩)
      have HY2 : Hid (∀ V a3 c3, RdP V a3 (p + 1) (l ++ [o]) → Calls Try.prog 31 #[.agg #[.int .i64 1, .int .i64 ff, .slice none 0 0, .slice a3 (p + 1) c3, .int .i64 0]] V fun e w' => (e = .returned (.tuple #[.slice none 0 0, .int .i64 1])) ∧ Below V.heap.size V w') := fun V a3 c3 h => (HB2Z.out V a3 c3 h).mono (by rintro e w' ⟨q1, q2, q3⟩; exact ⟨q2 rfl, q3⟩)
      clear HB1Z HB2Z hmore hz1 hz2
      go_upto_region 9 with (go_at_call 31; refine (HY1.out W7 (Below.refl _ _)).mono ?_; rintro e w7 ⟨⟨ab, cb, rfl⟩, hb⟩; have HB7 : Hid (Below W7.heap.size W7 w7) := hb; obtain ⟨⟨y0, y1, y2, y3, y4⟩, _⟩ := cells5 (HV7.out w7 hb).1; clear hb)
      obtain ⟨W8, hW8⟩ : ∃ W8, W8 = w7.alloc (.cells #[.int .i64 1, .int .i64 ff, .slice none 0 0, .slice oa' p oc', .int .i64 0] 55) := ⟨_, rfl⟩
      obtain ⟨G, hG⟩ : ∃ G, G = w7.heap.size := ⟨_, rfl⟩
      have hbw : Below w7.heap.size w7 W8 := by rw [hW8]; exact (Below.refl _ w7).alloc (Nat.le_refl _) _
      have HB8 : Hid (Below W7.heap.size W7 W8) := HB7.out.trans (hbw.mono HB7.out.size)
      have hg8 : W8.heap[G]? = some (.cells #[.int .i64 1, .int .i64 ff, .slice none 0 0, .slice oa' p oc', .int .i64 0] 55) := by rw [hW8, hG]; exact heap_alloc_new w7 _
      have HG8 : Hid (W8.heap[G]? = some (.cells #[.int .i64 1, .int .i64 ff, .slice none 0 0, .slice oa' p oc', .int .i64 0] 55) ∧ W7.heap.size ≤ G ∧ G < W8.heap.size) := ⟨hg8, by rw [hG]; exact HB7.out.size, (Array.getElem?_eq_some_iff.1 hg8).1⟩
      have HSS : Hid (∀ w', Below W8.heap.size W8 w' → (w'.cell? ⟨X, 3, none⟩ = some (.slice oa' p oc') ∧ w'.cell? ⟨Y, 0, none⟩ = some (.int .i64 o.c) ∧ w'.cell? ⟨Y, 1, none⟩ = some (.int .i64 o.a) ∧ w'.cell? ⟨Y, 2, none⟩ = some (.int .i64 o.s) ∧ w'.cell? ⟨Y, 3, none⟩ = some (.bool o.ins) ∧ w'.cell? ⟨Y, 4, none⟩ = some (.int .i64 o.rc) ∧ w'.cell? ⟨Y, 5, none⟩ = some (.int .i64 o.ra) ∧ w'.cell? ⟨Y, 6, none⟩ = some (.int .i32 o.ch)) ∧ (∃ vg, w'.cell? ⟨G, 3, none⟩ = some vg) ∧ w'.frozen? ⟨G, 3, none⟩ = false) := fun V hV => by
        have h1 := HV7.out V (HB8.out.trans (hV.mono HB8.out.size))
        have h2 := belF hV HG8.out.1
        exact ⟨⟨cell_of_row V X 3 _ _ _ h1.1, cell_of_row V Y 0 _ _ _ h1.2.1, cell_of_row V Y 1 _ _ _ h1.2.1, cell_of_row V Y 2 _ _ _ h1.2.1, cell_of_row V Y 3 _ _ _ h1.2.1, cell_of_row V Y 4 _ _ _ h1.2.1, cell_of_row V Y 5 _ _ _ h1.2.1, cell_of_row V Y 6 _ _ _ h1.2.1⟩, ⟨_, cell_of_row V G 3 _ _ _ h2⟩, Lib.frozen_of_heap h2 _⟩
      have HSF : Hid (∀ w' v3, Below W7.heap.size W7 w' → w'.heap[G]? = some (.cells #[.int .i64 1, .int .i64 ff, .slice none 0 0, v3, .int .i64 0] 55) → (w'.cell? ⟨X, 3, none⟩ = some (.slice oa' p oc') ∧ w'.cell? ⟨Y, 0, none⟩ = some (.int .i64 o.c) ∧ w'.cell? ⟨Y, 1, none⟩ = some (.int .i64 o.a) ∧ w'.cell? ⟨Y, 2, none⟩ = some (.int .i64 o.s) ∧ w'.cell? ⟨Y, 3, none⟩ = some (.bool o.ins) ∧ w'.cell? ⟨Y, 4, none⟩ = some (.int .i64 o.rc) ∧ w'.cell? ⟨Y, 5, none⟩ = some (.int .i64 o.ra) ∧ w'.cell? ⟨Y, 6, none⟩ = some (.int .i32 o.ch)) ∧ (∃ vg, w'.cell? ⟨G, 3, none⟩ = some vg) ∧ w'.frozen? ⟨G, 3, none⟩ = false) := fun V v3 hV h2 => by
        have h1 := HV7.out V hV
        exact ⟨⟨cell_of_row V X 3 _ _ _ h1.1, cell_of_row V Y 0 _ _ _ h1.2.1, cell_of_row V Y 1 _ _ _ h1.2.1, cell_of_row V Y 2 _ _ _ h1.2.1, cell_of_row V Y 3 _ _ _ h1.2.1, cell_of_row V Y 4 _ _ _ h1.2.1, cell_of_row V Y 5 _ _ _ h1.2.1, cell_of_row V Y 6 _ _ _ h1.2.1⟩, ⟨_, cell_of_row V G 3 _ _ _ h2⟩, Lib.frozen_of_heap h2 _⟩
      have HEA1 : Hid (∀ x : Obj, Below W8.heap.size W8 (W8.drew.alloc x)) := fun x => (Below.refl _ W8).drew.alloc (Nat.le_refl _) _
      have HEA : Hid (∀ x y : Obj, Below W8.heap.size W8 (W8.drew.alloc x) ∧ Below W8.heap.size W8 ((W8.drew.alloc x).alloc y)) := fun x y => ⟨(Below.refl _ W8).drew.alloc (Nat.le_refl _) _, ((Below.refl _ W8).drew.alloc (Nat.le_refl _) _).alloc (by simp) _⟩
      have HS9 : Hid (∀ Wy a3 c3, Below W8.heap.size W8 Wy → RdP Wy a3 (p + 1) (l ++ [o]) → (∀ k, (Value.slice a3 (p + 1) c3).ownBlock = some k → W8.heap.size ≤ k) → Below W7.heap.size W7 (Wy.setCell ⟨G, 3, none⟩ (.slice a3 (p + 1) c3)) ∧ (Wy.setCell ⟨G, 3, none⟩ (.slice a3 (p + 1) c3)).heap[G]? = some (.cells #[.int .i64 1, .int .i64 ff, .slice none 0 0, .slice a3 (p + 1) c3, .int .i64 0] 55) ∧ RdP (Wy.setCell ⟨G, 3, none⟩ (.slice a3 (p + 1) c3)) a3 (p + 1) (l ++ [o])) := fun Wy a3 c3 hb hr hk => by
        have hc := cg_set Wy G 3 (.slice a3 (p + 1) c3)
        have hby := HB8.out.trans (hb.mono HB8.out.size)
        refine ⟨hby.trans (cg_bel hc hby.size (fun k h => by rw [h]; exact HG8.out.2.1)), ?_, rdP_cg hr hc (fun x e h => ?_)⟩
        · rw [heap_setX Wy G 3 _ _ _ _ (belF hb HG8.out.1)]; simp
        · subst e
          have := hk x.block rfl
          have := HG8.out.2.2
          omega
      rw [← hG, ← hW8]
      clear hG hW8 hbw hg8 HB7 HY1 y0 y1 y2 y3 y4
      refine wp_region_noPanic ?_
      refine wp_region_held_drew (S := (fun w' => (w'.cell? ⟨X, 3, none⟩ = some (.slice oa' p oc') ∧ w'.cell? ⟨Y, 0, none⟩ = some (.int .i64 o.c) ∧ w'.cell? ⟨Y, 1, none⟩ = some (.int .i64 o.a) ∧ w'.cell? ⟨Y, 2, none⟩ = some (.int .i64 o.s) ∧ w'.cell? ⟨Y, 3, none⟩ = some (.bool o.ins) ∧ w'.cell? ⟨Y, 4, none⟩ = some (.int .i64 o.rc) ∧ w'.cell? ⟨Y, 5, none⟩ = some (.int .i64 o.ra) ∧ w'.cell? ⟨Y, 6, none⟩ = some (.int .i32 o.ch)) ∧ (∃ vg, w'.cell? ⟨G, 3, none⟩ = some vg) ∧ w'.frozen? ⟨G, 3, none⟩ = false)) (by kernel_rfl) (HSS.out _ (Below.refl _ W8).drew) (fun hHeld => ?_)
      refine wpAnyH_take (i := 1) (v := ?_) rfl (by kernel_rfl) (by kernel_rfl) (by kernel_rfl) (fun _ _ _ h => h) (Or.inl ⟨by rfl, ?_⟩) (by assumption) ?_
      rotate_left
      · intro W' hSw; obtain ⟨⟨s0, t0, t1, t2, t3, t4, t5, t6⟩, ⟨vg, g3⟩, gf⟩ := hSw; go_simp; try with_reducible rfl
      try simp only [Act.put, List.getElem_toArray, List.getElem_cons_succ, List.getElem_cons_zero, List.setIfInBounds_toArray, List.set_cons_zero, List.set_cons_succ]
      refine wpAnyH_take (i := 2) (v := ?_) rfl (by kernel_rfl) (by kernel_rfl) (by kernel_rfl) (fun _ _ _ h => h) (Or.inl ⟨by rfl, ?_⟩) (by assumption) ?_
      rotate_left
      · intro W' hSw; obtain ⟨⟨s0, t0, t1, t2, t3, t4, t5, t6⟩, ⟨vg, g3⟩, gf⟩ := hSw; go_simp; try with_reducible rfl
      try simp only [Act.put, List.getElem_toArray, List.getElem_cons_succ, List.getElem_cons_zero, List.setIfInBounds_toArray, List.set_cons_zero, List.set_cons_succ]
      refine wpAnyH_take (i := 4) (v := ?_) rfl (by kernel_rfl) (by kernel_rfl) (by kernel_rfl) (fun _ _ _ h => h) (Or.inl ⟨by rfl, ?_⟩) (by assumption) ?_
      rotate_left
      · intro W' hSw; obtain ⟨⟨s0, t0, t1, t2, t3, t4, t5, t6⟩, ⟨vg, g3⟩, gf⟩ := hSw; go_simp; try with_reducible rfl
      try simp only [Act.put, List.getElem_toArray, List.getElem_cons_succ, List.getElem_cons_zero, List.setIfInBounds_toArray, List.set_cons_zero, List.set_cons_succ]
      refine wpAnyH_ready (rs := [0, 5]) (by kernel_rfl) (by simp) ?_
      refine AllReadyH.cons rfl (fun KK hK => ?_) ?_
      · go_simp
        refine hK.out _ _ (HSS.out _ (HEA1.out _)) (fun hHeld => ?_)
        clear hK KK
        try simp only [Act.put, List.getElem_toArray, List.getElem_cons_succ, List.getElem_cons_zero, List.setIfInBounds_toArray, List.set_cons_zero, List.set_cons_succ]
        have HZ : Hid (Below W8.heap.size W8 (W8.drew.alloc (.cells #[] 34)) ∧ (W8.drew.alloc (.cells #[] 34)).ownsRow W8.heap.size 34 7 (.slice (some ⟨W8.heap.size, 0, none⟩) 0 0) 0 []) := ⟨HEA1.out _, World.ownsRow_made W8.drew #[] 0 (Nat.le_refl _) (by simp [maxLen]) rfl⟩
        refine wpAnyH_ready (rs := [3, 5]) (by kernel_rfl) (by simp) ?_
        refine AllReadyH.cons rfl (fun KK hK => ?_) ?_
        · refine step_append_src rfl (.tmp 34) (.tmp 36) 22 rfl W8.heap.size 34 i0 op0.val 7 56 Try.underlying22 hi0 hz0 hz1 hz2 rfl (by decide) (.slice (some ⟨W8.heap.size, 0, none⟩) 0 0) 0 _ (by simp [Act.eval]) HZ.out.2 oa' p oc' (flatP l) (by simp [Act.eval]) (srcP15 (HV7.out _ (HB8.out.trans (HZ.out.1.mono HB8.out.size))).2.2.1 HNN.out) (by unfold maxLen; omega) (by omega) HZ.out.1.size (fun v2 Wx o2 g2 => ?_)
          have HBx : Hid (Below W8.heap.size W8 Wx) := HZ.out.1.grown g2 HZ.out.1.size (fun j hj => (HZ.out.2.lt j hj).1)
          have HO2 : Hid (Wx.ownsRow W8.heap.size 34 7 v2 p (flatP l)) := by
            show World.ownsRow _ _ _ _ _ _ _
            simpa using o2
          clear o2 g2
          refine hK.out _ _ (HSS.out _ HBx.out) (fun hHeld => ?_)
          clear hK KK
          try simp only [Act.put, List.getElem_toArray, List.getElem_cons_succ, List.getElem_cons_zero, List.setIfInBounds_toArray, List.set_cons_zero, List.set_cons_succ]
          refine wpAnyH_ready (rs := [5]) (by kernel_rfl) (by simp) ?_
          refine AllReadyH.cons rfl (fun KK hK => ?_) ?_
          · go_simp
            refine hK.out _ _ (HSS.out _ (HBx.out.alloc HBx.out.size _)) (fun hHeld => ?_)
            clear hK KK
            try simp only [Act.put, List.getElem_toArray, List.getElem_cons_succ, List.getElem_cons_zero, List.setIfInBounds_toArray, List.set_cons_zero, List.set_cons_succ]
            refine wpAnyH_ready (rs := [6]) (by kernel_rfl) (by simp) ?_
            refine AllReadyH.cons rfl (fun KK hK => ?_) AllReadyH.nil
            refine step_append_src rfl (.tmp 37) (.tmp 39) 22 rfl W8.heap.size 34 i0 op0.val 7 56 Try.underlying22 hi0 hz0 hz1 hz2 rfl (by decide) v2 p _ (by simp [Act.eval]) (HO2.out.alloc _) (some ⟨Wx.heap.size, 0, none⟩) 1 1 [.int .i64 o.c, .int .i64 o.a, .int .i64 o.s, .bool o.ins, .int .i64 o.rc, .int .i64 o.ra, .int .i32 o.ch] (by simp [Act.eval]) (srcO (heap_alloc_new Wx _)) (by unfold maxLen; omega) (by omega) (HBx.out.alloc HBx.out.size _).size (fun v3 Wy o3 g3 => ?_)
            have HBy : Hid (Below W8.heap.size W8 Wy) := ((HBx.out.alloc HBx.out.size _)).grown g3 ((HBx.out.alloc HBx.out.size _)).size (fun j hj => (HO2.out.lt j hj).1)
            have ho3 : Wy.ownsRow W8.heap.size 34 7 v3 (p + 1) (flatP (l ++ [o])) := by rw [flatP_app, flatP_one]; exact o3
            obtain ⟨a3, c3, rfl, hc3, _, hr3, hn3⟩ := rdP_own ho3
            have HR3 : Hid (RdP Wy a3 (p + 1) (l ++ [o]) ∧ ∀ k, (Value.slice a3 (p + 1) c3).ownBlock = some k → W8.heap.size ≤ k) := ⟨hr3, fun k hk => (ho3.lt k hk).1⟩
            clear o3 g3 ho3 hr3 hc3 hn3
            refine hK.out _ _ (HSS.out _ HBy.out) (fun hHeld => ?_)
            clear hK KK
            try simp only [Act.put, List.getElem_toArray, List.getElem_cons_succ, List.getElem_cons_zero, List.setIfInBounds_toArray, List.set_cons_zero, List.set_cons_succ]
            refine wpAnyH_take (i := 7) (v := ?_) rfl (by kernel_rfl) (by kernel_rfl) (by kernel_rfl) (fun _ _ _ h => h) (Or.inl ⟨by rfl, ?_⟩) (by assumption) ?_
            rotate_left
            · intro W' hSw; obtain ⟨⟨s0, t0, t1, t2, t3, t4, t5, t6⟩, ⟨vg, g3⟩, gf⟩ := hSw; go_simp; try with_reducible rfl
            try simp only [Act.put, List.getElem_toArray, List.getElem_cons_succ, List.getElem_cons_zero, List.setIfInBounds_toArray, List.set_cons_zero, List.set_cons_succ]
            refine wpAnyH_ready (rs := [8]) (by kernel_rfl) (by simp) ?_
            refine AllReadyH.cons rfl (fun KK hK => ?_) AllReadyH.nil
            obtain ⟨_, ⟨vg, g3⟩, gf⟩ := HSS.out Wy HBy.out
            go_simp
            refine hK.out _ _ (HSF.out _ _ (HS9.out Wy a3 c3 HBy.out HR3.out.1 HR3.out.2).1 (HS9.out Wy a3 c3 HBy.out HR3.out.1 HR3.out.2).2.1) (fun hHeld => ?_)
            clear hK KK
            try simp only [Act.put, List.getElem_toArray, List.getElem_cons_succ, List.getElem_cons_zero, List.setIfInBounds_toArray, List.set_cons_zero, List.set_cons_succ]
            refine wpAnyH_done (by kernel_rfl) ?_ _
            refine NoPanic.normal ?_
            clear hHeld g3 gf
            have h9 := HS9.out Wy a3 c3 HBy.out HR3.out.1 HR3.out.2
            obtain ⟨W9, hW9⟩ : ∃ W9, W9 = Wy.setCell ⟨G, 3, none⟩ (.slice a3 (p + 1) c3) := ⟨_, rfl⟩
            rw [← hW9] at h9 ⊢
            have H9 : Hid (type_of% h9) := h9
            clear hW9 h9
            obtain ⟨⟨y0, y1, y2, y3, y4⟩, _⟩ := cells5 H9.out.2.1
            go_wp2_with (go_at_call 31; refine (HY2.out _ _ _ H9.out.2.2).mono ?_; rintro e w10 ⟨rfl, hb⟩; have HB10 : Hid (Below W7.heap.size W7 w10) := H9.out.1.trans (hb.mono H9.out.1.size); clear hb)
            go_ret
            exact ⟨rfl, (HV7.out _ HB10.out).2.2.2⟩
          exact AllReadyH.nil
        refine AllReadyH.cons rfl (fun KK hK => ?_) ?_
        · go_simp
          refine hK.out _ _ (HSS.out _ (HZ.out.1.alloc HZ.out.1.size _)) (fun hHeld => ?_)
          clear hK KK
          try simp only [Act.put, List.getElem_toArray, List.getElem_cons_succ, List.getElem_cons_zero, List.setIfInBounds_toArray, List.set_cons_zero, List.set_cons_succ]
          have HZ0 : Hid (type_of% HZ.out) := HZ.out
          clear HZ
          have HZ : Hid (Below W8.heap.size W8 ((W8.drew.alloc (.cells #[] 34)).alloc (.cells #[.int .i64 o.c, .int .i64 o.a, .int .i64 o.s, .bool o.ins, .int .i64 o.rc, .int .i64 o.ra, .int .i32 o.ch] 34)) ∧ ((W8.drew.alloc (.cells #[] 34)).alloc (.cells #[.int .i64 o.c, .int .i64 o.a, .int .i64 o.s, .bool o.ins, .int .i64 o.rc, .int .i64 o.ra, .int .i32 o.ch] 34)).ownsRow W8.heap.size 34 7 (.slice (some ⟨W8.heap.size, 0, none⟩) 0 0) 0 []) := ⟨HZ0.out.1.alloc HZ0.out.1.size _, HZ0.out.2.alloc _⟩
          refine wpAnyH_ready (rs := [3]) (by kernel_rfl) (by simp) ?_
          refine AllReadyH.cons rfl (fun KK hK => ?_) ?_
          · refine step_append_src rfl (.tmp 34) (.tmp 36) 22 rfl W8.heap.size 34 i0 op0.val 7 56 Try.underlying22 hi0 hz0 hz1 hz2 rfl (by decide) (.slice (some ⟨W8.heap.size, 0, none⟩) 0 0) 0 _ (by simp [Act.eval]) HZ.out.2 oa' p oc' (flatP l) (by simp [Act.eval]) (srcP15 (HV7.out _ (HB8.out.trans (HZ.out.1.mono HB8.out.size))).2.2.1 HNN.out) (by unfold maxLen; omega) (by omega) HZ.out.1.size (fun v2 Wx o2 g2 => ?_)
            have HBx : Hid (Below W8.heap.size W8 Wx) := HZ.out.1.grown g2 HZ.out.1.size (fun j hj => (HZ.out.2.lt j hj).1)
            have HO2 : Hid (Wx.ownsRow W8.heap.size 34 7 v2 p (flatP l)) := by
              show World.ownsRow _ _ _ _ _ _ _
              simpa using o2
            have HCX : Hid (Wx.heap[W8.heap.size + 1]? = some (.cells #[.int .i64 o.c, .int .i64 o.a, .int .i64 o.s, .bool o.ins, .int .i64 o.rc, .int .i64 o.ra, .int .i32 o.ch] 34)) := (g2.block (W8.heap.size + 1) (by simp <;> omega) (fun h => by have h : some (W8.heap.size + 1) = some (W8.heap.size) := h; injection h with h; omega)).trans ((by have := heap_alloc_new (W8.drew.alloc (.cells #[] 34)) (.cells #[.int .i64 o.c, .int .i64 o.a, .int .i64 o.s, .bool o.ins, .int .i64 o.rc, .int .i64 o.ra, .int .i32 o.ch] 34); rw [World.size_alloc] at this; exact this))
            clear o2 g2
            refine hK.out _ _ (HSS.out _ HBx.out) (fun hHeld => ?_)
            clear hK KK
            try simp only [Act.put, List.getElem_toArray, List.getElem_cons_succ, List.getElem_cons_zero, List.setIfInBounds_toArray, List.set_cons_zero, List.set_cons_succ]
            refine wpAnyH_ready (rs := [6]) (by kernel_rfl) (by simp) ?_
            refine AllReadyH.cons rfl (fun KK hK => ?_) AllReadyH.nil
            refine step_append_src rfl (.tmp 37) (.tmp 39) 22 rfl W8.heap.size 34 i0 op0.val 7 56 Try.underlying22 hi0 hz0 hz1 hz2 rfl (by decide) v2 p _ (by simp [Act.eval]) HO2.out (some ⟨W8.heap.size + 1, 0, none⟩) 1 1 [.int .i64 o.c, .int .i64 o.a, .int .i64 o.s, .bool o.ins, .int .i64 o.rc, .int .i64 o.ra, .int .i32 o.ch] (by simp [Act.eval]) (srcO HCX.out) (by unfold maxLen; omega) (by omega) HBx.out.size (fun v3 Wy o3 g3 => ?_)
            have HBy : Hid (Below W8.heap.size W8 Wy) := (HBx.out).grown g3 (HBx.out).size (fun j hj => (HO2.out.lt j hj).1)
            have ho3 : Wy.ownsRow W8.heap.size 34 7 v3 (p + 1) (flatP (l ++ [o])) := by rw [flatP_app, flatP_one]; exact o3
            obtain ⟨a3, c3, rfl, hc3, _, hr3, hn3⟩ := rdP_own ho3
            have HR3 : Hid (RdP Wy a3 (p + 1) (l ++ [o]) ∧ ∀ k, (Value.slice a3 (p + 1) c3).ownBlock = some k → W8.heap.size ≤ k) := ⟨hr3, fun k hk => (ho3.lt k hk).1⟩
            clear o3 g3 ho3 hr3 hc3 hn3
            refine hK.out _ _ (HSS.out _ HBy.out) (fun hHeld => ?_)
            clear hK KK
            try simp only [Act.put, List.getElem_toArray, List.getElem_cons_succ, List.getElem_cons_zero, List.setIfInBounds_toArray, List.set_cons_zero, List.set_cons_succ]
            refine wpAnyH_take (i := 7) (v := ?_) rfl (by kernel_rfl) (by kernel_rfl) (by kernel_rfl) (fun _ _ _ h => h) (Or.inl ⟨by rfl, ?_⟩) (by assumption) ?_
            rotate_left
            · intro W' hSw; obtain ⟨⟨s0, t0, t1, t2, t3, t4, t5, t6⟩, ⟨vg, g3⟩, gf⟩ := hSw; go_simp; try with_reducible rfl
            try simp only [Act.put, List.getElem_toArray, List.getElem_cons_succ, List.getElem_cons_zero, List.setIfInBounds_toArray, List.set_cons_zero, List.set_cons_succ]
            refine wpAnyH_ready (rs := [8]) (by kernel_rfl) (by simp) ?_
            refine AllReadyH.cons rfl (fun KK hK => ?_) AllReadyH.nil
            obtain ⟨_, ⟨vg, g3⟩, gf⟩ := HSS.out Wy HBy.out
            go_simp
            refine hK.out _ _ (HSF.out _ _ (HS9.out Wy a3 c3 HBy.out HR3.out.1 HR3.out.2).1 (HS9.out Wy a3 c3 HBy.out HR3.out.1 HR3.out.2).2.1) (fun hHeld => ?_)
            clear hK KK
            try simp only [Act.put, List.getElem_toArray, List.getElem_cons_succ, List.getElem_cons_zero, List.setIfInBounds_toArray, List.set_cons_zero, List.set_cons_succ]
            refine wpAnyH_done (by kernel_rfl) ?_ _
            refine NoPanic.normal ?_
            clear hHeld g3 gf
            have h9 := HS9.out Wy a3 c3 HBy.out HR3.out.1 HR3.out.2
            obtain ⟨W9, hW9⟩ : ∃ W9, W9 = Wy.setCell ⟨G, 3, none⟩ (.slice a3 (p + 1) c3) := ⟨_, rfl⟩
            rw [← hW9] at h9 ⊢
            have H9 : Hid (type_of% h9) := h9
            clear hW9 h9
            obtain ⟨⟨y0, y1, y2, y3, y4⟩, _⟩ := cells5 H9.out.2.1
            go_wp2_with (go_at_call 31; refine (HY2.out _ _ _ H9.out.2.2).mono ?_; rintro e w10 ⟨rfl, hb⟩; have HB10 : Hid (Below W7.heap.size W7 w10) := H9.out.1.trans (hb.mono H9.out.1.size); clear hb)
            go_ret
            exact ⟨rfl, (HV7.out _ HB10.out).2.2.2⟩
          exact AllReadyH.nil
        exact AllReadyH.nil
      refine AllReadyH.cons rfl (fun KK hK => ?_) ?_
      · go_simp
        refine hK.out _ _ (HSS.out _ (HEA1.out _)) (fun hHeld => ?_)
        clear hK KK
        try simp only [Act.put, List.getElem_toArray, List.getElem_cons_succ, List.getElem_cons_zero, List.setIfInBounds_toArray, List.set_cons_zero, List.set_cons_succ]
        refine wpAnyH_ready (rs := [0]) (by kernel_rfl) (by simp) ?_
        refine AllReadyH.cons rfl (fun KK hK => ?_) ?_
        · go_simp
          refine hK.out _ _ (HSS.out _ (HEA.out _ _).2) (fun hHeld => ?_)
          clear hK KK
          try simp only [Act.put, List.getElem_toArray, List.getElem_cons_succ, List.getElem_cons_zero, List.setIfInBounds_toArray, List.set_cons_zero, List.set_cons_succ]
          have HZ : Hid (Below W8.heap.size W8 ((W8.drew.alloc (.cells #[.int .i64 o.c, .int .i64 o.a, .int .i64 o.s, .bool o.ins, .int .i64 o.rc, .int .i64 o.ra, .int .i32 o.ch] 34)).alloc (.cells #[] 34)) ∧ ((W8.drew.alloc (.cells #[.int .i64 o.c, .int .i64 o.a, .int .i64 o.s, .bool o.ins, .int .i64 o.rc, .int .i64 o.ra, .int .i32 o.ch] 34)).alloc (.cells #[] 34)).ownsRow W8.heap.size 34 7 (.slice (some ⟨W8.heap.size + 1, 0, none⟩) 0 0) 0 []) := ⟨(HEA.out _ _).2, by
            have h : ((W8.drew.alloc (.cells #[.int .i64 o.c, .int .i64 o.a, .int .i64 o.s, .bool o.ins, .int .i64 o.rc, .int .i64 o.ra, .int .i32 o.ch] 34)).alloc (.cells #[] 34)).ownsRow W8.heap.size 34 7 (.slice (some ⟨(W8.drew.alloc (.cells #[.int .i64 o.c, .int .i64 o.a, .int .i64 o.s, .bool o.ins, .int .i64 o.rc, .int .i64 o.ra, .int .i32 o.ch] 34)).heap.size, 0, none⟩) 0 0) 0 [] := World.ownsRow_made (W8.drew.alloc (.cells #[.int .i64 o.c, .int .i64 o.a, .int .i64 o.s, .bool o.ins, .int .i64 o.rc, .int .i64 o.ra, .int .i32 o.ch] 34)) #[] 0 (by simp) (by simp [maxLen]) rfl
            rw [World.size_alloc] at h
            exact h⟩
          refine wpAnyH_ready (rs := [3]) (by kernel_rfl) (by simp) ?_
          refine AllReadyH.cons rfl (fun KK hK => ?_) ?_
          · refine step_append_src rfl (.tmp 34) (.tmp 36) 22 rfl W8.heap.size 34 i0 op0.val 7 56 Try.underlying22 hi0 hz0 hz1 hz2 rfl (by decide) (.slice (some ⟨W8.heap.size + 1, 0, none⟩) 0 0) 0 _ (by simp [Act.eval]) HZ.out.2 oa' p oc' (flatP l) (by simp [Act.eval]) (srcP15 (HV7.out _ (HB8.out.trans (HZ.out.1.mono HB8.out.size))).2.2.1 HNN.out) (by unfold maxLen; omega) (by omega) HZ.out.1.size (fun v2 Wx o2 g2 => ?_)
            have HBx : Hid (Below W8.heap.size W8 Wx) := HZ.out.1.grown g2 HZ.out.1.size (fun j hj => (HZ.out.2.lt j hj).1)
            have HO2 : Hid (Wx.ownsRow W8.heap.size 34 7 v2 p (flatP l)) := by
              show World.ownsRow _ _ _ _ _ _ _
              simpa using o2
            have HCX : Hid (Wx.heap[W8.heap.size]? = some (.cells #[.int .i64 o.c, .int .i64 o.a, .int .i64 o.s, .bool o.ins, .int .i64 o.rc, .int .i64 o.ra, .int .i32 o.ch] 34)) := (g2.block (W8.heap.size) (by simp <;> omega) (fun h => by have h : some (W8.heap.size) = some (W8.heap.size + 1) := h; injection h with h; omega)).trans ((((Below.refl _ _).alloc (Nat.le_refl _) _).block W8.heap.size (by simp)).trans (heap_alloc_new W8.drew (.cells #[.int .i64 o.c, .int .i64 o.a, .int .i64 o.s, .bool o.ins, .int .i64 o.rc, .int .i64 o.ra, .int .i32 o.ch] 34)))
            clear o2 g2
            refine hK.out _ _ (HSS.out _ HBx.out) (fun hHeld => ?_)
            clear hK KK
            try simp only [Act.put, List.getElem_toArray, List.getElem_cons_succ, List.getElem_cons_zero, List.setIfInBounds_toArray, List.set_cons_zero, List.set_cons_succ]
            refine wpAnyH_ready (rs := [6]) (by kernel_rfl) (by simp) ?_
            refine AllReadyH.cons rfl (fun KK hK => ?_) AllReadyH.nil
            refine step_append_src rfl (.tmp 37) (.tmp 39) 22 rfl W8.heap.size 34 i0 op0.val 7 56 Try.underlying22 hi0 hz0 hz1 hz2 rfl (by decide) v2 p _ (by simp [Act.eval]) HO2.out (some ⟨W8.heap.size, 0, none⟩) 1 1 [.int .i64 o.c, .int .i64 o.a, .int .i64 o.s, .bool o.ins, .int .i64 o.rc, .int .i64 o.ra, .int .i32 o.ch] (by simp [Act.eval]) (srcO HCX.out) (by unfold maxLen; omega) (by omega) HBx.out.size (fun v3 Wy o3 g3 => ?_)
            have HBy : Hid (Below W8.heap.size W8 Wy) := (HBx.out).grown g3 (HBx.out).size (fun j hj => (HO2.out.lt j hj).1)
            have ho3 : Wy.ownsRow W8.heap.size 34 7 v3 (p + 1) (flatP (l ++ [o])) := by rw [flatP_app, flatP_one]; exact o3
            obtain ⟨a3, c3, rfl, hc3, _, hr3, hn3⟩ := rdP_own ho3
            have HR3 : Hid (RdP Wy a3 (p + 1) (l ++ [o]) ∧ ∀ k, (Value.slice a3 (p + 1) c3).ownBlock = some k → W8.heap.size ≤ k) := ⟨hr3, fun k hk => (ho3.lt k hk).1⟩
            clear o3 g3 ho3 hr3 hc3 hn3
            refine hK.out _ _ (HSS.out _ HBy.out) (fun hHeld => ?_)
            clear hK KK
            try simp only [Act.put, List.getElem_toArray, List.getElem_cons_succ, List.getElem_cons_zero, List.setIfInBounds_toArray, List.set_cons_zero, List.set_cons_succ]
            refine wpAnyH_take (i := 7) (v := ?_) rfl (by kernel_rfl) (by kernel_rfl) (by kernel_rfl) (fun _ _ _ h => h) (Or.inl ⟨by rfl, ?_⟩) (by assumption) ?_
            rotate_left
            · intro W' hSw; obtain ⟨⟨s0, t0, t1, t2, t3, t4, t5, t6⟩, ⟨vg, g3⟩, gf⟩ := hSw; go_simp; try with_reducible rfl
            try simp only [Act.put, List.getElem_toArray, List.getElem_cons_succ, List.getElem_cons_zero, List.setIfInBounds_toArray, List.set_cons_zero, List.set_cons_succ]
            refine wpAnyH_ready (rs := [8]) (by kernel_rfl) (by simp) ?_
            refine AllReadyH.cons rfl (fun KK hK => ?_) AllReadyH.nil
            obtain ⟨_, ⟨vg, g3⟩, gf⟩ := HSS.out Wy HBy.out
            go_simp
            refine hK.out _ _ (HSF.out _ _ (HS9.out Wy a3 c3 HBy.out HR3.out.1 HR3.out.2).1 (HS9.out Wy a3 c3 HBy.out HR3.out.1 HR3.out.2).2.1) (fun hHeld => ?_)
            clear hK KK
            try simp only [Act.put, List.getElem_toArray, List.getElem_cons_succ, List.getElem_cons_zero, List.setIfInBounds_toArray, List.set_cons_zero, List.set_cons_succ]
            refine wpAnyH_done (by kernel_rfl) ?_ _
            refine NoPanic.normal ?_
            clear hHeld g3 gf
            have h9 := HS9.out Wy a3 c3 HBy.out HR3.out.1 HR3.out.2
            obtain ⟨W9, hW9⟩ : ∃ W9, W9 = Wy.setCell ⟨G, 3, none⟩ (.slice a3 (p + 1) c3) := ⟨_, rfl⟩
            rw [← hW9] at h9 ⊢
            have H9 : Hid (type_of% h9) := h9
            clear hW9 h9
            obtain ⟨⟨y0, y1, y2, y3, y4⟩, _⟩ := cells5 H9.out.2.1
            go_wp2_with (go_at_call 31; refine (HY2.out _ _ _ H9.out.2.2).mono ?_; rintro e w10 ⟨rfl, hb⟩; have HB10 : Hid (Below W7.heap.size W7 w10) := H9.out.1.trans (hb.mono H9.out.1.size); clear hb)
            go_ret
            exact ⟨rfl, (HV7.out _ HB10.out).2.2.2⟩
          exact AllReadyH.nil
        exact AllReadyH.nil
      exact AllReadyH.nil
    · rw [hz1] at HB1Z HLES hmore
      rw [hz2] at hmore
      simp only [Bool.true_and] at hmore
      rw [hmore] at HB2Z
      have HY1 : Hid (∀ V, Below W7.heap.size W7 V → Calls Try.prog 31 #[.agg #[.int .i64 1, .int .i64 ff, .slice none 0 0, .slice oa' p oc', .int .i64 0]] V fun e w' => (∃ a c, e = .returned (.tuple #[.slice a nb c, .int .i64 0])) ∧ Below V.heap.size V w') := fun V hV => (HB1Z.out V hV).mono (by rintro e w' ⟨q1, q2, q3⟩; exact ⟨q1 rfl, q3⟩)
      have HY2 : Hid (∀ V a3 c3, RdP V a3 (p + 1) (l ++ [o]) → Calls Try.prog 31 #[.agg #[.int .i64 1, .int .i64 ff, .slice none 0 0, .slice a3 (p + 1) c3, .int .i64 0]] V fun e w' => (∃ a c, e = .returned (.tuple #[.slice a nc c, .int .i64 0])) ∧ Below V.heap.size V w') := fun V a3 c3 h => (HB2Z.out V a3 c3 h).mono (by rintro e w' ⟨q1, q2, q3⟩; exact ⟨q1 rfl, q3⟩)
      clear HB1Z HB2Z hmore hz1 hz2
      go_upto_region 9 with (go_at_call 31; refine (HY1.out W7 (Below.refl _ _)).mono ?_; rintro e w7 ⟨⟨ab, cb, rfl⟩, hb⟩; have HB7 : Hid (Below W7.heap.size W7 w7) := hb; obtain ⟨⟨y0, y1, y2, y3, y4⟩, _⟩ := cells5 (HV7.out w7 hb).1; clear hb)
      obtain ⟨W8, hW8⟩ : ∃ W8, W8 = w7.alloc (.cells #[.int .i64 1, .int .i64 ff, .slice none 0 0, .slice oa' p oc', .int .i64 0] 55) := ⟨_, rfl⟩
      obtain ⟨G, hG⟩ : ∃ G, G = w7.heap.size := ⟨_, rfl⟩
      have hbw : Below w7.heap.size w7 W8 := by rw [hW8]; exact (Below.refl _ w7).alloc (Nat.le_refl _) _
      have HB8 : Hid (Below W7.heap.size W7 W8) := HB7.out.trans (hbw.mono HB7.out.size)
      have hg8 : W8.heap[G]? = some (.cells #[.int .i64 1, .int .i64 ff, .slice none 0 0, .slice oa' p oc', .int .i64 0] 55) := by rw [hW8, hG]; exact heap_alloc_new w7 _
      have HG8 : Hid (W8.heap[G]? = some (.cells #[.int .i64 1, .int .i64 ff, .slice none 0 0, .slice oa' p oc', .int .i64 0] 55) ∧ W7.heap.size ≤ G ∧ G < W8.heap.size) := ⟨hg8, by rw [hG]; exact HB7.out.size, (Array.getElem?_eq_some_iff.1 hg8).1⟩
      have HSS : Hid (∀ w', Below W8.heap.size W8 w' → (w'.cell? ⟨X, 3, none⟩ = some (.slice oa' p oc') ∧ w'.cell? ⟨Y, 0, none⟩ = some (.int .i64 o.c) ∧ w'.cell? ⟨Y, 1, none⟩ = some (.int .i64 o.a) ∧ w'.cell? ⟨Y, 2, none⟩ = some (.int .i64 o.s) ∧ w'.cell? ⟨Y, 3, none⟩ = some (.bool o.ins) ∧ w'.cell? ⟨Y, 4, none⟩ = some (.int .i64 o.rc) ∧ w'.cell? ⟨Y, 5, none⟩ = some (.int .i64 o.ra) ∧ w'.cell? ⟨Y, 6, none⟩ = some (.int .i32 o.ch)) ∧ (∃ vg, w'.cell? ⟨G, 3, none⟩ = some vg) ∧ w'.frozen? ⟨G, 3, none⟩ = false) := fun V hV => by
        have h1 := HV7.out V (HB8.out.trans (hV.mono HB8.out.size))
        have h2 := belF hV HG8.out.1
        exact ⟨⟨cell_of_row V X 3 _ _ _ h1.1, cell_of_row V Y 0 _ _ _ h1.2.1, cell_of_row V Y 1 _ _ _ h1.2.1, cell_of_row V Y 2 _ _ _ h1.2.1, cell_of_row V Y 3 _ _ _ h1.2.1, cell_of_row V Y 4 _ _ _ h1.2.1, cell_of_row V Y 5 _ _ _ h1.2.1, cell_of_row V Y 6 _ _ _ h1.2.1⟩, ⟨_, cell_of_row V G 3 _ _ _ h2⟩, Lib.frozen_of_heap h2 _⟩
      have HSF : Hid (∀ w' v3, Below W7.heap.size W7 w' → w'.heap[G]? = some (.cells #[.int .i64 1, .int .i64 ff, .slice none 0 0, v3, .int .i64 0] 55) → (w'.cell? ⟨X, 3, none⟩ = some (.slice oa' p oc') ∧ w'.cell? ⟨Y, 0, none⟩ = some (.int .i64 o.c) ∧ w'.cell? ⟨Y, 1, none⟩ = some (.int .i64 o.a) ∧ w'.cell? ⟨Y, 2, none⟩ = some (.int .i64 o.s) ∧ w'.cell? ⟨Y, 3, none⟩ = some (.bool o.ins) ∧ w'.cell? ⟨Y, 4, none⟩ = some (.int .i64 o.rc) ∧ w'.cell? ⟨Y, 5, none⟩ = some (.int .i64 o.ra) ∧ w'.cell? ⟨Y, 6, none⟩ = some (.int .i32 o.ch)) ∧ (∃ vg, w'.cell? ⟨G, 3, none⟩ = some vg) ∧ w'.frozen? ⟨G, 3, none⟩ = false) := fun V v3 hV h2 => by
        have h1 := HV7.out V hV
        exact ⟨⟨cell_of_row V X 3 _ _ _ h1.1, cell_of_row V Y 0 _ _ _ h1.2.1, cell_of_row V Y 1 _ _ _ h1.2.1, cell_of_row V Y 2 _ _ _ h1.2.1, cell_of_row V Y 3 _ _ _ h1.2.1, cell_of_row V Y 4 _ _ _ h1.2.1, cell_of_row V Y 5 _ _ _ h1.2.1, cell_of_row V Y 6 _ _ _ h1.2.1⟩, ⟨_, cell_of_row V G 3 _ _ _ h2⟩, Lib.frozen_of_heap h2 _⟩
      have HEA1 : Hid (∀ x : Obj, Below W8.heap.size W8 (W8.drew.alloc x)) := fun x => (Below.refl _ W8).drew.alloc (Nat.le_refl _) _
      have HEA : Hid (∀ x y : Obj, Below W8.heap.size W8 (W8.drew.alloc x) ∧ Below W8.heap.size W8 ((W8.drew.alloc x).alloc y)) := fun x y => ⟨(Below.refl _ W8).drew.alloc (Nat.le_refl _) _, ((Below.refl _ W8).drew.alloc (Nat.le_refl _) _).alloc (by simp) _⟩
      have HS9 : Hid (∀ Wy a3 c3, Below W8.heap.size W8 Wy → RdP Wy a3 (p + 1) (l ++ [o]) → (∀ k, (Value.slice a3 (p + 1) c3).ownBlock = some k → W8.heap.size ≤ k) → Below W7.heap.size W7 (Wy.setCell ⟨G, 3, none⟩ (.slice a3 (p + 1) c3)) ∧ (Wy.setCell ⟨G, 3, none⟩ (.slice a3 (p + 1) c3)).heap[G]? = some (.cells #[.int .i64 1, .int .i64 ff, .slice none 0 0, .slice a3 (p + 1) c3, .int .i64 0] 55) ∧ RdP (Wy.setCell ⟨G, 3, none⟩ (.slice a3 (p + 1) c3)) a3 (p + 1) (l ++ [o])) := fun Wy a3 c3 hb hr hk => by
        have hc := cg_set Wy G 3 (.slice a3 (p + 1) c3)
        have hby := HB8.out.trans (hb.mono HB8.out.size)
        refine ⟨hby.trans (cg_bel hc hby.size (fun k h => by rw [h]; exact HG8.out.2.1)), ?_, rdP_cg hr hc (fun x e h => ?_)⟩
        · rw [heap_setX Wy G 3 _ _ _ _ (belF hb HG8.out.1)]; simp
        · subst e
          have := hk x.block rfl
          have := HG8.out.2.2
          omega
      rw [← hG, ← hW8]
      clear hG hW8 hbw hg8 HB7 HY1 y0 y1 y2 y3 y4
      refine wp_region_noPanic ?_
      refine wp_region_held_drew (S := (fun w' => (w'.cell? ⟨X, 3, none⟩ = some (.slice oa' p oc') ∧ w'.cell? ⟨Y, 0, none⟩ = some (.int .i64 o.c) ∧ w'.cell? ⟨Y, 1, none⟩ = some (.int .i64 o.a) ∧ w'.cell? ⟨Y, 2, none⟩ = some (.int .i64 o.s) ∧ w'.cell? ⟨Y, 3, none⟩ = some (.bool o.ins) ∧ w'.cell? ⟨Y, 4, none⟩ = some (.int .i64 o.rc) ∧ w'.cell? ⟨Y, 5, none⟩ = some (.int .i64 o.ra) ∧ w'.cell? ⟨Y, 6, none⟩ = some (.int .i32 o.ch)) ∧ (∃ vg, w'.cell? ⟨G, 3, none⟩ = some vg) ∧ w'.frozen? ⟨G, 3, none⟩ = false)) (by kernel_rfl) (HSS.out _ (Below.refl _ W8).drew) (fun hHeld => ?_)
      refine wpAnyH_take (i := 1) (v := ?_) rfl (by kernel_rfl) (by kernel_rfl) (by kernel_rfl) (fun _ _ _ h => h) (Or.inl ⟨by rfl, ?_⟩) (by assumption) ?_
      rotate_left
      · intro W' hSw; obtain ⟨⟨s0, t0, t1, t2, t3, t4, t5, t6⟩, ⟨vg, g3⟩, gf⟩ := hSw; go_simp; try with_reducible rfl
      try simp only [Act.put, List.getElem_toArray, List.getElem_cons_succ, List.getElem_cons_zero, List.setIfInBounds_toArray, List.set_cons_zero, List.set_cons_succ]
      refine wpAnyH_take (i := 2) (v := ?_) rfl (by kernel_rfl) (by kernel_rfl) (by kernel_rfl) (fun _ _ _ h => h) (Or.inl ⟨by rfl, ?_⟩) (by assumption) ?_
      rotate_left
      · intro W' hSw; obtain ⟨⟨s0, t0, t1, t2, t3, t4, t5, t6⟩, ⟨vg, g3⟩, gf⟩ := hSw; go_simp; try with_reducible rfl
      try simp only [Act.put, List.getElem_toArray, List.getElem_cons_succ, List.getElem_cons_zero, List.setIfInBounds_toArray, List.set_cons_zero, List.set_cons_succ]
      refine wpAnyH_take (i := 4) (v := ?_) rfl (by kernel_rfl) (by kernel_rfl) (by kernel_rfl) (fun _ _ _ h => h) (Or.inl ⟨by rfl, ?_⟩) (by assumption) ?_
      rotate_left
      · intro W' hSw; obtain ⟨⟨s0, t0, t1, t2, t3, t4, t5, t6⟩, ⟨vg, g3⟩, gf⟩ := hSw; go_simp; try with_reducible rfl
      try simp only [Act.put, List.getElem_toArray, List.getElem_cons_succ, List.getElem_cons_zero, List.setIfInBounds_toArray, List.set_cons_zero, List.set_cons_succ]
      refine wpAnyH_ready (rs := [0, 5]) (by kernel_rfl) (by simp) ?_
      refine AllReadyH.cons rfl (fun KK hK => ?_) ?_
      · go_simp
        refine hK.out _ _ (HSS.out _ (HEA1.out _)) (fun hHeld => ?_)
        clear hK KK
        try simp only [Act.put, List.getElem_toArray, List.getElem_cons_succ, List.getElem_cons_zero, List.setIfInBounds_toArray, List.set_cons_zero, List.set_cons_succ]
        have HZ : Hid (Below W8.heap.size W8 (W8.drew.alloc (.cells #[] 34)) ∧ (W8.drew.alloc (.cells #[] 34)).ownsRow W8.heap.size 34 7 (.slice (some ⟨W8.heap.size, 0, none⟩) 0 0) 0 []) := ⟨HEA1.out _, World.ownsRow_made W8.drew #[] 0 (Nat.le_refl _) (by simp [maxLen]) rfl⟩
        refine wpAnyH_ready (rs := [3, 5]) (by kernel_rfl) (by simp) ?_
        refine AllReadyH.cons rfl (fun KK hK => ?_) ?_
        · refine step_append_src rfl (.tmp 34) (.tmp 36) 22 rfl W8.heap.size 34 i0 op0.val 7 56 Try.underlying22 hi0 hz0 hz1 hz2 rfl (by decide) (.slice (some ⟨W8.heap.size, 0, none⟩) 0 0) 0 _ (by simp [Act.eval]) HZ.out.2 oa' p oc' (flatP l) (by simp [Act.eval]) (srcP15 (HV7.out _ (HB8.out.trans (HZ.out.1.mono HB8.out.size))).2.2.1 HNN.out) (by unfold maxLen; omega) (by omega) HZ.out.1.size (fun v2 Wx o2 g2 => ?_)
          have HBx : Hid (Below W8.heap.size W8 Wx) := HZ.out.1.grown g2 HZ.out.1.size (fun j hj => (HZ.out.2.lt j hj).1)
          have HO2 : Hid (Wx.ownsRow W8.heap.size 34 7 v2 p (flatP l)) := by
            show World.ownsRow _ _ _ _ _ _ _
            simpa using o2
          clear o2 g2
          refine hK.out _ _ (HSS.out _ HBx.out) (fun hHeld => ?_)
          clear hK KK
          try simp only [Act.put, List.getElem_toArray, List.getElem_cons_succ, List.getElem_cons_zero, List.setIfInBounds_toArray, List.set_cons_zero, List.set_cons_succ]
          refine wpAnyH_ready (rs := [5]) (by kernel_rfl) (by simp) ?_
          refine AllReadyH.cons rfl (fun KK hK => ?_) ?_
          · go_simp
            refine hK.out _ _ (HSS.out _ (HBx.out.alloc HBx.out.size _)) (fun hHeld => ?_)
            clear hK KK
            try simp only [Act.put, List.getElem_toArray, List.getElem_cons_succ, List.getElem_cons_zero, List.setIfInBounds_toArray, List.set_cons_zero, List.set_cons_succ]
            refine wpAnyH_ready (rs := [6]) (by kernel_rfl) (by simp) ?_
            refine AllReadyH.cons rfl (fun KK hK => ?_) AllReadyH.nil
            refine step_append_src rfl (.tmp 37) (.tmp 39) 22 rfl W8.heap.size 34 i0 op0.val 7 56 Try.underlying22 hi0 hz0 hz1 hz2 rfl (by decide) v2 p _ (by simp [Act.eval]) (HO2.out.alloc _) (some ⟨Wx.heap.size, 0, none⟩) 1 1 [.int .i64 o.c, .int .i64 o.a, .int .i64 o.s, .bool o.ins, .int .i64 o.rc, .int .i64 o.ra, .int .i32 o.ch] (by simp [Act.eval]) (srcO (heap_alloc_new Wx _)) (by unfold maxLen; omega) (by omega) (HBx.out.alloc HBx.out.size _).size (fun v3 Wy o3 g3 => ?_)
            have HBy : Hid (Below W8.heap.size W8 Wy) := ((HBx.out.alloc HBx.out.size _)).grown g3 ((HBx.out.alloc HBx.out.size _)).size (fun j hj => (HO2.out.lt j hj).1)
            have ho3 : Wy.ownsRow W8.heap.size 34 7 v3 (p + 1) (flatP (l ++ [o])) := by rw [flatP_app, flatP_one]; exact o3
            obtain ⟨a3, c3, rfl, hc3, _, hr3, hn3⟩ := rdP_own ho3
            have HR3 : Hid (RdP Wy a3 (p + 1) (l ++ [o]) ∧ ∀ k, (Value.slice a3 (p + 1) c3).ownBlock = some k → W8.heap.size ≤ k) := ⟨hr3, fun k hk => (ho3.lt k hk).1⟩
            clear o3 g3 ho3 hr3 hc3 hn3
            refine hK.out _ _ (HSS.out _ HBy.out) (fun hHeld => ?_)
            clear hK KK
            try simp only [Act.put, List.getElem_toArray, List.getElem_cons_succ, List.getElem_cons_zero, List.setIfInBounds_toArray, List.set_cons_zero, List.set_cons_succ]
            refine wpAnyH_take (i := 7) (v := ?_) rfl (by kernel_rfl) (by kernel_rfl) (by kernel_rfl) (fun _ _ _ h => h) (Or.inl ⟨by rfl, ?_⟩) (by assumption) ?_
            rotate_left
            · intro W' hSw; obtain ⟨⟨s0, t0, t1, t2, t3, t4, t5, t6⟩, ⟨vg, g3⟩, gf⟩ := hSw; go_simp; try with_reducible rfl
            try simp only [Act.put, List.getElem_toArray, List.getElem_cons_succ, List.getElem_cons_zero, List.setIfInBounds_toArray, List.set_cons_zero, List.set_cons_succ]
            refine wpAnyH_ready (rs := [8]) (by kernel_rfl) (by simp) ?_
            refine AllReadyH.cons rfl (fun KK hK => ?_) AllReadyH.nil
            obtain ⟨_, ⟨vg, g3⟩, gf⟩ := HSS.out Wy HBy.out
            go_simp
            refine hK.out _ _ (HSF.out _ _ (HS9.out Wy a3 c3 HBy.out HR3.out.1 HR3.out.2).1 (HS9.out Wy a3 c3 HBy.out HR3.out.1 HR3.out.2).2.1) (fun hHeld => ?_)
            clear hK KK
            try simp only [Act.put, List.getElem_toArray, List.getElem_cons_succ, List.getElem_cons_zero, List.setIfInBounds_toArray, List.set_cons_zero, List.set_cons_succ]
            refine wpAnyH_done (by kernel_rfl) ?_ _
            refine NoPanic.normal ?_
            clear hHeld g3 gf
            have h9 := HS9.out Wy a3 c3 HBy.out HR3.out.1 HR3.out.2
            obtain ⟨W9, hW9⟩ : ∃ W9, W9 = Wy.setCell ⟨G, 3, none⟩ (.slice a3 (p + 1) c3) := ⟨_, rfl⟩
            rw [← hW9] at h9 ⊢
            have H9 : Hid (type_of% h9) := h9
            clear hW9 h9
            obtain ⟨⟨y0, y1, y2, y3, y4⟩, _⟩ := cells5 H9.out.2.1
            go_upto_region 11 with (go_at_call 31; refine (HY2.out _ _ _ H9.out.2.2).mono ?_; rintro e w10 ⟨⟨ac, cc, rfl⟩, hb⟩; have HB10 : Hid (Below W7.heap.size W7 w10) := H9.out.1.trans (hb.mono H9.out.1.size); clear hb)
            obtain ⟨⟨y0, y1, y2, y3, y4⟩, _⟩ := cells5 (HV7.out w10 HB10.out).1
            by_cases hp0 : 0 < p
            · obtain ⟨q, hq⟩ : ∃ q, q = p - 1 := ⟨_, rfl⟩
              have hpd : decide ((0 : Int) < (p : Int)) = true := by simpa using hp0
              have hw3 : IntKind.i64.wrap ((p : Int) - 1) = (q : Int) := by rw [IntKind.wrap_i64]; omega
              have hw4 : wrap64 ((p : Int) - 1) = (q : Int) := by unfold wrap64; omega
              have hcr := cutP_run oa' p oc' q (by omega)
              have HQP : Hid (q = p - 1) := hq
              clear hq
              go_upto_region 17 with fail
              obtain ⟨W12, hW12⟩ : ∃ W12, W12 = w10.alloc (.cells #[.int .i64 1, .int .i64 ff, .slice none 0 0, .slice oa' p oc', .int .i64 0] 55) := ⟨_, rfl⟩
              obtain ⟨D, hD⟩ : ∃ D, D = w10.heap.size := ⟨_, rfl⟩
              have hb12 : Below w10.heap.size w10 W12 := by rw [hW12]; exact (Below.refl _ w10).alloc (Nat.le_refl _) _
              have HB12 : Hid (Below W7.heap.size W7 W12) := HB10.out.trans (hb12.mono HB10.out.size)
              have hd12 : W12.heap[D]? = some (.cells #[.int .i64 1, .int .i64 ff, .slice none 0 0, .slice oa' p oc', .int .i64 0] 55) := by rw [hW12, hD]; exact heap_alloc_new w10 _
              have HD13 : Hid (Below W7.heap.size W7 (W12.setCell ⟨D, 3, none⟩ (.slice oa' q oc')) ∧ (W12.setCell ⟨D, 3, none⟩ (.slice oa' q oc')).heap[D]? = some (.cells #[.int .i64 1, .int .i64 ff, .slice none 0 0, .slice oa' q oc', .int .i64 0] 55)) := ⟨HB12.out.trans (cg_bel (cg_set W12 D 3 _) HB12.out.size (fun k h => by rw [h, hD]; exact HB10.out.size)), by rw [heap_setX W12 D 3 _ _ _ _ hd12]; simp⟩
              obtain ⟨⟨d0, d1, d2, d3, d4⟩, k0, k1, k2, k3, k4⟩ := cells5 hd12
              clear y0 y1 y2 y3 y4
              obtain ⟨⟨y0, y1, y2, y3, y4⟩, _⟩ := cells5 (HV7.out W12 HB12.out).1
              rw [← hD, ← hW12]
              clear hD hW12 hb12 hd12
              go_upto_region 18 with fail
              obtain ⟨W13, hW13⟩ : ∃ W13, W13 = W12.setCell ⟨D, 3, none⟩ (.slice oa' q oc') := ⟨_, rfl⟩
              rw [← hW13] at HD13 ⊢
              clear hW13 d0 d1 d2 d3 d4 k0 k1 k2 k3 k4 y0 y1 y2 y3 y4
              obtain ⟨⟨d0, d1, d2, d3, d4⟩, _⟩ := cells5 HD13.out.2
              obtain ⟨nl, hnl, hcl⟩ := HLES.out hp0 (by first | exact rfl | trivial) W13 HD13.out.1
              rw [← HQP.out] at hcl
              have HCL : Hid (type_of% hcl) := hcl
              have hlt : decide ((nb : Int) ≤ (nl : Int)) = false := decide_eq_false (by omega)
              have hlt2 : ¬ nb ≤ nl := by omega
              clear hnl
              clear hcl
              obtain ⟨m6, hm6⟩ : ∃ m6, m6 = nb + 6 := ⟨_, rfl⟩
              have hw1 : IntKind.i64.wrap ((nb : Int) + 6) = (m6 : Int) := by rw [IntKind.wrap_i64]; have := HLB.out; omega
              have hw2 : wrap64 ((nb : Int) + 6) = (m6 : Int) := by unfold wrap64; have := HLB.out; omega
              have h9 := HLG.out
              have hge2 : m6 ≤ nc := by rw [hm6]; exact h9
              have hge : decide ((m6 : Int) ≤ (nc : Int)) = true := by simpa using hge2
              clear h9
              clear hm6
              go_wp2_with (go_at_call 31; refine HCL.out.mono ?_; rintro e w14 ⟨⟨al, cl, rfl⟩, hb⟩; have HB14 : Hid (Below W7.heap.size W7 w14) := HD13.out.1.trans (hb.mono HD13.out.1.size); clear hb)
              go_ret
              exact ⟨rfl, (HV7.out _ HB14.out).2.2.2⟩
            · obtain rfl : p = 0 := by omega
              obtain ⟨m6, hm6⟩ : ∃ m6, m6 = nb + 6 := ⟨_, rfl⟩
              have hw1 : IntKind.i64.wrap ((nb : Int) + 6) = (m6 : Int) := by rw [IntKind.wrap_i64]; have := HLB.out; omega
              have hw2 : wrap64 ((nb : Int) + 6) = (m6 : Int) := by unfold wrap64; have := HLB.out; omega
              have h9 := HLG.out
              have hge2 : m6 ≤ nc := by rw [hm6]; exact h9
              have hge : decide ((m6 : Int) ≤ (nc : Int)) = true := by simpa using hge2
              clear h9
              clear hm6
              go_wp2
              go_ret
              exact ⟨rfl, (HV7.out _ HB10.out).2.2.2⟩
          exact AllReadyH.nil
        refine AllReadyH.cons rfl (fun KK hK => ?_) ?_
        · go_simp
          refine hK.out _ _ (HSS.out _ (HZ.out.1.alloc HZ.out.1.size _)) (fun hHeld => ?_)
          clear hK KK
          try simp only [Act.put, List.getElem_toArray, List.getElem_cons_succ, List.getElem_cons_zero, List.setIfInBounds_toArray, List.set_cons_zero, List.set_cons_succ]
          have HZ0 : Hid (type_of% HZ.out) := HZ.out
          clear HZ
          have HZ : Hid (Below W8.heap.size W8 ((W8.drew.alloc (.cells #[] 34)).alloc (.cells #[.int .i64 o.c, .int .i64 o.a, .int .i64 o.s, .bool o.ins, .int .i64 o.rc, .int .i64 o.ra, .int .i32 o.ch] 34)) ∧ ((W8.drew.alloc (.cells #[] 34)).alloc (.cells #[.int .i64 o.c, .int .i64 o.a, .int .i64 o.s, .bool o.ins, .int .i64 o.rc, .int .i64 o.ra, .int .i32 o.ch] 34)).ownsRow W8.heap.size 34 7 (.slice (some ⟨W8.heap.size, 0, none⟩) 0 0) 0 []) := ⟨HZ0.out.1.alloc HZ0.out.1.size _, HZ0.out.2.alloc _⟩
          refine wpAnyH_ready (rs := [3]) (by kernel_rfl) (by simp) ?_
          refine AllReadyH.cons rfl (fun KK hK => ?_) ?_
          · refine step_append_src rfl (.tmp 34) (.tmp 36) 22 rfl W8.heap.size 34 i0 op0.val 7 56 Try.underlying22 hi0 hz0 hz1 hz2 rfl (by decide) (.slice (some ⟨W8.heap.size, 0, none⟩) 0 0) 0 _ (by simp [Act.eval]) HZ.out.2 oa' p oc' (flatP l) (by simp [Act.eval]) (srcP15 (HV7.out _ (HB8.out.trans (HZ.out.1.mono HB8.out.size))).2.2.1 HNN.out) (by unfold maxLen; omega) (by omega) HZ.out.1.size (fun v2 Wx o2 g2 => ?_)
            have HBx : Hid (Below W8.heap.size W8 Wx) := HZ.out.1.grown g2 HZ.out.1.size (fun j hj => (HZ.out.2.lt j hj).1)
            have HO2 : Hid (Wx.ownsRow W8.heap.size 34 7 v2 p (flatP l)) := by
              show World.ownsRow _ _ _ _ _ _ _
              simpa using o2
            have HCX : Hid (Wx.heap[W8.heap.size + 1]? = some (.cells #[.int .i64 o.c, .int .i64 o.a, .int .i64 o.s, .bool o.ins, .int .i64 o.rc, .int .i64 o.ra, .int .i32 o.ch] 34)) := (g2.block (W8.heap.size + 1) (by simp <;> omega) (fun h => by have h : some (W8.heap.size + 1) = some (W8.heap.size) := h; injection h with h; omega)).trans ((by have := heap_alloc_new (W8.drew.alloc (.cells #[] 34)) (.cells #[.int .i64 o.c, .int .i64 o.a, .int .i64 o.s, .bool o.ins, .int .i64 o.rc, .int .i64 o.ra, .int .i32 o.ch] 34); rw [World.size_alloc] at this; exact this))
            clear o2 g2
            refine hK.out _ _ (HSS.out _ HBx.out) (fun hHeld => ?_)
            clear hK KK
            try simp only [Act.put, List.getElem_toArray, List.getElem_cons_succ, List.getElem_cons_zero, List.setIfInBounds_toArray, List.set_cons_zero, List.set_cons_succ]
            refine wpAnyH_ready (rs := [6]) (by kernel_rfl) (by simp) ?_
            refine AllReadyH.cons rfl (fun KK hK => ?_) AllReadyH.nil
            refine step_append_src rfl (.tmp 37) (.tmp 39) 22 rfl W8.heap.size 34 i0 op0.val 7 56 Try.underlying22 hi0 hz0 hz1 hz2 rfl (by decide) v2 p _ (by simp [Act.eval]) HO2.out (some ⟨W8.heap.size + 1, 0, none⟩) 1 1 [.int .i64 o.c, .int .i64 o.a, .int .i64 o.s, .bool o.ins, .int .i64 o.rc, .int .i64 o.ra, .int .i32 o.ch] (by simp [Act.eval]) (srcO HCX.out) (by unfold maxLen; omega) (by omega) HBx.out.size (fun v3 Wy o3 g3 => ?_)
            have HBy : Hid (Below W8.heap.size W8 Wy) := (HBx.out).grown g3 (HBx.out).size (fun j hj => (HO2.out.lt j hj).1)
            have ho3 : Wy.ownsRow W8.heap.size 34 7 v3 (p + 1) (flatP (l ++ [o])) := by rw [flatP_app, flatP_one]; exact o3
            obtain ⟨a3, c3, rfl, hc3, _, hr3, hn3⟩ := rdP_own ho3
            have HR3 : Hid (RdP Wy a3 (p + 1) (l ++ [o]) ∧ ∀ k, (Value.slice a3 (p + 1) c3).ownBlock = some k → W8.heap.size ≤ k) := ⟨hr3, fun k hk => (ho3.lt k hk).1⟩
            clear o3 g3 ho3 hr3 hc3 hn3
            refine hK.out _ _ (HSS.out _ HBy.out) (fun hHeld => ?_)
            clear hK KK
            try simp only [Act.put, List.getElem_toArray, List.getElem_cons_succ, List.getElem_cons_zero, List.setIfInBounds_toArray, List.set_cons_zero, List.set_cons_succ]
            refine wpAnyH_take (i := 7) (v := ?_) rfl (by kernel_rfl) (by kernel_rfl) (by kernel_rfl) (fun _ _ _ h => h) (Or.inl ⟨by rfl, ?_⟩) (by assumption) ?_
            rotate_left
            · intro W' hSw; obtain ⟨⟨s0, t0, t1, t2, t3, t4, t5, t6⟩, ⟨vg, g3⟩, gf⟩ := hSw; go_simp; try with_reducible rfl
            try simp only [Act.put, List.getElem_toArray, List.getElem_cons_succ, List.getElem_cons_zero, List.setIfInBounds_toArray, List.set_cons_zero, List.set_cons_succ]
            refine wpAnyH_ready (rs := [8]) (by kernel_rfl) (by simp) ?_
            refine AllReadyH.cons rfl (fun KK hK => ?_) AllReadyH.nil
            obtain ⟨_, ⟨vg, g3⟩, gf⟩ := HSS.out Wy HBy.out
            go_simp
            refine hK.out _ _ (HSF.out _ _ (HS9.out Wy a3 c3 HBy.out HR3.out.1 HR3.out.2).1 (HS9.out Wy a3 c3 HBy.out HR3.out.1 HR3.out.2).2.1) (fun hHeld => ?_)
            clear hK KK
            try simp only [Act.put, List.getElem_toArray, List.getElem_cons_succ, List.getElem_cons_zero, List.setIfInBounds_toArray, List.set_cons_zero, List.set_cons_succ]
            refine wpAnyH_done (by kernel_rfl) ?_ _
            refine NoPanic.normal ?_
            clear hHeld g3 gf
            have h9 := HS9.out Wy a3 c3 HBy.out HR3.out.1 HR3.out.2
            obtain ⟨W9, hW9⟩ : ∃ W9, W9 = Wy.setCell ⟨G, 3, none⟩ (.slice a3 (p + 1) c3) := ⟨_, rfl⟩
            rw [← hW9] at h9 ⊢
            have H9 : Hid (type_of% h9) := h9
            clear hW9 h9
            obtain ⟨⟨y0, y1, y2, y3, y4⟩, _⟩ := cells5 H9.out.2.1
            go_upto_region 11 with (go_at_call 31; refine (HY2.out _ _ _ H9.out.2.2).mono ?_; rintro e w10 ⟨⟨ac, cc, rfl⟩, hb⟩; have HB10 : Hid (Below W7.heap.size W7 w10) := H9.out.1.trans (hb.mono H9.out.1.size); clear hb)
            obtain ⟨⟨y0, y1, y2, y3, y4⟩, _⟩ := cells5 (HV7.out w10 HB10.out).1
            by_cases hp0 : 0 < p
            · obtain ⟨q, hq⟩ : ∃ q, q = p - 1 := ⟨_, rfl⟩
              have hpd : decide ((0 : Int) < (p : Int)) = true := by simpa using hp0
              have hw3 : IntKind.i64.wrap ((p : Int) - 1) = (q : Int) := by rw [IntKind.wrap_i64]; omega
              have hw4 : wrap64 ((p : Int) - 1) = (q : Int) := by unfold wrap64; omega
              have hcr := cutP_run oa' p oc' q (by omega)
              have HQP : Hid (q = p - 1) := hq
              clear hq
              go_upto_region 17 with fail
              obtain ⟨W12, hW12⟩ : ∃ W12, W12 = w10.alloc (.cells #[.int .i64 1, .int .i64 ff, .slice none 0 0, .slice oa' p oc', .int .i64 0] 55) := ⟨_, rfl⟩
              obtain ⟨D, hD⟩ : ∃ D, D = w10.heap.size := ⟨_, rfl⟩
              have hb12 : Below w10.heap.size w10 W12 := by rw [hW12]; exact (Below.refl _ w10).alloc (Nat.le_refl _) _
              have HB12 : Hid (Below W7.heap.size W7 W12) := HB10.out.trans (hb12.mono HB10.out.size)
              have hd12 : W12.heap[D]? = some (.cells #[.int .i64 1, .int .i64 ff, .slice none 0 0, .slice oa' p oc', .int .i64 0] 55) := by rw [hW12, hD]; exact heap_alloc_new w10 _
              have HD13 : Hid (Below W7.heap.size W7 (W12.setCell ⟨D, 3, none⟩ (.slice oa' q oc')) ∧ (W12.setCell ⟨D, 3, none⟩ (.slice oa' q oc')).heap[D]? = some (.cells #[.int .i64 1, .int .i64 ff, .slice none 0 0, .slice oa' q oc', .int .i64 0] 55)) := ⟨HB12.out.trans (cg_bel (cg_set W12 D 3 _) HB12.out.size (fun k h => by rw [h, hD]; exact HB10.out.size)), by rw [heap_setX W12 D 3 _ _ _ _ hd12]; simp⟩
              obtain ⟨⟨d0, d1, d2, d3, d4⟩, k0, k1, k2, k3, k4⟩ := cells5 hd12
              clear y0 y1 y2 y3 y4
              obtain ⟨⟨y0, y1, y2, y3, y4⟩, _⟩ := cells5 (HV7.out W12 HB12.out).1
              rw [← hD, ← hW12]
              clear hD hW12 hb12 hd12
              go_upto_region 18 with fail
              obtain ⟨W13, hW13⟩ : ∃ W13, W13 = W12.setCell ⟨D, 3, none⟩ (.slice oa' q oc') := ⟨_, rfl⟩
              rw [← hW13] at HD13 ⊢
              clear hW13 d0 d1 d2 d3 d4 k0 k1 k2 k3 k4 y0 y1 y2 y3 y4
              obtain ⟨⟨d0, d1, d2, d3, d4⟩, _⟩ := cells5 HD13.out.2
              obtain ⟨nl, hnl, hcl⟩ := HLES.out hp0 (by first | exact rfl | trivial) W13 HD13.out.1
              rw [← HQP.out] at hcl
              have HCL : Hid (type_of% hcl) := hcl
              have hlt : decide ((nb : Int) ≤ (nl : Int)) = false := decide_eq_false (by omega)
              have hlt2 : ¬ nb ≤ nl := by omega
              clear hnl
              clear hcl
              obtain ⟨m6, hm6⟩ : ∃ m6, m6 = nb + 6 := ⟨_, rfl⟩
              have hw1 : IntKind.i64.wrap ((nb : Int) + 6) = (m6 : Int) := by rw [IntKind.wrap_i64]; have := HLB.out; omega
              have hw2 : wrap64 ((nb : Int) + 6) = (m6 : Int) := by unfold wrap64; have := HLB.out; omega
              have h9 := HLG.out
              have hge2 : m6 ≤ nc := by rw [hm6]; exact h9
              have hge : decide ((m6 : Int) ≤ (nc : Int)) = true := by simpa using hge2
              clear h9
              clear hm6
              go_wp2_with (go_at_call 31; refine HCL.out.mono ?_; rintro e w14 ⟨⟨al, cl, rfl⟩, hb⟩; have HB14 : Hid (Below W7.heap.size W7 w14) := HD13.out.1.trans (hb.mono HD13.out.1.size); clear hb)
              go_ret
              exact ⟨rfl, (HV7.out _ HB14.out).2.2.2⟩
            · obtain rfl : p = 0 := by omega
              obtain ⟨m6, hm6⟩ : ∃ m6, m6 = nb + 6 := ⟨_, rfl⟩
              have hw1 : IntKind.i64.wrap ((nb : Int) + 6) = (m6 : Int) := by rw [IntKind.wrap_i64]; have := HLB.out; omega
              have hw2 : wrap64 ((nb : Int) + 6) = (m6 : Int) := by unfold wrap64; have := HLB.out; omega
              have h9 := HLG.out
              have hge2 : m6 ≤ nc := by rw [hm6]; exact h9
              have hge : decide ((m6 : Int) ≤ (nc : Int)) = true := by simpa using hge2
              clear h9
              clear hm6
              go_wp2
              go_ret
              exact ⟨rfl, (HV7.out _ HB10.out).2.2.2⟩
          exact AllReadyH.nil
        exact AllReadyH.nil
      refine AllReadyH.cons rfl (fun KK hK => ?_) ?_
      · go_simp
        refine hK.out _ _ (HSS.out _ (HEA1.out _)) (fun hHeld => ?_)
        clear hK KK
        try simp only [Act.put, List.getElem_toArray, List.getElem_cons_succ, List.getElem_cons_zero, List.setIfInBounds_toArray, List.set_cons_zero, List.set_cons_succ]
        refine wpAnyH_ready (rs := [0]) (by kernel_rfl) (by simp) ?_
        refine AllReadyH.cons rfl (fun KK hK => ?_) ?_
        · go_simp
          refine hK.out _ _ (HSS.out _ (HEA.out _ _).2) (fun hHeld => ?_)
          clear hK KK
          try simp only [Act.put, List.getElem_toArray, List.getElem_cons_succ, List.getElem_cons_zero, List.setIfInBounds_toArray, List.set_cons_zero, List.set_cons_succ]
          have HZ : Hid (Below W8.heap.size W8 ((W8.drew.alloc (.cells #[.int .i64 o.c, .int .i64 o.a, .int .i64 o.s, .bool o.ins, .int .i64 o.rc, .int .i64 o.ra, .int .i32 o.ch] 34)).alloc (.cells #[] 34)) ∧ ((W8.drew.alloc (.cells #[.int .i64 o.c, .int .i64 o.a, .int .i64 o.s, .bool o.ins, .int .i64 o.rc, .int .i64 o.ra, .int .i32 o.ch] 34)).alloc (.cells #[] 34)).ownsRow W8.heap.size 34 7 (.slice (some ⟨W8.heap.size + 1, 0, none⟩) 0 0) 0 []) := ⟨(HEA.out _ _).2, by
            have h : ((W8.drew.alloc (.cells #[.int .i64 o.c, .int .i64 o.a, .int .i64 o.s, .bool o.ins, .int .i64 o.rc, .int .i64 o.ra, .int .i32 o.ch] 34)).alloc (.cells #[] 34)).ownsRow W8.heap.size 34 7 (.slice (some ⟨(W8.drew.alloc (.cells #[.int .i64 o.c, .int .i64 o.a, .int .i64 o.s, .bool o.ins, .int .i64 o.rc, .int .i64 o.ra, .int .i32 o.ch] 34)).heap.size, 0, none⟩) 0 0) 0 [] := World.ownsRow_made (W8.drew.alloc (.cells #[.int .i64 o.c, .int .i64 o.a, .int .i64 o.s, .bool o.ins, .int .i64 o.rc, .int .i64 o.ra, .int .i32 o.ch] 34)) #[] 0 (by simp) (by simp [maxLen]) rfl
            rw [World.size_alloc] at h
            exact h⟩
          refine wpAnyH_ready (rs := [3]) (by kernel_rfl) (by simp) ?_
          refine AllReadyH.cons rfl (fun KK hK => ?_) ?_
          · refine step_append_src rfl (.tmp 34) (.tmp 36) 22 rfl W8.heap.size 34 i0 op0.val 7 56 Try.underlying22 hi0 hz0 hz1 hz2 rfl (by decide) (.slice (some ⟨W8.heap.size + 1, 0, none⟩) 0 0) 0 _ (by simp [Act.eval]) HZ.out.2 oa' p oc' (flatP l) (by simp [Act.eval]) (srcP15 (HV7.out _ (HB8.out.trans (HZ.out.1.mono HB8.out.size))).2.2.1 HNN.out) (by unfold maxLen; omega) (by omega) HZ.out.1.size (fun v2 Wx o2 g2 => ?_)
            have HBx : Hid (Below W8.heap.size W8 Wx) := HZ.out.1.grown g2 HZ.out.1.size (fun j hj => (HZ.out.2.lt j hj).1)
            have HO2 : Hid (Wx.ownsRow W8.heap.size 34 7 v2 p (flatP l)) := by
              show World.ownsRow _ _ _ _ _ _ _
              simpa using o2
            have HCX : Hid (Wx.heap[W8.heap.size]? = some (.cells #[.int .i64 o.c, .int .i64 o.a, .int .i64 o.s, .bool o.ins, .int .i64 o.rc, .int .i64 o.ra, .int .i32 o.ch] 34)) := (g2.block (W8.heap.size) (by simp <;> omega) (fun h => by have h : some (W8.heap.size) = some (W8.heap.size + 1) := h; injection h with h; omega)).trans ((((Below.refl _ _).alloc (Nat.le_refl _) _).block W8.heap.size (by simp)).trans (heap_alloc_new W8.drew (.cells #[.int .i64 o.c, .int .i64 o.a, .int .i64 o.s, .bool o.ins, .int .i64 o.rc, .int .i64 o.ra, .int .i32 o.ch] 34)))
            clear o2 g2
            refine hK.out _ _ (HSS.out _ HBx.out) (fun hHeld => ?_)
            clear hK KK
            try simp only [Act.put, List.getElem_toArray, List.getElem_cons_succ, List.getElem_cons_zero, List.setIfInBounds_toArray, List.set_cons_zero, List.set_cons_succ]
            refine wpAnyH_ready (rs := [6]) (by kernel_rfl) (by simp) ?_
            refine AllReadyH.cons rfl (fun KK hK => ?_) AllReadyH.nil
            refine step_append_src rfl (.tmp 37) (.tmp 39) 22 rfl W8.heap.size 34 i0 op0.val 7 56 Try.underlying22 hi0 hz0 hz1 hz2 rfl (by decide) v2 p _ (by simp [Act.eval]) HO2.out (some ⟨W8.heap.size, 0, none⟩) 1 1 [.int .i64 o.c, .int .i64 o.a, .int .i64 o.s, .bool o.ins, .int .i64 o.rc, .int .i64 o.ra, .int .i32 o.ch] (by simp [Act.eval]) (srcO HCX.out) (by unfold maxLen; omega) (by omega) HBx.out.size (fun v3 Wy o3 g3 => ?_)
            have HBy : Hid (Below W8.heap.size W8 Wy) := (HBx.out).grown g3 (HBx.out).size (fun j hj => (HO2.out.lt j hj).1)
            have ho3 : Wy.ownsRow W8.heap.size 34 7 v3 (p + 1) (flatP (l ++ [o])) := by rw [flatP_app, flatP_one]; exact o3
            obtain ⟨a3, c3, rfl, hc3, _, hr3, hn3⟩ := rdP_own ho3
            have HR3 : Hid (RdP Wy a3 (p + 1) (l ++ [o]) ∧ ∀ k, (Value.slice a3 (p + 1) c3).ownBlock = some k → W8.heap.size ≤ k) := ⟨hr3, fun k hk => (ho3.lt k hk).1⟩
            clear o3 g3 ho3 hr3 hc3 hn3
            refine hK.out _ _ (HSS.out _ HBy.out) (fun hHeld => ?_)
            clear hK KK
            try simp only [Act.put, List.getElem_toArray, List.getElem_cons_succ, List.getElem_cons_zero, List.setIfInBounds_toArray, List.set_cons_zero, List.set_cons_succ]
            refine wpAnyH_take (i := 7) (v := ?_) rfl (by kernel_rfl) (by kernel_rfl) (by kernel_rfl) (fun _ _ _ h => h) (Or.inl ⟨by rfl, ?_⟩) (by assumption) ?_
            rotate_left
            · intro W' hSw; obtain ⟨⟨s0, t0, t1, t2, t3, t4, t5, t6⟩, ⟨vg, g3⟩, gf⟩ := hSw; go_simp; try with_reducible rfl
            try simp only [Act.put, List.getElem_toArray, List.getElem_cons_succ, List.getElem_cons_zero, List.setIfInBounds_toArray, List.set_cons_zero, List.set_cons_succ]
            refine wpAnyH_ready (rs := [8]) (by kernel_rfl) (by simp) ?_
            refine AllReadyH.cons rfl (fun KK hK => ?_) AllReadyH.nil
            obtain ⟨_, ⟨vg, g3⟩, gf⟩ := HSS.out Wy HBy.out
            go_simp
            refine hK.out _ _ (HSF.out _ _ (HS9.out Wy a3 c3 HBy.out HR3.out.1 HR3.out.2).1 (HS9.out Wy a3 c3 HBy.out HR3.out.1 HR3.out.2).2.1) (fun hHeld => ?_)
            clear hK KK
            try simp only [Act.put, List.getElem_toArray, List.getElem_cons_succ, List.getElem_cons_zero, List.setIfInBounds_toArray, List.set_cons_zero, List.set_cons_succ]
            refine wpAnyH_done (by kernel_rfl) ?_ _
            refine NoPanic.normal ?_
            clear hHeld g3 gf
            have h9 := HS9.out Wy a3 c3 HBy.out HR3.out.1 HR3.out.2
            obtain ⟨W9, hW9⟩ : ∃ W9, W9 = Wy.setCell ⟨G, 3, none⟩ (.slice a3 (p + 1) c3) := ⟨_, rfl⟩
            rw [← hW9] at h9 ⊢
            have H9 : Hid (type_of% h9) := h9
            clear hW9 h9
            obtain ⟨⟨y0, y1, y2, y3, y4⟩, _⟩ := cells5 H9.out.2.1
            go_upto_region 11 with (go_at_call 31; refine (HY2.out _ _ _ H9.out.2.2).mono ?_; rintro e w10 ⟨⟨ac, cc, rfl⟩, hb⟩; have HB10 : Hid (Below W7.heap.size W7 w10) := H9.out.1.trans (hb.mono H9.out.1.size); clear hb)
            obtain ⟨⟨y0, y1, y2, y3, y4⟩, _⟩ := cells5 (HV7.out w10 HB10.out).1
            by_cases hp0 : 0 < p
            · obtain ⟨q, hq⟩ : ∃ q, q = p - 1 := ⟨_, rfl⟩
              have hpd : decide ((0 : Int) < (p : Int)) = true := by simpa using hp0
              have hw3 : IntKind.i64.wrap ((p : Int) - 1) = (q : Int) := by rw [IntKind.wrap_i64]; omega
              have hw4 : wrap64 ((p : Int) - 1) = (q : Int) := by unfold wrap64; omega
              have hcr := cutP_run oa' p oc' q (by omega)
              have HQP : Hid (q = p - 1) := hq
              clear hq
              go_upto_region 17 with fail
              obtain ⟨W12, hW12⟩ : ∃ W12, W12 = w10.alloc (.cells #[.int .i64 1, .int .i64 ff, .slice none 0 0, .slice oa' p oc', .int .i64 0] 55) := ⟨_, rfl⟩
              obtain ⟨D, hD⟩ : ∃ D, D = w10.heap.size := ⟨_, rfl⟩
              have hb12 : Below w10.heap.size w10 W12 := by rw [hW12]; exact (Below.refl _ w10).alloc (Nat.le_refl _) _
              have HB12 : Hid (Below W7.heap.size W7 W12) := HB10.out.trans (hb12.mono HB10.out.size)
              have hd12 : W12.heap[D]? = some (.cells #[.int .i64 1, .int .i64 ff, .slice none 0 0, .slice oa' p oc', .int .i64 0] 55) := by rw [hW12, hD]; exact heap_alloc_new w10 _
              have HD13 : Hid (Below W7.heap.size W7 (W12.setCell ⟨D, 3, none⟩ (.slice oa' q oc')) ∧ (W12.setCell ⟨D, 3, none⟩ (.slice oa' q oc')).heap[D]? = some (.cells #[.int .i64 1, .int .i64 ff, .slice none 0 0, .slice oa' q oc', .int .i64 0] 55)) := ⟨HB12.out.trans (cg_bel (cg_set W12 D 3 _) HB12.out.size (fun k h => by rw [h, hD]; exact HB10.out.size)), by rw [heap_setX W12 D 3 _ _ _ _ hd12]; simp⟩
              obtain ⟨⟨d0, d1, d2, d3, d4⟩, k0, k1, k2, k3, k4⟩ := cells5 hd12
              clear y0 y1 y2 y3 y4
              obtain ⟨⟨y0, y1, y2, y3, y4⟩, _⟩ := cells5 (HV7.out W12 HB12.out).1
              rw [← hD, ← hW12]
              clear hD hW12 hb12 hd12
              go_upto_region 18 with fail
              obtain ⟨W13, hW13⟩ : ∃ W13, W13 = W12.setCell ⟨D, 3, none⟩ (.slice oa' q oc') := ⟨_, rfl⟩
              rw [← hW13] at HD13 ⊢
              clear hW13 d0 d1 d2 d3 d4 k0 k1 k2 k3 k4 y0 y1 y2 y3 y4
              obtain ⟨⟨d0, d1, d2, d3, d4⟩, _⟩ := cells5 HD13.out.2
              obtain ⟨nl, hnl, hcl⟩ := HLES.out hp0 (by first | exact rfl | trivial) W13 HD13.out.1
              rw [← HQP.out] at hcl
              have HCL : Hid (type_of% hcl) := hcl
              have hlt : decide ((nb : Int) ≤ (nl : Int)) = false := decide_eq_false (by omega)
              have hlt2 : ¬ nb ≤ nl := by omega
              clear hnl
              clear hcl
              obtain ⟨m6, hm6⟩ : ∃ m6, m6 = nb + 6 := ⟨_, rfl⟩
              have hw1 : IntKind.i64.wrap ((nb : Int) + 6) = (m6 : Int) := by rw [IntKind.wrap_i64]; have := HLB.out; omega
              have hw2 : wrap64 ((nb : Int) + 6) = (m6 : Int) := by unfold wrap64; have := HLB.out; omega
              have h9 := HLG.out
              have hge2 : m6 ≤ nc := by rw [hm6]; exact h9
              have hge : decide ((m6 : Int) ≤ (nc : Int)) = true := by simpa using hge2
              clear h9
              clear hm6
              go_wp2_with (go_at_call 31; refine HCL.out.mono ?_; rintro e w14 ⟨⟨al, cl, rfl⟩, hb⟩; have HB14 : Hid (Below W7.heap.size W7 w14) := HD13.out.1.trans (hb.mono HD13.out.1.size); clear hb)
              go_ret
              exact ⟨rfl, (HV7.out _ HB14.out).2.2.2⟩
            · obtain rfl : p = 0 := by omega
              obtain ⟨m6, hm6⟩ : ∃ m6, m6 = nb + 6 := ⟨_, rfl⟩
              have hw1 : IntKind.i64.wrap ((nb : Int) + 6) = (m6 : Int) := by rw [IntKind.wrap_i64]; have := HLB.out; omega
              have hw2 : wrap64 ((nb : Int) + 6) = (m6 : Int) := by unfold wrap64; have := HLB.out; omega
              have h9 := HLG.out
              have hge2 : m6 ≤ nc := by rw [hm6]; exact h9
              have hge : decide ((m6 : Int) ≤ (nc : Int)) = true := by simpa using hge2
              clear h9
              clear hm6
              go_wp2
              go_ret
              exact ⟨rfl, (HV7.out _ HB10.out).2.2.2⟩
          exact AllReadyH.nil
        exact AllReadyH.nil
      exact AllReadyH.nil
end Go.Proofs.Ytjdgacanlbhfbaa
