/- The walk of FrameOnce. -/
import Derived.Test.YtohkdlgckepfgaaFrU
namespace Go.Proofs.Ytohkdlgckepfgaa
open Go.RowKit
set_option linter.unusedVariables false
set_option linter.unusedSimpArgs false

theorem bytes_len (f : Frm) : (bytesN (cutF f)).length ≤ 20000 := by
  have h1 := cutF_len f
  have h2 := bodyN_len (cutF f)
  have h3 := wrapN_len (bodyN (cutF f))
  have h4 := pt_len (bodyN (cutF f))
  have h5 := pk_len ((bodyN (cutF f)).length : Nat)
  show (wrapN (bodyN (cutF f))).length ≤ _
  omega
theorem cut_ok (f : Frm) (h : frB (cutF f) = true) : okF (cutF f) := by
  have h1 := cutF_len f
  exact frB_ok _ h (by omega) (by omega)
theorem body_len (f : Frm) : (bodyN (cutF f)).length ≤ 100000000000 := by
  have h1 := cutF_len f
  have h2 := bodyN_len (cutF f)
  omega
theorem c_bytes (f : Frm) (W : World) (v : Value) (h : FrAt W v (cutF f)) : Calls Try.prog 13 #[v] W fun e w' => (frB (cutF f) = true → ∃ a c, e = .returned (.tuple #[.slice a (bytesN (cutF f)).length c, .int .i64 0]) ∧ (bytesN (cutF f)).length ≤ c ∧ c ≤ 9223372036854775807 ∧ Rd .u8 w' a (bytesN (cutF f)).length (bytesN (cutF f))) ∧ (frB (cutF f) = false → e = .returned (.tuple #[.slice none 0 0, .int .i64 1])) ∧ Below W.heap.size W w' := by
  have h1 := cutF_len f
  refine (frBytes_any (cutF f) v W h (by omega) (by omega)).mono fun e w' q => ?_
  obtain ⟨q1, q2, q3⟩ := q
  refine ⟨fun hf => ?_, q3, q1⟩
  obtain ⟨v', rfl, ho⟩ := q2 hf
  obtain ⟨a, c, rfl, hc, hm, hr, _⟩ := rd_own2 ho
  exact ⟨a, c, rfl, hc, hm, hr⟩
theorem bytes_byt (f : Frm) (h : frB (cutF f) = true) : Byt (bytesN (cutF f)) := wrapN_byt _ (bodyN_byt _ (cut_ok f h)) (body_len f)
theorem lens_bytes (f : Frm) : f.vec.length + f.ops.length ≤ (bytesN f).length := by
  have h3 := pks_len (numN f)
  have h4 : (bytesN f).length = 6 + (pt (bodyN f)).length := wrapN_len _
  have h5 := pt_len (bodyN f)
  have e1 : f.vec.length ≤ (f.vec.flatMap enN).length := by
    clear h3 h4 h5
    generalize f.vec = l
    induction l with
    | nil => simp
    | cons y r ih => rw [List.flatMap_cons, List.length_append, List.length_cons]; simp only [enN, List.length_cons, List.length_nil]; omega
  have e2 : f.ops.length ≤ (f.ops.flatMap opN).length := by
    clear h3 h4 h5 e1
    generalize f.ops = l
    induction l with
    | nil => simp
    | cons y r ih => rw [List.flatMap_cons, List.length_append, List.length_cons]; simp only [opN, List.length_append, List.length_cons, List.length_nil]; omega
  have h6 : f.vec.length + f.ops.length ≤ (numN f).length := by
    rw [numN]
    simp only [List.length_append, List.length_cons, List.length_nil]
    omega
  have h7 : (bodyN f).length = (pks (numN f)).length := rfl
  omega
/-- Two frames that may be are the same just if their bytes are. -/
theorem bytes_iff (f g : Frm) (hf : frB (cutF f) = true) (hg : frB (cutF g) = true) : bytesN (cutF f) = bytesN (cutF g) ↔ cutF f = cutF g :=
  ⟨bytes_inj _ _ hf hg (cut_ok f hf) (cut_ok g hg) (body_len f) (body_len g), fun h => by rw [h]⟩
set_option maxRecDepth 100000 in
set_option maxHeartbeats 8000000 in
theorem frameOnce_walk (f : Frm) (fv : Value) (g : Frm) (gv : Value) (xs : List Int) (a : Option Addr) (len cap : Nat) (w : World) (hf : FrAtC w fv f) (hg : FrAtC w gv g) (hrd : Rd .u8 w a len xs) (hby : Byt xs) (hcap : len ≤ cap) :
    Calls Try.prog 8 #[fv, gv, .slice a len cap] w fun e w' => e = .returned (.bool true) ∧ Below w.heap.size w w' := by
  obtain ⟨q, hq⟩ : ∃ q, q = min len 2000 := ⟨_, rfl⟩
  have hmin := min_run len q 2000 (by omega)
  have hct := fun W => cut_bytes a len cap q (by omega) W
  have hq2 : q ≤ 2000 := by omega
  have HCB : Hid (Byt (xs.take q)) := hby.take q
  have HRD : Hid (∀ W, Below w.heap.size w W → Rd .u8 W a q (xs.take q)) := fun W h => (hrd.later h).take q (by omega)
  have HQC : Hid (q ≤ cap) := by show q ≤ cap; omega
  generalize xs.take q = bs at HCB HRD
  have HF0 : Hid (FrAtC w fv f) := hf
  have HG0 : Hid (FrAtC w gv g) := hg
  have HCUT : Hid (∀ W, Below w.heap.size w W → Calls Try.prog 12 #[fv] W fun e w' => ∃ v', e = .returned v' ∧ FrAtD w' v' (cutF f) W.heap.size ∧ Below W.heap.size W w') := fun W h => cut_any f fv W (hf.later h)
  have HCUG : Hid (∀ W, Below w.heap.size w W → Calls Try.prog 12 #[gv] W fun e w' => ∃ v', e = .returned v' ∧ FrAtD w' v' (cutF g) W.heap.size ∧ Below W.heap.size W w') := fun W h => cut_any g gv W (hg.later h)
  obtain ⟨va, vn, vc, oa, on, oc, rfl, _⟩ := hf
  obtain ⟨ua, un, uc, qa, qn, qc, rfl, _⟩ := hg
  obtain ⟨W1, hW1⟩ : ∃ W1, W1 = (w.alloc (.cells #[.int .i64 f.kind, .int .i64 f.fr, .slice va vn vc, .slice oa on oc, .int .i64 f.next] 25)).alloc (.cells #[.int .i64 g.kind, .int .i64 g.fr, .slice ua un uc, .slice qa qn qc, .int .i64 g.next] 25) := ⟨_, rfl⟩
  have HB1 : Hid (Below w.heap.size w W1) := by show Below _ _ _; rw [hW1]; exact ((Below.refl _ w).alloc (Nat.le_refl _) _).alloc (by simp) _
  have hx : W1.heap[w.heap.size]? = some (.cells #[.int .i64 f.kind, .int .i64 f.fr, .slice va vn vc, .slice oa on oc, .int .i64 f.next] 25) := by
    rw [hW1]
    exact (((Below.refl _ _).alloc (Nat.le_refl _) _).block w.heap.size (by simp)).trans (heap_alloc_new w _)
  have hy : W1.heap[w.heap.size + 1]? = some (.cells #[.int .i64 g.kind, .int .i64 g.fr, .slice ua un uc, .slice qa qn qc, .int .i64 g.next] 25) := by
    rw [hW1]
    have := heap_alloc_new (w.alloc (.cells #[.int .i64 f.kind, .int .i64 f.fr, .slice va vn vc, .slice oa on oc, .int .i64 f.next] 25)) (.cells #[.int .i64 g.kind, .int .i64 g.fr, .slice ua un uc, .slice qa qn qc, .int .i64 g.next] 25)
    simpa using this
  have HSZ : Hid (W1.heap.size = w.heap.size + 2) := by show _ = _; rw [hW1]; simp
  obtain ⟨Y, hY⟩ : ∃ Y, Y = w.heap.size + 1 := ⟨_, rfl⟩
  obtain ⟨X, hX⟩ : ∃ X, X = w.heap.size := ⟨_, rfl⟩
  have HYE : Hid (Y = w.heap.size + 1) := hY
  have HXE : Hid (X = w.heap.size) := hX
  rw [← hX] at hx
  rw [← hY] at hy
  have HX1 : Hid (W1.heap[X]? = some (.cells #[.int .i64 f.kind, .int .i64 f.fr, .slice va vn vc, .slice oa on oc, .int .i64 f.next] 25)) := hx
  have HY1 : Hid (W1.heap[Y]? = some (.cells #[.int .i64 g.kind, .int .i64 g.fr, .slice ua un uc, .slice qa qn qc, .int .i64 g.next] 25)) := hy
  clear hx hy hX hY hrd hby hcap hq
  go_enter Try.func8, Try.ntmps8
  go_upto_region 1 with fail
  simp only [← hW1, ← HYE.out]
  simp only [← HXE.out]
  clear hW1
  go_upto_region 2 with (go_at_call 11; refine (shown15_any _).mono ?_; rintro e w2 ⟨rfl, hb⟩; have HB2 : Hid (Below W1.heap.size W1 w2) := hb; clear hb)
  have HBw2 : Hid (Below w.heap.size w w2) := HB1.out.trans (HB2.out.mono HB1.out.size)
  have hX2 := (HB2.out.block X (Array.getElem?_eq_some_iff.1 HX1.out).1).trans HX1.out
  have HY2 : Hid (w2.heap[Y]? = some (.cells #[.int .i64 g.kind, .int .i64 g.fr, .slice ua un uc, .slice qa qn qc, .int .i64 g.next] 25)) := (HB2.out.block Y (Array.getElem?_eq_some_iff.1 HY1.out).1).trans HY1.out
  have HX2 : Hid (w2.heap[X]? = some (.cells #[.int .i64 f.kind, .int .i64 f.fr, .slice va vn vc, .slice oa on oc, .int .i64 f.next] 25)) := hX2
  obtain ⟨⟨x0, x1, x2, x3, x4⟩, _⟩ := cells5 hX2
  clear hX2
  go_upto_region 3 with (go_at_call 12
                         refine (HCUT.out _ HBw2.out).mono ?_
                         rintro e w3 ⟨v', rfl, hat, hb⟩
                         obtain ⟨va', vn', vc', oa', on', oc', rfl, _⟩ := id hat
                         have HAT : Hid (FrAtD w3 (.agg #[.int .i64 (cutF f).kind, .int .i64 (cutF f).fr, .slice va' vn' vc', .slice oa' on' oc', .int .i64 (cutF f).next]) (cutF f) w2.heap.size) := hat
                         have HB3 : Hid (Below w2.heap.size w2 w3) := hb
                         have HX3 : Hid (w3.heap[X]? = some (.cells #[.int .i64 f.kind, .int .i64 f.fr, .slice va vn vc, .slice oa on oc, .int .i64 f.next] 25)) := (hb.block X (Array.getElem?_eq_some_iff.1 HX2.out).1).trans HX2.out
                         have HY3 : Hid (w3.heap[Y]? = some (.cells #[.int .i64 g.kind, .int .i64 g.fr, .slice ua un uc, .slice qa qn qc, .int .i64 g.next] 25)) := (hb.block Y (Array.getElem?_eq_some_iff.1 HY2.out).1).trans HY2.out
                         clear x0 x1 x2 x3 x4
                         obtain ⟨⟨x0, x1, x2, x3, x4⟩, z0, z1, z2, z3, z4⟩ := cells5 HX3.out
                         clear hat hb)
  obtain ⟨W3, hW3⟩ : ∃ W3, W3 = (((((w3.setCell ⟨X, 0, none⟩ (.int .i64 (cutF f).kind)).setCell ⟨X, 1, none⟩ (.int .i64 (cutF f).fr)).setCell ⟨X, 2, none⟩ (.slice va' vn' vc')).setCell ⟨X, 3, none⟩ (.slice oa' on' oc')).setCell ⟨X, 4, none⟩ (.int .i64 (cutF f).next)) := ⟨_, rfl⟩
  clear x0 x1 x2 x3 x4 z0 z1 z2 z3 z4
  simp only [← hW3]
  have hs3 := set5g HX3.out (.int .i64 (cutF f).kind) (.int .i64 (cutF f).fr) (.slice va' vn' vc') (.slice oa' on' oc') (.int .i64 (cutF f).next)
  rw [← hW3] at hs3
  have hXY : X ≠ Y := by have := HXE.out; have := HYE.out; omega
  have hlt : X < w2.heap.size ∧ Y < w2.heap.size := ⟨(Array.getElem?_eq_some_iff.1 HX2.out).1, (Array.getElem?_eq_some_iff.1 HY2.out).1⟩
  have HLT : Hid (X < w2.heap.size ∧ Y < w2.heap.size) := hlt
  have HS3 : Hid (Chg w3 W3 (fun k => k = X) ∧ W3.heap[X]? = some (.cells #[.int .i64 (cutF f).kind, .int .i64 (cutF f).fr, .slice va' vn' vc', .slice oa' on' oc', .int .i64 (cutF f).next] 25)) := hs3
  have HYW3 : Hid (W3.heap[Y]? = some (.cells #[.int .i64 g.kind, .int .i64 g.fr, .slice ua un uc, .slice qa qn qc, .int .i64 g.next] 25)) := cg_heap hs3.1 HY3.out (fun e => hXY e.symm)
  have HAT3 : Hid (FrAtD W3 (.agg #[.int .i64 (cutF f).kind, .int .i64 (cutF f).fr, .slice va' vn' vc', .slice oa' on' oc', .int .i64 (cutF f).next]) (cutF f) w2.heap.size) := HAT.out.cg hs3.1 (fun j hj e => by omega)
  have HBw3 : Hid (Below w.heap.size w W3) := (HBw2.out.trans (HB3.out.mono HBw2.out.size)).trans (cg_bel hs3.1 (HBw2.out.trans (HB3.out.mono HBw2.out.size)).size (fun j hj => by have := HXE.out; omega))
  obtain ⟨⟨x0, x1, x2, x3, x4⟩, _⟩ := cells5 HYW3.out
  clear hW3 hs3 hlt
  go_upto_region 4 with (go_at_call 12
                         refine (HCUG.out _ HBw3.out).mono ?_
                         rintro e w4 ⟨v', rfl, hat, hb⟩
                         obtain ⟨ua', un', uc', qa', qn', qc', rfl, _⟩ := id hat
                         have HATG : Hid (FrAtD w4 (.agg #[.int .i64 (cutF g).kind, .int .i64 (cutF g).fr, .slice ua' un' uc', .slice qa' qn' qc', .int .i64 (cutF g).next]) (cutF g) W3.heap.size) := hat
                         have HB4 : Hid (Below W3.heap.size W3 w4) := hb
                         have HX4 : Hid (w4.heap[X]? = some (.cells #[.int .i64 (cutF f).kind, .int .i64 (cutF f).fr, .slice va' vn' vc', .slice oa' on' oc', .int .i64 (cutF f).next] 25)) := (hb.block X (Array.getElem?_eq_some_iff.1 HS3.out.2).1).trans HS3.out.2
                         have HY4 : Hid (w4.heap[Y]? = some (.cells #[.int .i64 g.kind, .int .i64 g.fr, .slice ua un uc, .slice qa qn qc, .int .i64 g.next] 25)) := (hb.block Y (Array.getElem?_eq_some_iff.1 HYW3.out).1).trans HYW3.out
                         clear x0 x1 x2 x3 x4
                         obtain ⟨⟨x0, x1, x2, x3, x4⟩, z0, z1, z2, z3, z4⟩ := cells5 HY4.out
                         clear hat hb)
  obtain ⟨W4, hW4⟩ : ∃ W4, W4 = (((((w4.setCell ⟨Y, 0, none⟩ (.int .i64 (cutF g).kind)).setCell ⟨Y, 1, none⟩ (.int .i64 (cutF g).fr)).setCell ⟨Y, 2, none⟩ (.slice ua' un' uc')).setCell ⟨Y, 3, none⟩ (.slice qa' qn' qc')).setCell ⟨Y, 4, none⟩ (.int .i64 (cutF g).next)) := ⟨_, rfl⟩
  clear x0 x1 x2 x3 x4 z0 z1 z2 z3 z4
  simp only [← hW4]
  have hs4 := set5g HY4.out (.int .i64 (cutF g).kind) (.int .i64 (cutF g).fr) (.slice ua' un' uc') (.slice qa' qn' qc') (.int .i64 (cutF g).next)
  rw [← hW4] at hs4
  have hX5 : W4.heap[X]? = some (.cells #[.int .i64 (cutF f).kind, .int .i64 (cutF f).fr, .slice va' vn' vc', .slice oa' on' oc', .int .i64 (cutF f).next] 25) := cg_heap hs4.1 HX4.out hXY
  have hz3 : w2.heap.size ≤ W3.heap.size := Nat.le_trans HB3.out.size HS3.out.1.2.2.2.1
  have hatf : FrAtD W4 (.agg #[.int .i64 (cutF f).kind, .int .i64 (cutF f).fr, .slice va' vn' vc', .slice oa' on' oc', .int .i64 (cutF f).next]) (cutF f) w2.heap.size := (HAT3.out.cg (cg_below HB4.out (fun _ => False)) (fun _ _ h => h)).cg hs4.1 (fun j hj e => by have := HLT.out; omega)
  have hatg : FrAtD W4 (.agg #[.int .i64 (cutF g).kind, .int .i64 (cutF g).fr, .slice ua' un' uc', .slice qa' qn' qc', .int .i64 (cutF g).next]) (cutF g) W3.heap.size := HATG.out.cg hs4.1 (fun j hj e => by have := HLT.out; omega)
  have HTF : Hid (∀ W, Below W4.heap.size W4 W → FrAt W (.agg #[.int .i64 (cutF f).kind, .int .i64 (cutF f).fr, .slice va' vn' vc', .slice oa' on' oc', .int .i64 (cutF f).next]) (cutF f)) := fun W h => hatf.at.later h
  have HTG : Hid (∀ W, Below W4.heap.size W4 W → FrAt W (.agg #[.int .i64 (cutF g).kind, .int .i64 (cutF g).fr, .slice ua' un' uc', .slice qa' qn' qc', .int .i64 (cutF g).next]) (cutF g)) := fun W h => hatg.at.later h
  have HBw4 : Hid (Below w.heap.size w W4) := (HBw3.out.trans (HB4.out.mono HBw3.out.size)).trans (cg_bel hs4.1 (HBw3.out.trans (HB4.out.mono HBw3.out.size)).size (fun j hj => by have := HYE.out; omega))
  have HKK : Hid (∀ W, Below W4.heap.size W4 W → W.heap[X]? = some (.cells #[.int .i64 (cutF f).kind, .int .i64 (cutF f).fr, .slice va' vn' vc', .slice oa' on' oc', .int .i64 (cutF f).next] 25) ∧ W.heap[Y]? = some (.cells #[.int .i64 (cutF g).kind, .int .i64 (cutF g).fr, .slice ua' un' uc', .slice qa' qn' qc', .int .i64 (cutF g).next] 25)) := fun W h => ⟨(h.block X (Array.getElem?_eq_some_iff.1 hX5).1).trans hX5, (h.block Y (Array.getElem?_eq_some_iff.1 hs4.2).1).trans hs4.2⟩
  obtain ⟨⟨x0, x1, x2, x3, x4⟩, _⟩ := cells5 (HKK.out W4 (Below.refl _ _)).1
  clear hW4 hs4 hX5 hz3 hatf hatg HF0 HG0 HCUT HCUG HX1 HY1 HX2 HY2 HX3 HY3 HX4 HY4 HYW3 HAT HAT3 HATG HS3
  go_upto_region 5 with fail
  cases hfb : frB (cutF f)
  · cases hgb : frB (cutF g)
    · have HFB : Hid (frB (cutF f) = false) := hfb
      have HGB : Hid (frB (cutF g) = false) := hgb
      clear hfb hgb
      go_upto_region 6 with (go_at_call 13
                             refine (c_bytes f _ _ (HTF.out _ (Below.refl W4.heap.size W4))).mono ?_
                             rintro e w5 ⟨h1, h2, hb⟩
                             obtain rfl := h2 HFB.out
                             have HBB5 : Hid (Below W4.heap.size W4 w5) := (Below.refl W4.heap.size W4).trans (hb.mono (Below.refl W4.heap.size W4).size)
                             clear h1 h2 hb x0 x1 x2 x3 x4)
      obtain ⟨⟨x0, x1, x2, x3, x4⟩, _⟩ := cells5 (HKK.out _ HBB5.out).2
      go_upto_region 7 with (go_at_call 13
                             refine (c_bytes g _ _ (HTG.out _ HBB5.out)).mono ?_
                             rintro e w6 ⟨h1, h2, hb⟩
                             obtain rfl := h2 HGB.out
                             have HB56 : Hid (Below w5.heap.size w5 w6) := hb
                             have HBB6 : Hid (Below W4.heap.size W4 w6) := HBB5.out.trans (hb.mono HBB5.out.size)
                             clear h1 h2 hb x0 x1 x2 x3 x4)
      have HBL : Hid (Below W4.heap.size W4 w6) := HBB6.out
      go_upto_region 11 with fail
      cases hof : ofN bs with
      | none =>
        have HOF : Hid (ofN bs = none) := hof
        clear hof
        go_wp2_with (go_at_call 20; refine (frOf_any bs a q cap _ HCB.out (HRD.out _ (HBw4.out.trans (HBL.out.mono HBw4.out.size))) HQC.out (by omega)).mono ?_; rintro e w8 ⟨hb, h1, -⟩; obtain rfl := h1 HOF.out; have HB8 : Hid (Below w6.heap.size w6 w8) := hb; clear hb h1)
        go_ret
        exact ⟨rfl, (HBw4.out.trans (HBL.out.mono HBw4.out.size)).trans ((HB8.out.alloc HB8.out.size _).mono (HBw4.out.trans (HBL.out.mono HBw4.out.size)).size)⟩
      | some h =>
        obtain ⟨o1, o2, o3⟩ := of_some bs h HCB.out hof
        have HOF : Hid (ofN bs = some h) := hof
        have HRB : Hid (frB h = true ∧ bs = bytesN h) := ⟨o1, o2⟩
        have HLL : Hid (h.vec.length ≤ 100000 ∧ h.ops.length ≤ 100000) := by
          have l1 := lens_bytes h
          have l2 : bs.length = q := (HRD.out w (Below.refl _ _)).1
          rw [← o2, l2] at l1
          exact ⟨by omega, by omega⟩
        clear hof o1 o2 o3
        go_upto_region 12 with (go_at_call 20
                                refine (frOf_any bs a q cap _ HCB.out (HRD.out _ (HBw4.out.trans (HBL.out.mono HBw4.out.size))) HQC.out (by omega)).mono ?_
                                rintro e w8 ⟨hb, -, h1⟩
                                obtain ⟨v8, rfl, hat⟩ := h1 h HOF.out
                                obtain ⟨pa, pn, pc, ra, rn, rc, rfl, _⟩ := id hat
                                have HB8 : Hid (Below w6.heap.size w6 w8) := hb
                                have HAT8 : Hid (FrAt w8 (.agg #[.int .i64 h.kind, .int .i64 h.fr, .slice pa pn pc, .slice ra rn rc, .int .i64 h.next]) h) := hat
                                clear hb h1 hat)
        obtain ⟨W9, hW9⟩ : ∃ W9, W9 = w8.alloc (.cells #[.int .i64 h.kind, .int .i64 h.fr, .slice pa pn pc, .slice ra rn rc, .int .i64 h.next] 25) := ⟨_, rfl⟩
        have HB9 : Hid (Below w8.heap.size w8 W9) := by show Below _ _ _; rw [hW9]; exact (Below.refl _ _).alloc (Nat.le_refl _) _
        have hv9 : W9.heap[w8.heap.size]? = some (.cells #[.int .i64 h.kind, .int .i64 h.fr, .slice pa pn pc, .slice ra rn rc, .int .i64 h.next] 25) := by rw [hW9]; exact heap_alloc_new w8 _
        obtain ⟨V, hV⟩ : ∃ V, V = w8.heap.size := ⟨_, rfl⟩
        have HVE : Hid (V = w8.heap.size) := hV
        rw [← hV] at hv9
        have HV9 : Hid (W9.heap[V]? = some (.cells #[.int .i64 h.kind, .int .i64 h.fr, .slice pa pn pc, .slice ra rn rc, .int .i64 h.next] 25)) := hv9
        have HAT9 : Hid (∀ W, Below W9.heap.size W9 W → FrAt W (.agg #[.int .i64 h.kind, .int .i64 h.fr, .slice pa pn pc, .slice ra rn rc, .int .i64 h.next]) h) := fun W q => (HAT8.out.later HB9.out).later q
        obtain ⟨⟨x0, x1, x2, x3, x4⟩, _⟩ := cells5 hv9
        simp only [← hW9, ← HVE.out]
        clear hW9 hV hv9
        have HBw9 : Hid (Below w.heap.size w W9) := (HBw4.out.trans (HBL.out.mono HBw4.out.size)).trans ((HB8.out.trans (HB9.out.mono HB8.out.size)).mono (HBw4.out.trans (HBL.out.mono HBw4.out.size)).size)
        go_upto_region 15 with (go_at_call 13
                                refine (frBytes_any h _ _ (HAT9.out _ (Below.refl _ _)) HLL.out.1 HLL.out.2).mono ?_
                                rintro e w10 ⟨hb, h1, -⟩
                                obtain ⟨v10, rfl, ho⟩ := h1 HRB.out.1
                                rw [← HRB.out.2] at ho
                                obtain ⟨a10, c10, rfl, -, -, hr, -⟩ := rd_own2 ho
                                have HB10 : Hid (Below W9.heap.size W9 w10) := hb
                                have HR10 : Hid (Rd .u8 w10 a10 bs.length bs) := hr
                                clear hb h1 ho hr)
        have hcv := conv_str (cap := c10) HR10.out
        have hcw := conv_str (cap := cap) (HRD.out w10 (HBw9.out.trans (HB10.out.mono HBw9.out.size)))
        clear x0 x1 x2 x3 x4
        obtain ⟨⟨x0, x1, x2, x3, x4⟩, _⟩ := cells5 ((HB10.out.block V (Array.getElem?_eq_some_iff.1 HV9.out).1).trans HV9.out)
        generalize bs.length = bl at *
        generalize strOfNums bs = sb at *
        go_wp2_with (go_at_call 16
                     refine (frRight_any h _ _ (HAT9.out _ HB10.out) HLL.out.1 HLL.out.2).mono ?_
                     rw [HRB.out.1]
                     rintro e w11 ⟨rfl, hb⟩
                     have HB11 : Hid (Below w10.heap.size w10 w11) := hb
                     clear hb)
        go_ret
        exact ⟨by simp, HBw9.out.trans ((HB10.out.trans (HB11.out.mono HB10.out.size)).mono HBw9.out.size)⟩
    · have HFB : Hid (frB (cutF f) = false) := hfb
      have HGB : Hid (frB (cutF g) = true) := hgb
      clear hfb hgb
      go_upto_region 6 with (go_at_call 13
                             refine (c_bytes f _ _ (HTF.out _ (Below.refl W4.heap.size W4))).mono ?_
                             rintro e w5 ⟨h1, h2, hb⟩
                             obtain rfl := h2 HFB.out
                             have HBB5 : Hid (Below W4.heap.size W4 w5) := (Below.refl W4.heap.size W4).trans (hb.mono (Below.refl W4.heap.size W4).size)
                             clear h1 h2 hb x0 x1 x2 x3 x4)
      obtain ⟨⟨x0, x1, x2, x3, x4⟩, _⟩ := cells5 (HKK.out _ HBB5.out).2
      go_upto_region 7 with (go_at_call 13
                             refine (c_bytes g _ _ (HTG.out _ HBB5.out)).mono ?_
                             rintro e w6 ⟨h1, h2, hb⟩
                             obtain ⟨a6, c6, rfl, hc, hm, hr⟩ := h1 HGB.out
                             have HR6 : Hid (Rd .u8 w6 a6 (bytesN (cutF g)).length (bytesN (cutF g))) := hr
                             clear hc hm hr
                             have HB56 : Hid (Below w5.heap.size w5 w6) := hb
                             have HBB6 : Hid (Below W4.heap.size W4 w6) := HBB5.out.trans (hb.mono HBB5.out.size)
                             clear h1 h2 hb x0 x1 x2 x3 x4)
      have HBL : Hid (Below W4.heap.size W4 w6) := HBB6.out
      go_upto_region 11 with fail
      cases hof : ofN bs with
      | none =>
        have HOF : Hid (ofN bs = none) := hof
        clear hof
        go_wp2_with (go_at_call 20; refine (frOf_any bs a q cap _ HCB.out (HRD.out _ (HBw4.out.trans (HBL.out.mono HBw4.out.size))) HQC.out (by omega)).mono ?_; rintro e w8 ⟨hb, h1, -⟩; obtain rfl := h1 HOF.out; have HB8 : Hid (Below w6.heap.size w6 w8) := hb; clear hb h1)
        go_ret
        exact ⟨rfl, (HBw4.out.trans (HBL.out.mono HBw4.out.size)).trans ((HB8.out.alloc HB8.out.size _).mono (HBw4.out.trans (HBL.out.mono HBw4.out.size)).size)⟩
      | some h =>
        obtain ⟨o1, o2, o3⟩ := of_some bs h HCB.out hof
        have HOF : Hid (ofN bs = some h) := hof
        have HRB : Hid (frB h = true ∧ bs = bytesN h) := ⟨o1, o2⟩
        have HLL : Hid (h.vec.length ≤ 100000 ∧ h.ops.length ≤ 100000) := by
          have l1 := lens_bytes h
          have l2 : bs.length = q := (HRD.out w (Below.refl _ _)).1
          rw [← o2, l2] at l1
          exact ⟨by omega, by omega⟩
        clear hof o1 o2 o3
        go_upto_region 12 with (go_at_call 20
                                refine (frOf_any bs a q cap _ HCB.out (HRD.out _ (HBw4.out.trans (HBL.out.mono HBw4.out.size))) HQC.out (by omega)).mono ?_
                                rintro e w8 ⟨hb, -, h1⟩
                                obtain ⟨v8, rfl, hat⟩ := h1 h HOF.out
                                obtain ⟨pa, pn, pc, ra, rn, rc, rfl, _⟩ := id hat
                                have HB8 : Hid (Below w6.heap.size w6 w8) := hb
                                have HAT8 : Hid (FrAt w8 (.agg #[.int .i64 h.kind, .int .i64 h.fr, .slice pa pn pc, .slice ra rn rc, .int .i64 h.next]) h) := hat
                                clear hb h1 hat)
        obtain ⟨W9, hW9⟩ : ∃ W9, W9 = w8.alloc (.cells #[.int .i64 h.kind, .int .i64 h.fr, .slice pa pn pc, .slice ra rn rc, .int .i64 h.next] 25) := ⟨_, rfl⟩
        have HB9 : Hid (Below w8.heap.size w8 W9) := by show Below _ _ _; rw [hW9]; exact (Below.refl _ _).alloc (Nat.le_refl _) _
        have hv9 : W9.heap[w8.heap.size]? = some (.cells #[.int .i64 h.kind, .int .i64 h.fr, .slice pa pn pc, .slice ra rn rc, .int .i64 h.next] 25) := by rw [hW9]; exact heap_alloc_new w8 _
        obtain ⟨V, hV⟩ : ∃ V, V = w8.heap.size := ⟨_, rfl⟩
        have HVE : Hid (V = w8.heap.size) := hV
        rw [← hV] at hv9
        have HV9 : Hid (W9.heap[V]? = some (.cells #[.int .i64 h.kind, .int .i64 h.fr, .slice pa pn pc, .slice ra rn rc, .int .i64 h.next] 25)) := hv9
        have HAT9 : Hid (∀ W, Below W9.heap.size W9 W → FrAt W (.agg #[.int .i64 h.kind, .int .i64 h.fr, .slice pa pn pc, .slice ra rn rc, .int .i64 h.next]) h) := fun W q => (HAT8.out.later HB9.out).later q
        obtain ⟨⟨x0, x1, x2, x3, x4⟩, _⟩ := cells5 hv9
        simp only [← hW9, ← HVE.out]
        clear hW9 hV hv9
        have HBw9 : Hid (Below w.heap.size w W9) := (HBw4.out.trans (HBL.out.mono HBw4.out.size)).trans ((HB8.out.trans (HB9.out.mono HB8.out.size)).mono (HBw4.out.trans (HBL.out.mono HBw4.out.size)).size)
        go_upto_region 15 with (go_at_call 13
                                refine (frBytes_any h _ _ (HAT9.out _ (Below.refl _ _)) HLL.out.1 HLL.out.2).mono ?_
                                rintro e w10 ⟨hb, h1, -⟩
                                obtain ⟨v10, rfl, ho⟩ := h1 HRB.out.1
                                rw [← HRB.out.2] at ho
                                obtain ⟨a10, c10, rfl, -, -, hr, -⟩ := rd_own2 ho
                                have HB10 : Hid (Below W9.heap.size W9 w10) := hb
                                have HR10 : Hid (Rd .u8 w10 a10 bs.length bs) := hr
                                clear hb h1 ho hr)
        have hcv := conv_str (cap := c10) HR10.out
        have hcw := conv_str (cap := cap) (HRD.out w10 (HBw9.out.trans (HB10.out.mono HBw9.out.size)))
        clear x0 x1 x2 x3 x4
        obtain ⟨⟨x0, x1, x2, x3, x4⟩, _⟩ := cells5 ((HB10.out.block V (Array.getElem?_eq_some_iff.1 HV9.out).1).trans HV9.out)
        generalize bs.length = bl at *
        generalize strOfNums bs = sb at *
        go_wp2_with (go_at_call 16
                     refine (frRight_any h _ _ (HAT9.out _ HB10.out) HLL.out.1 HLL.out.2).mono ?_
                     rw [HRB.out.1]
                     rintro e w11 ⟨rfl, hb⟩
                     have HB11 : Hid (Below w10.heap.size w10 w11) := hb
                     clear hb)
        go_ret
        exact ⟨by simp, HBw9.out.trans ((HB10.out.trans (HB11.out.mono HB10.out.size)).mono HBw9.out.size)⟩
  · cases hgb : frB (cutF g)
    · have HFB : Hid (frB (cutF f) = true) := hfb
      have HGB : Hid (frB (cutF g) = false) := hgb
      clear hfb hgb
      go_upto_region 6 with (go_at_call 13
                             refine (c_bytes f _ _ (HTF.out _ (Below.refl W4.heap.size W4))).mono ?_
                             rintro e w5 ⟨h1, h2, hb⟩
                             obtain ⟨a5, c5, rfl, hc, hm, hr⟩ := h1 HFB.out
                             have HR5 : Hid (Rd .u8 w5 a5 (bytesN (cutF f)).length (bytesN (cutF f))) := hr
                             clear hc hm hr
                             have HBB5 : Hid (Below W4.heap.size W4 w5) := (Below.refl W4.heap.size W4).trans (hb.mono (Below.refl W4.heap.size W4).size)
                             clear h1 h2 hb x0 x1 x2 x3 x4)
      obtain ⟨⟨x0, x1, x2, x3, x4⟩, _⟩ := cells5 (HKK.out _ HBB5.out).2
      go_upto_region 7 with (go_at_call 13
                             refine (c_bytes g _ _ (HTG.out _ HBB5.out)).mono ?_
                             rintro e w6 ⟨h1, h2, hb⟩
                             obtain rfl := h2 HGB.out
                             have HB56 : Hid (Below w5.heap.size w5 w6) := hb
                             have HBB6 : Hid (Below W4.heap.size W4 w6) := HBB5.out.trans (hb.mono HBB5.out.size)
                             clear h1 h2 hb x0 x1 x2 x3 x4)
      have HBL : Hid (Below W4.heap.size W4 w6) := HBB6.out
      go_upto_region 11 with fail
      cases hof : ofN bs with
      | none =>
        have HOF : Hid (ofN bs = none) := hof
        clear hof
        go_wp2_with (go_at_call 20; refine (frOf_any bs a q cap _ HCB.out (HRD.out _ (HBw4.out.trans (HBL.out.mono HBw4.out.size))) HQC.out (by omega)).mono ?_; rintro e w8 ⟨hb, h1, -⟩; obtain rfl := h1 HOF.out; have HB8 : Hid (Below w6.heap.size w6 w8) := hb; clear hb h1)
        go_ret
        exact ⟨rfl, (HBw4.out.trans (HBL.out.mono HBw4.out.size)).trans ((HB8.out.alloc HB8.out.size _).mono (HBw4.out.trans (HBL.out.mono HBw4.out.size)).size)⟩
      | some h =>
        obtain ⟨o1, o2, o3⟩ := of_some bs h HCB.out hof
        have HOF : Hid (ofN bs = some h) := hof
        have HRB : Hid (frB h = true ∧ bs = bytesN h) := ⟨o1, o2⟩
        have HLL : Hid (h.vec.length ≤ 100000 ∧ h.ops.length ≤ 100000) := by
          have l1 := lens_bytes h
          have l2 : bs.length = q := (HRD.out w (Below.refl _ _)).1
          rw [← o2, l2] at l1
          exact ⟨by omega, by omega⟩
        clear hof o1 o2 o3
        go_upto_region 12 with (go_at_call 20
                                refine (frOf_any bs a q cap _ HCB.out (HRD.out _ (HBw4.out.trans (HBL.out.mono HBw4.out.size))) HQC.out (by omega)).mono ?_
                                rintro e w8 ⟨hb, -, h1⟩
                                obtain ⟨v8, rfl, hat⟩ := h1 h HOF.out
                                obtain ⟨pa, pn, pc, ra, rn, rc, rfl, _⟩ := id hat
                                have HB8 : Hid (Below w6.heap.size w6 w8) := hb
                                have HAT8 : Hid (FrAt w8 (.agg #[.int .i64 h.kind, .int .i64 h.fr, .slice pa pn pc, .slice ra rn rc, .int .i64 h.next]) h) := hat
                                clear hb h1 hat)
        obtain ⟨W9, hW9⟩ : ∃ W9, W9 = w8.alloc (.cells #[.int .i64 h.kind, .int .i64 h.fr, .slice pa pn pc, .slice ra rn rc, .int .i64 h.next] 25) := ⟨_, rfl⟩
        have HB9 : Hid (Below w8.heap.size w8 W9) := by show Below _ _ _; rw [hW9]; exact (Below.refl _ _).alloc (Nat.le_refl _) _
        have hv9 : W9.heap[w8.heap.size]? = some (.cells #[.int .i64 h.kind, .int .i64 h.fr, .slice pa pn pc, .slice ra rn rc, .int .i64 h.next] 25) := by rw [hW9]; exact heap_alloc_new w8 _
        obtain ⟨V, hV⟩ : ∃ V, V = w8.heap.size := ⟨_, rfl⟩
        have HVE : Hid (V = w8.heap.size) := hV
        rw [← hV] at hv9
        have HV9 : Hid (W9.heap[V]? = some (.cells #[.int .i64 h.kind, .int .i64 h.fr, .slice pa pn pc, .slice ra rn rc, .int .i64 h.next] 25)) := hv9
        have HAT9 : Hid (∀ W, Below W9.heap.size W9 W → FrAt W (.agg #[.int .i64 h.kind, .int .i64 h.fr, .slice pa pn pc, .slice ra rn rc, .int .i64 h.next]) h) := fun W q => (HAT8.out.later HB9.out).later q
        obtain ⟨⟨x0, x1, x2, x3, x4⟩, _⟩ := cells5 hv9
        simp only [← hW9, ← HVE.out]
        clear hW9 hV hv9
        have HBw9 : Hid (Below w.heap.size w W9) := (HBw4.out.trans (HBL.out.mono HBw4.out.size)).trans ((HB8.out.trans (HB9.out.mono HB8.out.size)).mono (HBw4.out.trans (HBL.out.mono HBw4.out.size)).size)
        go_upto_region 15 with (go_at_call 13
                                refine (frBytes_any h _ _ (HAT9.out _ (Below.refl _ _)) HLL.out.1 HLL.out.2).mono ?_
                                rintro e w10 ⟨hb, h1, -⟩
                                obtain ⟨v10, rfl, ho⟩ := h1 HRB.out.1
                                rw [← HRB.out.2] at ho
                                obtain ⟨a10, c10, rfl, -, -, hr, -⟩ := rd_own2 ho
                                have HB10 : Hid (Below W9.heap.size W9 w10) := hb
                                have HR10 : Hid (Rd .u8 w10 a10 bs.length bs) := hr
                                clear hb h1 ho hr)
        have hcv := conv_str (cap := c10) HR10.out
        have hcw := conv_str (cap := cap) (HRD.out w10 (HBw9.out.trans (HB10.out.mono HBw9.out.size)))
        clear x0 x1 x2 x3 x4
        obtain ⟨⟨x0, x1, x2, x3, x4⟩, _⟩ := cells5 ((HB10.out.block V (Array.getElem?_eq_some_iff.1 HV9.out).1).trans HV9.out)
        generalize bs.length = bl at *
        generalize strOfNums bs = sb at *
        go_wp2_with (go_at_call 16
                     refine (frRight_any h _ _ (HAT9.out _ HB10.out) HLL.out.1 HLL.out.2).mono ?_
                     rw [HRB.out.1]
                     rintro e w11 ⟨rfl, hb⟩
                     have HB11 : Hid (Below w10.heap.size w10 w11) := hb
                     clear hb)
        go_ret
        exact ⟨by simp, HBw9.out.trans ((HB10.out.trans (HB11.out.mono HB10.out.size)).mono HBw9.out.size)⟩
    · have HFB : Hid (frB (cutF f) = true) := hfb
      have HGB : Hid (frB (cutF g) = true) := hgb
      obtain ⟨z, hz⟩ : ∃ z, z = decide (bytesN (cutF f) = bytesN (cutF g)) := ⟨_, rfl⟩
      have hse := str_eq (bytesN (cutF f)) (bytesN (cutF g)) (bytes_byt f hfb) (bytes_byt g hgb)
      rw [← hz] at hse
      have HZ : Hid (z = true ↔ cutF f = cutF g) := by show z = true ↔ _; rw [hz, decide_eq_true_eq]; exact bytes_iff f g hfb hgb
      clear hz
      clear hfb hgb
      go_upto_region 6 with (go_at_call 13
                             refine (c_bytes f _ _ (HTF.out _ (Below.refl W4.heap.size W4))).mono ?_
                             rintro e w5 ⟨h1, h2, hb⟩
                             obtain ⟨a5, c5, rfl, hc, hm, hr⟩ := h1 HFB.out
                             have HR5 : Hid (Rd .u8 w5 a5 (bytesN (cutF f)).length (bytesN (cutF f))) := hr
                             clear hc hm hr
                             have HBB5 : Hid (Below W4.heap.size W4 w5) := (Below.refl W4.heap.size W4).trans (hb.mono (Below.refl W4.heap.size W4).size)
                             clear h1 h2 hb x0 x1 x2 x3 x4)
      obtain ⟨⟨x0, x1, x2, x3, x4⟩, _⟩ := cells5 (HKK.out _ HBB5.out).2
      go_upto_region 7 with (go_at_call 13
                             refine (c_bytes g _ _ (HTG.out _ HBB5.out)).mono ?_
                             rintro e w6 ⟨h1, h2, hb⟩
                             obtain ⟨a6, c6, rfl, hc, hm, hr⟩ := h1 HGB.out
                             have HR6 : Hid (Rd .u8 w6 a6 (bytesN (cutF g)).length (bytesN (cutF g))) := hr
                             clear hc hm hr
                             have HB56 : Hid (Below w5.heap.size w5 w6) := hb
                             have HBB6 : Hid (Below W4.heap.size W4 w6) := HBB5.out.trans (hb.mono HBB5.out.size)
                             clear h1 h2 hb x0 x1 x2 x3 x4)
      obtain ⟨⟨x0, x1, x2, x3, x4⟩, _⟩ := cells5 (HKK.out _ HBB6.out).1
      obtain ⟨⟨y0, y1, y2, y3, y4⟩, _⟩ := cells5 (HKK.out _ HBB6.out).2
      go_upto_region 9 with (go_at_call 15
                             refine (refSame_any (cutF f) (cutF g) _ _ _ (HTF.out _ HBB6.out) (HTG.out _ HBB6.out) (by have := cutF_len f; omega) (by have := cutF_len f; omega) z HZ.out).mono ?_
                             rintro e w7 ⟨rfl, hb⟩
                             have HBL : Hid (Below W4.heap.size W4 w7) := HBB6.out.trans (hb.mono HBB6.out.size)
                             have HR57 : Hid (Rd .u8 w7 a5 (bytesN (cutF f)).length (bytesN (cutF f)) ∧ Rd .u8 w7 a6 (bytesN (cutF g)).length (bytesN (cutF g))) := ⟨HR5.out.later ((Below.trans (HB56.out) (hb.mono HB56.out.size))), HR6.out.later hb⟩
                             clear hb x0 x1 x2 x3 x4 y0 y1 y2 y3 y4)
      have hcf := conv_str (cap := c5) HR57.out.1
      have hcg := conv_str (cap := c6) HR57.out.2
      have HWL : Hid (∃ wL, wL = w7) := ⟨_, rfl⟩
      generalize strOfNums (bytesN (cutF f)) = sF at *
      generalize strOfNums (bytesN (cutF g)) = sG at *
      generalize (bytesN (cutF f)).length = lF at *
      generalize (bytesN (cutF g)).length = lG at *
      cases z
      all_goals
        go_upto_region 11 with fail
        clear hcf hcg hse
        cases hof : ofN bs with
        | none =>
          have HOF : Hid (ofN bs = none) := hof
          clear hof
          go_wp2_with (go_at_call 20; refine (frOf_any bs a q cap _ HCB.out (HRD.out _ (HBw4.out.trans (HBL.out.mono HBw4.out.size))) HQC.out (by omega)).mono ?_; rintro e w8 ⟨hb, h1, -⟩; obtain rfl := h1 HOF.out; have HB8 : Hid (Below w7.heap.size w7 w8) := hb; clear hb h1)
          go_ret
          exact ⟨rfl, (HBw4.out.trans (HBL.out.mono HBw4.out.size)).trans ((HB8.out.alloc HB8.out.size _).mono (HBw4.out.trans (HBL.out.mono HBw4.out.size)).size)⟩
        | some h =>
          obtain ⟨o1, o2, o3⟩ := of_some bs h HCB.out hof
          have HOF : Hid (ofN bs = some h) := hof
          have HRB : Hid (frB h = true ∧ bs = bytesN h) := ⟨o1, o2⟩
          have HLL : Hid (h.vec.length ≤ 100000 ∧ h.ops.length ≤ 100000) := by
            have l1 := lens_bytes h
            have l2 : bs.length = q := (HRD.out w (Below.refl _ _)).1
            rw [← o2, l2] at l1
            exact ⟨by omega, by omega⟩
          clear hof o1 o2 o3
          go_upto_region 12 with (go_at_call 20
                                  refine (frOf_any bs a q cap _ HCB.out (HRD.out _ (HBw4.out.trans (HBL.out.mono HBw4.out.size))) HQC.out (by omega)).mono ?_
                                  rintro e w8 ⟨hb, -, h1⟩
                                  obtain ⟨v8, rfl, hat⟩ := h1 h HOF.out
                                  obtain ⟨pa, pn, pc, ra, rn, rc, rfl, _⟩ := id hat
                                  have HB8 : Hid (Below w7.heap.size w7 w8) := hb
                                  have HAT8 : Hid (FrAt w8 (.agg #[.int .i64 h.kind, .int .i64 h.fr, .slice pa pn pc, .slice ra rn rc, .int .i64 h.next]) h) := hat
                                  clear hb h1 hat)
          obtain ⟨W9, hW9⟩ : ∃ W9, W9 = w8.alloc (.cells #[.int .i64 h.kind, .int .i64 h.fr, .slice pa pn pc, .slice ra rn rc, .int .i64 h.next] 25) := ⟨_, rfl⟩
          have HB9 : Hid (Below w8.heap.size w8 W9) := by show Below _ _ _; rw [hW9]; exact (Below.refl _ _).alloc (Nat.le_refl _) _
          have hv9 : W9.heap[w8.heap.size]? = some (.cells #[.int .i64 h.kind, .int .i64 h.fr, .slice pa pn pc, .slice ra rn rc, .int .i64 h.next] 25) := by rw [hW9]; exact heap_alloc_new w8 _
          obtain ⟨V, hV⟩ : ∃ V, V = w8.heap.size := ⟨_, rfl⟩
          have HVE : Hid (V = w8.heap.size) := hV
          rw [← hV] at hv9
          have HV9 : Hid (W9.heap[V]? = some (.cells #[.int .i64 h.kind, .int .i64 h.fr, .slice pa pn pc, .slice ra rn rc, .int .i64 h.next] 25)) := hv9
          have HAT9 : Hid (∀ W, Below W9.heap.size W9 W → FrAt W (.agg #[.int .i64 h.kind, .int .i64 h.fr, .slice pa pn pc, .slice ra rn rc, .int .i64 h.next]) h) := fun W q => (HAT8.out.later HB9.out).later q
          obtain ⟨⟨x0, x1, x2, x3, x4⟩, _⟩ := cells5 hv9
          simp only [← hW9, ← HVE.out]
          clear hW9 hV hv9
          have HBw9 : Hid (Below w.heap.size w W9) := (HBw4.out.trans (HBL.out.mono HBw4.out.size)).trans ((HB8.out.trans (HB9.out.mono HB8.out.size)).mono (HBw4.out.trans (HBL.out.mono HBw4.out.size)).size)
          go_upto_region 15 with (go_at_call 13
                                  refine (frBytes_any h _ _ (HAT9.out _ (Below.refl _ _)) HLL.out.1 HLL.out.2).mono ?_
                                  rintro e w10 ⟨hb, h1, -⟩
                                  obtain ⟨v10, rfl, ho⟩ := h1 HRB.out.1
                                  rw [← HRB.out.2] at ho
                                  obtain ⟨a10, c10, rfl, -, -, hr, -⟩ := rd_own2 ho
                                  have HB10 : Hid (Below W9.heap.size W9 w10) := hb
                                  have HR10 : Hid (Rd .u8 w10 a10 bs.length bs) := hr
                                  clear hb h1 ho hr)
          have hcv := conv_str (cap := c10) HR10.out
          have hcw := conv_str (cap := cap) (HRD.out w10 (HBw9.out.trans (HB10.out.mono HBw9.out.size)))
          clear x0 x1 x2 x3 x4
          obtain ⟨⟨x0, x1, x2, x3, x4⟩, _⟩ := cells5 ((HB10.out.block V (Array.getElem?_eq_some_iff.1 HV9.out).1).trans HV9.out)
          generalize bs.length = bl at *
          generalize strOfNums bs = sb at *
          go_wp2_with (go_at_call 16
                       refine (frRight_any h _ _ (HAT9.out _ HB10.out) HLL.out.1 HLL.out.2).mono ?_
                       rw [HRB.out.1]
                       rintro e w11 ⟨rfl, hb⟩
                       have HB11 : Hid (Below w10.heap.size w10 w11) := hb
                       clear hb)
          go_ret
          exact ⟨by simp, HBw9.out.trans ((HB10.out.trans (HB11.out.mono HB10.out.size)).mono HBw9.out.size)⟩
end Go.Proofs.Ytohkdlgckepfgaa
