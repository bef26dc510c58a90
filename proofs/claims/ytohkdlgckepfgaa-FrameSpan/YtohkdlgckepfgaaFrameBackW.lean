/- The walk of FrameBack. -/
import Derived.Test.YtohkdlgckepfgaaFrBm
namespace Go.Proofs.Ytohkdlgckepfgaa
open Go.RowKit
set_option linter.unusedVariables false
set_option linter.unusedSimpArgs false

theorem bytes_min (f : Frm) : 12 ≤ (bytesN (cutF f)).length := by
  have h1 : (bytesN (cutF f)).length = 6 + (pt (bodyN (cutF f))).length := wrapN_len _
  have h2 := pt_len (bodyN (cutF f))
  have h3 : (numN (cutF f)).length ≤ (bodyN (cutF f)).length := pks_len (numN (cutF f))
  have h4 : 5 ≤ (numN (cutF f)).length := by rw [numN]; simp only [List.length_append, List.length_cons, List.length_nil]; omega
  have h5 := pk_len ((bodyN (cutF f)).length : Nat)
  omega
/-- Of, of bytes that are no frame's. -/
theorem of_no (bs : List Int) (a : Option Addr) (n c : Nat) (W : World) (h0 : ofN bs = none) (hb : Byt bs) (hr : Rd .u8 W a n bs) (hc : n ≤ c) (hn : n ≤ 100000) : Calls Try.prog 20 #[.slice a n c] W fun e w' => e = .returned (.tuple #[frV 0 0 none 0 0 none 0 0 0, .int .i64 2]) ∧ Below W.heap.size W w' :=
  (frOf_any bs a n c W hb hr hc hn).mono fun e w' h => ⟨h.2.1 h0, h.1⟩
theorem own_u8 (W : World) : (W.alloc (.cells #[] 5)).ownsRow W.heap.size 5 1 (.slice (some ⟨W.heap.size, 0, none⟩) 0 0) 0 (([] : List Int).map (Value.int .u8)) := World.ownsRow_made W #[] 0 (Nat.le_refl _) (by simp [maxLen]) rfl
theorem own_cells {w : World} {B L : Nat} {v : Value} {xs : List Int} (h : w.ownsRow B 5 1 v L (xs.map (Value.int .u8))) (hL : 0 < L) : ∃ g c cur, v = .slice (some ⟨g, 0, none⟩) L c ∧ L ≤ c ∧ B ≤ g ∧ w.heap[g]? = some (.cells cur 5 (0, 0)) ∧ Rd .u8 w (some ⟨g, 0, none⟩) L xs := by
  obtain ⟨a, c, e, hc, _, hr, _⟩ := rd_own2 h
  rcases h.2 with ⟨_, h0⟩ | ⟨g, cap, cur, hv, hb, hg, hn, hm, hs, ht⟩
  · omega
  · rw [hv] at e
    cases e
    exact ⟨g, _, cur, hv, hc, hb, hg, hr⟩
theorem rd_set {w : World} {g L : Nat} {cur : Array Value} {xs : List Int} (hg : w.heap[g]? = some (.cells cur 5 (0, 0))) (hr : Rd .u8 w (some ⟨g, 0, none⟩) L xs) (k : Nat) (hk : k < L) (y : Int) : Rd .u8 (w.setCell ⟨g, k, none⟩ (.int .u8 y)) (some ⟨g, 0, none⟩) L (xs.set k y) := by
  refine ⟨by rw [List.length_set]; exact hr.1, fun hp => ⟨g, 0, rfl, fun i hi => ?_⟩⟩
  obtain ⟨b, off, e, hc⟩ := hr.2 hp
  cases e
  have h1 := hc i hi
  have hlen := hr.1
  rw [cell_of_row w g _ _ _ _ hg] at h1
  rw [cell_of_row _ g _ _ _ _ (heap_setX w g k _ _ _ _ hg)]
  rw [Nat.zero_add] at h1 ⊢
  by_cases hik : k = i
  · subst hik
    have hlt : k < cur.size := by
      rcases Nat.lt_or_ge k cur.size with h | h
      · exact h
      · rw [Array.getElem?_eq_none h] at h1; cases h1
    rw [Array.getElem?_setIfInBounds_self_of_lt hlt]
    simp [show k < xs.length by omega]
  · rw [Array.getElem?_setIfInBounds_ne hik, h1]
    simp [List.getElem?_set, hik]
set_option maxRecDepth 100000 in
set_option maxHeartbeats 8000000 in
theorem frameBack_walk (f : Frm) (fv : Value) (pp t : Int) (w : World) (hf : FrAtC w fv f) (lo : -9223372036854775808 ≤ pp) (hi : pp ≤ 9223372036854775807) (ht0 : 0 ≤ t) (ht1 : t ≤ 255) :
    Calls Try.prog 5 #[fv, .int .i64 pp, .int .u8 t] w fun e w' => e = .returned (.bool true) ∧ Below w.heap.size w w' := by
  obtain ⟨i0, hi0, hz0, hz1, hz2⟩ := info_parts info_u8
  have HCUT : Hid (∀ W, Below w.heap.size w W → Calls Try.prog 12 #[fv] W fun e w' => ∃ v', e = .returned v' ∧ FrAtD w' v' (cutF f) W.heap.size ∧ Below W.heap.size W w') := fun W h => cut_any f fv W (hf.later h)
  obtain ⟨va, vn, vc, oa, on, oc, rfl, _⟩ := hf
  obtain ⟨W1, hW1⟩ : ∃ W1, W1 = w.alloc (.cells #[.int .i64 f.kind, .int .i64 f.fr, .slice va vn vc, .slice oa on oc, .int .i64 f.next] 25) := ⟨_, rfl⟩
  have HB1 : Hid (Below w.heap.size w W1) := by show Below _ _ _; rw [hW1]; exact (Below.refl _ w).alloc (Nat.le_refl _) _
  have hx : W1.heap[w.heap.size]? = some (.cells #[.int .i64 f.kind, .int .i64 f.fr, .slice va vn vc, .slice oa on oc, .int .i64 f.next] 25) := by rw [hW1]; exact heap_alloc_new w _
  obtain ⟨X, hX⟩ : ∃ X, X = w.heap.size := ⟨_, rfl⟩
  have HXE : Hid (X = w.heap.size) := hX
  rw [← hX] at hx
  have HX1 : Hid (W1.heap[X]? = some (.cells #[.int .i64 f.kind, .int .i64 f.fr, .slice va vn vc, .slice oa on oc, .int .i64 f.next] 25)) := hx
  clear hx hX
  go_enter Try.func5, Try.ntmps5
  go_upto_region 1 with fail
  simp only [← hW1, ← HXE.out]
  clear hW1
  go_upto_region 2 with (go_at_call 11; refine (shown15_any _).mono ?_; rintro e w2 ⟨rfl, hb⟩; have HB2 : Hid (Below W1.heap.size W1 w2) := hb; clear hb)
  have HBw2 : Hid (Below w.heap.size w w2) := HB1.out.trans (HB2.out.mono HB1.out.size)
  have HX2 : Hid (w2.heap[X]? = some (.cells #[.int .i64 f.kind, .int .i64 f.fr, .slice va vn vc, .slice oa on oc, .int .i64 f.next] 25)) := (HB2.out.block X (Array.getElem?_eq_some_iff.1 HX1.out).1).trans HX1.out
  obtain ⟨⟨x0, x1, x2, x3, x4⟩, _⟩ := cells5 HX2.out
  go_upto_region 3 with (go_at_call 12
                         refine (HCUT.out _ HBw2.out).mono ?_
                         rintro e w3 ⟨v', rfl, hat, hb⟩
                         obtain ⟨va', vn', vc', oa', on', oc', rfl, _⟩ := id hat
                         have HAT : Hid (FrAtD w3 (.agg #[.int .i64 (cutF f).kind, .int .i64 (cutF f).fr, .slice va' vn' vc', .slice oa' on' oc', .int .i64 (cutF f).next]) (cutF f) w2.heap.size) := hat
                         have HB3 : Hid (Below w2.heap.size w2 w3) := hb
                         have HX3 : Hid (w3.heap[X]? = some (.cells #[.int .i64 f.kind, .int .i64 f.fr, .slice va vn vc, .slice oa on oc, .int .i64 f.next] 25)) := (hb.block X (Array.getElem?_eq_some_iff.1 HX2.out).1).trans HX2.out
                         clear x0 x1 x2 x3 x4
                         obtain ⟨⟨x0, x1, x2, x3, x4⟩, z0, z1, z2, z3, z4⟩ := cells5 HX3.out
                         clear hat hb)
  obtain ⟨W4, hW4⟩ : ∃ W4, W4 = (((((w3.setCell ⟨X, 0, none⟩ (.int .i64 (cutF f).kind)).setCell ⟨X, 1, none⟩ (.int .i64 (cutF f).fr)).setCell ⟨X, 2, none⟩ (.slice va' vn' vc')).setCell ⟨X, 3, none⟩ (.slice oa' on' oc')).setCell ⟨X, 4, none⟩ (.int .i64 (cutF f).next)) := ⟨_, rfl⟩
  clear x0 x1 x2 x3 x4 z0 z1 z2 z3 z4
  simp only [← hW4]
  have hs4 := set5g HX3.out (.int .i64 (cutF f).kind) (.int .i64 (cutF f).fr) (.slice va' vn' vc') (.slice oa' on' oc') (.int .i64 (cutF f).next)
  rw [← hW4] at hs4
  have hlt : X < w2.heap.size := (Array.getElem?_eq_some_iff.1 HX2.out).1
  have hatf : FrAtD W4 (.agg #[.int .i64 (cutF f).kind, .int .i64 (cutF f).fr, .slice va' vn' vc', .slice oa' on' oc', .int .i64 (cutF f).next]) (cutF f) w2.heap.size := HAT.out.cg hs4.1 (fun j hj e => by omega)
  have HTF : Hid (∀ W, Below W4.heap.size W4 W → FrAt W (.agg #[.int .i64 (cutF f).kind, .int .i64 (cutF f).fr, .slice va' vn' vc', .slice oa' on' oc', .int .i64 (cutF f).next]) (cutF f)) := fun W h => hatf.at.later h
  have HBw4 : Hid (Below w.heap.size w W4) := (HBw2.out.trans (HB3.out.mono HBw2.out.size)).trans (cg_bel hs4.1 (HBw2.out.trans (HB3.out.mono HBw2.out.size)).size (fun j hj => by have := HXE.out; omega))
  have HKK : Hid (∀ W, Below W4.heap.size W4 W → W.heap[X]? = some (.cells #[.int .i64 (cutF f).kind, .int .i64 (cutF f).fr, .slice va' vn' vc', .slice oa' on' oc', .int .i64 (cutF f).next] 25)) := fun W h => (h.block X (Array.getElem?_eq_some_iff.1 hs4.2).1).trans hs4.2
  obtain ⟨⟨x0, x1, x2, x3, x4⟩, _⟩ := cells5 (HKK.out W4 (Below.refl _ _))
  have HFX : Hid (∀ W, Below w.heap.size w W4 → Below W4.heap.size W4 W → Below w.heap.size w W) := fun W h1 h2 => h1.trans (h2.mono h1.size)
  clear hW4 hs4 hlt hatf HCUT HX1 HX2 HX3 HAT
  have HRT : Hid (∀ W, Below W4.heap.size W4 W → Calls Try.prog 16 #[(.agg #[.int .i64 (cutF f).kind, .int .i64 (cutF f).fr, .slice va' vn' vc', .slice oa' on' oc', .int .i64 (cutF f).next])] W fun e w' => e = .returned (.bool (frB (cutF f))) ∧ Below W.heap.size W w') := fun W h => frRight_any (cutF f) _ W (HTF.out W h) (by have := cutF_len f; omega) (by have := cutF_len f; omega)
  cases hfb : frB (cutF f)
  · have HFB : Hid (frB (cutF f) = false) := hfb
    rw [hfb] at HRT
    clear hfb
    go_upto_region 4 with (go_at_call 13; refine (c_bytes f _ _ (HTF.out _ (Below.refl W4.heap.size W4))).mono ?_; rintro e w5 ⟨h1, h2, hb⟩; obtain rfl := h2 HFB.out; have HBB5 : Hid (Below W4.heap.size W4 w5) := hb; clear h1 h2 hb x0 x1 x2 x3 x4)
    obtain ⟨⟨x0, x1, x2, x3, x4⟩, _⟩ := cells5 (HKK.out _ HBB5.out)
    go_wp2_with (go_at_call 16; refine (HRT.out _ HBB5.out).mono ?_; rintro e w6 ⟨rfl, hb⟩; have HBB6 : Hid (Below W4.heap.size W4 w6) := HBB5.out.trans (hb.mono HBB5.out.size); clear hb x0 x1 x2 x3 x4)
    go_ret
    exact ⟨rfl, HFX.out _ HBw4.out HBB6.out⟩
  · have HFB : Hid (frB (cutF f) = true) := hfb
    rw [hfb] at HRT
    clear hfb
    have hmn := bytes_min f
    have hmx := bytes_len f
    have HBY : Hid (Byt (bytesN (cutF f))) := bytes_byt f HFB.out
    have HOS : Hid (ofN (bytesN (cutF f)) = some (cutF f)) := of_back _ HFB.out (cut_ok f HFB.out) (body_len f)
    have HCN : Hid (∀ k, k < (bytesN (cutF f)).length → ofN ((bytesN (cutF f)).take k) = none) := cut_none f HFB.out
    have HMN : Hid (ofN (bytesN (cutF f) ++ [t]) = none) := more_none f t
    have HTN : Hid (∀ k, k < (bytesN (cutF f)).length → ∀ y, 0 ≤ y ∧ y ≤ 255 → y ≠ (bytesN (cutF f)).getD k 0 → ofN ((bytesN (cutF f)).set k y) = none) := turn_none f HFB.out
    obtain ⟨r, hr⟩ : ∃ r : Nat, bits .and .i64 pp 65535 = (r : Int) := ⟨(pp % 2 ^ 16).toNat, by rw [and_low pp 65535 16 (by omega) (by decide)]; omega⟩
    obtain ⟨L, hL⟩ : ∃ L, L = (bytesN (cutF f)).length := ⟨_, rfl⟩
    obtain ⟨k, hk⟩ : ∃ k, k = r % L := ⟨_, rfl⟩
    have hkL : k < L := by rw [hk]; exact Nat.mod_lt _ (by omega)
    have hrem : (r : Int).tmod (L : Int) = (k : Int) := by rw [Int.tmod_eq_emod_of_nonneg (by omega), hk]; simp
    have hrem2 : (r : Int) % (L : Int) = (k : Int) := by rw [hk]; simp
    have hL0 : (L : Int) ≠ 0 := by omega
    rw [← hL] at hmn hmx HCN HTN
    have HLE : Hid ((bytesN (cutF f)).length = L) := hL.symm
    have HREM : Hid ((r : Int).tmod (L : Int) = (k : Int) ∧ (r : Int) % (L : Int) = (k : Int) ∧ (L : Int) ≠ 0) := ⟨hrem, hrem2, hL0⟩
    have HR : Hid (bits .and .i64 pp 65535 = (r : Int)) := hr
    have hL5 : L ≤ 100000 := by omega
    clear hk hrem hrem2 hL0 hr
    go_upto_region 4 with (go_at_call 13; refine (c_bytes f _ _ (HTF.out _ (Below.refl W4.heap.size W4))).mono ?_; rintro e w5 ⟨h1, h2, hb⟩; obtain ⟨a5, c5, rfl, hc, hm, hr5⟩ := h1 HFB.out; rw [← hL] at hc hr5; rw [← hL]; have HR5 : Hid (Rd .u8 w5 a5 L (bytesN (cutF f))) := hr5; have HC5 : Hid (L ≤ c5) := hc; have HBB5 : Hid (Below W4.heap.size W4 w5) := hb; clear h1 h2 hb hc hm hr5 hL x0 x1 x2 x3 x4)
    generalize bytesN (cutF f) = Bs at *
    obtain ⟨⟨x0, x1, x2, x3, x4⟩, _⟩ := cells5 (HKK.out _ HBB5.out)
    go_upto_region 6 with (go_at_call 16; refine (HRT.out _ HBB5.out).mono ?_; rintro e w6 ⟨rfl, hb⟩; have HB56 : Hid (Below w5.heap.size w5 w6) := hb; have HBB6 : Hid (Below W4.heap.size W4 w6) := HBB5.out.trans (hb.mono HBB5.out.size); clear hb x0 x1 x2 x3 x4)
    go_upto_region 7 with (go_at_call 20
                           refine (frOf_any Bs a5 L c5 _ HBY.out (HR5.out.later HB56.out) HC5.out hL5).mono ?_
                           rintro e w8 ⟨hb, -, h1⟩
                           obtain ⟨v8, rfl, hat⟩ := h1 _ HOS.out
                           obtain ⟨pa, pn, pc, ra, rn, rc, rfl, _⟩ := id hat
                           have HB8 : Hid (Below w6.heap.size w6 w8) := hb
                           have HAT8 : Hid (FrAt w8 (.agg #[.int .i64 (cutF f).kind, .int .i64 (cutF f).fr, .slice pa pn pc, .slice ra rn rc, .int .i64 (cutF f).next]) (cutF f)) := hat
                           clear hb h1 hat)
    obtain ⟨W9, hW9⟩ : ∃ W9, W9 = w8.alloc (.cells #[.int .i64 (cutF f).kind, .int .i64 (cutF f).fr, .slice pa pn pc, .slice ra rn rc, .int .i64 (cutF f).next] 25) := ⟨_, rfl⟩
    have HB89 : Hid (Below w8.heap.size w8 W9) := by show Below _ _ _; rw [hW9]; exact (Below.refl _ _).alloc (Nat.le_refl _) _
    have hv9 : W9.heap[w8.heap.size]? = some (.cells #[.int .i64 (cutF f).kind, .int .i64 (cutF f).fr, .slice pa pn pc, .slice ra rn rc, .int .i64 (cutF f).next] 25) := by rw [hW9]; exact heap_alloc_new w8 _
    obtain ⟨V, hV⟩ : ∃ V, V = w8.heap.size := ⟨_, rfl⟩
    have HVE : Hid (V = w8.heap.size) := hV
    rw [← hV] at hv9
    have HB59 : Hid (Below w5.heap.size w5 W9) := HB56.out.trans ((HB8.out.trans (HB89.out.mono HB8.out.size)).mono HB56.out.size)
    have HBB9 : Hid (Below W4.heap.size W4 W9) := HBB5.out.trans (HB59.out.mono HBB5.out.size)
    obtain ⟨⟨y0, y1, y2, y3, y4⟩, _⟩ := cells5 hv9
    obtain ⟨⟨x0, x1, x2, x3, x4⟩, _⟩ := cells5 (HKK.out _ HBB9.out)
    simp only [← hW9, ← HVE.out]
    clear hW9 hV hv9
    go_upto_region 8 with (go_at_call 15
                           refine (refSame_any (cutF f) (cutF f) _ _ _ (HAT8.out.later HB89.out) (HTF.out _ HBB9.out) (by have := cutF_len f; omega) (by have := cutF_len f; omega) true (by simp)).mono ?_
                           rintro e w10 ⟨rfl, hb⟩
                           have HB5a : Hid (Below w5.heap.size w5 w10) := HB59.out.trans (hb.mono HB59.out.size)
                           clear hb x0 x1 x2 x3 x4 y0 y1 y2 y3 y4)
    have hL12 : ¬ (L : Int) < 12 := by omega
    have hkc : k ≤ c5 := by have := HC5.out; omega
    have hct := fun W => cut_bytes a5 L c5 k hkc W
    clear HAT8 HRT
    have hr := HR.out
    obtain ⟨hrem, hrem2, hL0⟩ := HREM.out
    go_upto_region 11 with fail
    clear hr hrem hrem2 hL0
    go_upto_region 12 with (go_at_call 20
                            refine (of_no (Bs.take k) a5 k c5 _ (HCN.out k hkL) (HBY.out.take k) ((HR5.out.later HB5a.out).take k (by omega)) hkc (by omega)).mono ?_
                            rintro e w11 ⟨rfl, hb⟩
                            have HB5b : Hid (Below w5.heap.size w5 w11) := HB5a.out.trans (hb.mono HB5a.out.size)
                            clear hb)
    obtain ⟨W12, hW12⟩ : ∃ W12, W12 = w11.alloc (.cells #[.int .i64 0, .int .i64 0, .slice none 0 0, .slice none 0 0, .int .i64 0] 25) := ⟨_, rfl⟩
    have HB5c : Hid (Below w5.heap.size w5 W12) := by show Below _ _ _; rw [hW12]; exact HB5b.out.alloc HB5b.out.size _
    simp only [← hW12]
    clear hW12 hct
    have hao := own_u8 W12
    have HAO : Hid ((W12.alloc (.cells #[] 5)).ownsRow W12.heap.size 5 1 (.slice (some ⟨W12.heap.size, 0, none⟩) 0 0) 0 (([] : List Int).map (Value.int .u8))) := hao
    have HBA : Hid (Below W12.heap.size W12 (W12.alloc (.cells #[] 5))) := (Below.refl _ _).alloc (Nat.le_refl _) _
    have HN5 : Hid (a5 = none → c5 = 0) := fun e => by obtain ⟨b, off, h, _⟩ := HR5.out.2 (by omega); rw [e] at h; cases h
    clear hao
    go_upto_region 13 with (at_builtin; refine wpList_append_rd rfl (.tmp 77) (.tmp 78) 28 rfl W12.heap.size 5 i0 (.int .u8 0) 1 Try.underlying28 hi0 hz0 hz1 hz2 rfl _ 0 _ rfl HAO.out a5 L c5 .u8 Bs rfl (HR5.out.later (HB5c.out.trans (HBA.out.mono HB5c.out.size))) HN5.out (by unfold maxLen; omega) (by omega) HBA.out.size ?_)
    intro v12 w13 o12 g12
    have HB12 : Hid (Below W12.heap.size W12 w13) := HBA.out.grown g12 HBA.out.size (fun j hj => by cases hj; exact Nat.le_refl _)
    have HO12 : Hid (w13.ownsRow W12.heap.size 5 1 v12 L (Bs.map (Value.int .u8))) := by
      show World.ownsRow _ _ _ _ _ _ _
      simpa using o12
    have HB5d : Hid (Below w5.heap.size w5 w13) := HB5c.out.trans (HB12.out.mono HB5c.out.size)
    clear o12 g12 HAO HBA
    obtain ⟨W14, hW14⟩ : ∃ W14, W14 = w13.alloc (.cells #[.int .u8 t] 5) := ⟨_, rfl⟩
    have HBx : Hid (Below w13.heap.size w13 W14) := by show Below _ _ _; rw [hW14]; exact (Below.refl _ _).alloc (Nat.le_refl _) _
    have hn14 : W14.heap[w13.heap.size]? = some (.cells #[.int .u8 t] 5) := by rw [hW14]; exact heap_alloc_new w13 _
    have HN14 : Hid (∀ (j : Nat) (u : Value), [Value.int .u8 t][j]? = some u → (w13.alloc (.cells #[.int .u8 t] 5)).cell? ((⟨w13.heap.size, 0, none⟩ : Addr).add j) = some u) := news_pre (heap_alloc_new w13 _) rfl
    have HOX : Hid ((w13.alloc (.cells #[.int .u8 t] 5)).ownsRow W12.heap.size 5 1 v12 L (Bs.map (Value.int .u8))) := HO12.out.alloc _
    have HZX : Hid (W12.heap.size ≤ (w13.alloc (.cells #[.int .u8 t] 5)).heap.size) := Nat.le_trans HB12.out.size (by simp)
    have HBy : Hid (Below w13.heap.size w13 (w13.alloc (.cells #[.int .u8 t] 5))) := (Below.refl _ _).alloc (Nat.le_refl _) _
    clear hW14 hn14 HBx
    go_upto_region 14 with (first
      | (go_at_call 20
         refine (of_no (Bs ++ [t]) a15 (L + 1) c15 _ HMN.out (HBY.out.app (fun y hy => by simp at hy; omega)) HR15.out HC15.out (by omega)).mono ?_
         rintro e w16 ⟨rfl, hb⟩
         have HB5f : Hid (Below w5.heap.size w5 w16) := HB5e.out.trans (hb.mono HB5e.out.size)
         clear hb)
      | (at_builtin
         refine wpList_append_own _ rfl (.tmp 81) (.tmp 83) 28 rfl W12.heap.size 5 i0 (.int .u8 0) 1 1 Try.underlying28 hi0 hz0 hz1 hz2 rfl (by decide) _ _ _ rfl HOX.out ⟨w13.heap.size, 0, none⟩ 1 1 [.int .u8 t] rfl rfl HN14.out (by simp [Value.oneCell']) (by unfold maxLen; omega) (by omega) HZX.out ?_
         intro v15 w15 o15 g15 _
         have HBz : Hid (Below W12.heap.size W12 w15) := (HB12.out.trans (HBy.out.mono HB12.out.size)).grown g15 HZX.out (fun j hj => (HOX.out.lt j hj).1)
         have HB5e : Hid (Below w5.heap.size w5 w15) := HB5c.out.trans (HBz.out.mono HB5c.out.size)
         have ho15 : w15.ownsRow W12.heap.size 5 1 v15 (L + 1) ((Bs ++ [t]).map (Value.int .u8)) := by rw [List.map_append]; exact o15
         obtain ⟨a15, c15, rfl, hc15, _, hr15, _⟩ := rd_own2 ho15
         have HR15 : Hid (Rd .u8 w15 a15 (L + 1) (Bs ++ [t])) := hr15
         have HC15 : Hid (L + 1 ≤ c15) := hc15
         clear o15 g15 ho15 hc15 hr15))
    obtain ⟨W17, hW17⟩ : ∃ W17, W17 = w16.alloc (.cells #[.int .i64 0, .int .i64 0, .slice none 0 0, .slice none 0 0, .int .i64 0] 25) := ⟨_, rfl⟩
    have HB5g : Hid (Below w5.heap.size w5 W17) := by show Below _ _ _; rw [hW17]; exact HB5f.out.alloc HB5f.out.size _
    simp only [← hW17]
    clear hW17 HOX HN14 HZX HBy
    have hao := own_u8 W17
    have HAO : Hid ((W17.alloc (.cells #[] 5)).ownsRow W17.heap.size 5 1 (.slice (some ⟨W17.heap.size, 0, none⟩) 0 0) 0 (([] : List Int).map (Value.int .u8))) := hao
    have HBA : Hid (Below W17.heap.size W17 (W17.alloc (.cells #[] 5))) := (Below.refl _ _).alloc (Nat.le_refl _) _
    clear hao
    go_upto_region 17 with (at_builtin; refine wpList_append_rd rfl (.tmp 94) (.tmp 95) 28 rfl W17.heap.size 5 i0 (.int .u8 0) 1 Try.underlying28 hi0 hz0 hz1 hz2 rfl _ 0 _ rfl HAO.out a5 L c5 .u8 Bs rfl (HR5.out.later (HB5g.out.trans (HBA.out.mono HB5g.out.size))) HN5.out (by unfold maxLen; omega) (by omega) HBA.out.size ?_)
    intro v18 w18 o18 g18
    have HB18 : Hid (Below W17.heap.size W17 w18) := HBA.out.grown g18 HBA.out.size (fun j hj => by cases hj; exact Nat.le_refl _)
    have ho18 : w18.ownsRow W17.heap.size 5 1 v18 L (Bs.map (Value.int .u8)) := by simpa using o18
    obtain ⟨g, c18, cur, rfl, hc18, hBg, hg18, hr18⟩ := own_cells ho18 (by omega)
    have HB5h : Hid (Below w5.heap.size w5 w18) := HB5g.out.trans (HB18.out.mono HB5g.out.size)
    clear o18 g18 ho18 HAO HBA
    obtain ⟨_, _, e18, hcell⟩ := hr18.2 (by omega)
    cases e18
    have hck := hcell k hkL
    rw [Nat.zero_add] at hck
    have hfk : w18.frozen? ⟨g, k, none⟩ = false := Lib.frozen_of_heap hg18 _
    have hxr := HBY.out (Bs.getD k 0) (by have := HLE.out; simp [show k < Bs.length by omega])
    obtain ⟨x, hx⟩ : ∃ x, x = Bs.getD k 0 := ⟨_, rfl⟩
    rw [← hx] at hck hxr
    obtain ⟨y, hy⟩ : ∃ y, bits .xor .u8 x t = y := ⟨_, rfl⟩
    have hyn : y = ((x.toNat ^^^ t.toNat : Nat) : Int) := by
      rw [← hy, ← u8_xor_nat x.toNat t.toNat (by omega) (by omega)]
      congr 1 <;> omega
    have hxl : x.toNat ^^^ t.toNat < 2 ^ 8 := Nat.xor_lt_two_pow (by omega) (by omega)
    have HYR : Hid (0 ≤ y ∧ y ≤ 255) := ⟨by omega, by omega⟩
    have HXY : Hid (y = x ↔ t = 0) := by
      show y = x ↔ t = 0
      rw [hyn]
      constructor
      · intro h
        have h2 : x.toNat ^^^ t.toNat = x.toNat := by omega
        have h3 := congrArg (fun q => x.toNat ^^^ q) h2
        simp only [Nat.xor_self] at h3
        rw [← Nat.xor_assoc, Nat.xor_self, Nat.zero_xor] at h3
        omega
      · rintro rfl
        simp
        omega
    have HXE2 : Hid (x = Bs.getD k 0) := hx
    have HSET : Hid (∀ W, W = w18.setCell ⟨g, k, none⟩ (.int .u8 y) → Rd .u8 W (some ⟨g, 0, none⟩) L (Bs.set k y) ∧ Below w5.heap.size w5 W) := by
      rintro W rfl
      refine ⟨rd_set hg18 hr18 k hkL y, HB5h.out.trans (cg_bel (cg_set w18 g k _) HB5h.out.size (fun j hj => ?_))⟩
      have h1 := HB5g.out.size
      omega
    have HC18 : Hid (L ≤ c18) := hc18
    have hk0 : (0 : Int) ≤ (k : Int) := by omega
    have hk1 : (k : Int) < (L : Int) := by omega
    clear hcell hg18 hr18 hBg hx hyn hxl hc18
    go_upto_region 18 with fail
    obtain ⟨W19, hW19⟩ : ∃ W19, W19 = w18.setCell ⟨g, k, none⟩ (.int .u8 y) := ⟨_, rfl⟩
    obtain ⟨hrs, hbs⟩ := HSET.out W19 hW19
    have HRS : Hid (Rd .u8 W19 (some ⟨g, 0, none⟩) L (Bs.set k y)) := hrs
    have HBS : Hid (Below w5.heap.size w5 W19) := hbs
    have HBST : Hid (Byt (Bs.set k y)) := fun q hq => by
      rcases List.mem_or_eq_of_mem_set hq with h | h
      · exact HBY.out q h
      · rw [h]; exact HYR.out
    simp only [← hW19]
    clear hW19 hrs hbs hck hfk HSET hy hk0 hk1
    by_cases ht : t = 0
    · have hyx : y = x := HXY.out.2 ht
      have HOT : Hid (ofN (Bs.set k y) = some (cutF f)) := by show _ = _; rw [hyx, HXE2.out, set_same Bs k (by have := HLE.out; omega)]; exact HOS.out
      subst ht
      clear hyx hxr
      go_wp2_with (go_at_call 20
                   refine (frOf_any (Bs.set k y) (some ⟨g, 0, none⟩) L c18 _ HBST.out HRS.out HC18.out hL5).mono ?_
                   rintro e w20 ⟨hb, -, h1⟩
                   obtain ⟨v20, rfl, hat⟩ := h1 _ HOT.out
                   obtain ⟨qa, qn, qc, sa, sn, sc, rfl, _⟩ := id hat
                   have HB20 : Hid (Below w5.heap.size w5 w20) := HBS.out.trans (hb.mono HBS.out.size)
                   clear hb h1 hat)
      go_ret
      exact ⟨rfl, HFX.out _ HBw4.out (HBB5.out.trans ((HB20.out.alloc HB20.out.size _).mono HBB5.out.size))⟩
    · have HOT : Hid (ofN (Bs.set k y) = none) := HTN.out k hkL y HYR.out (fun h => ht (HXY.out.1 (by rw [HXE2.out]; exact h)))
      clear hxr
      go_upto_region 19 with (go_at_call 20
                              refine (of_no (Bs.set k y) (some ⟨g, 0, none⟩) L c18 _ HOT.out HBST.out HRS.out HC18.out hL5).mono ?_
                              rintro e w20 ⟨rfl, hb⟩
                              have HB20 : Hid (Below w5.heap.size w5 w20) := HBS.out.trans (hb.mono HBS.out.size)
                              clear hb)
      obtain ⟨W21, hW21⟩ : ∃ W21, W21 = w20.alloc (.cells #[.int .i64 0, .int .i64 0, .slice none 0 0, .slice none 0 0, .int .i64 0] 25) := ⟨_, rfl⟩
      have HB21 : Hid (Below w5.heap.size w5 W21) := by show Below _ _ _; rw [hW21]; exact HB20.out.alloc HB20.out.size _
      have hz21 : W21.heap[w20.heap.size]? = some (.cells #[.int .i64 0, .int .i64 0, .slice none 0 0, .slice none 0 0, .int .i64 0] 25) := by rw [hW21]; exact heap_alloc_new w20 _
      obtain ⟨Q, hQ⟩ : ∃ Q, Q = w20.heap.size := ⟨_, rfl⟩
      have HQE : Hid (Q = w20.heap.size) := hQ
      rw [← hQ] at hz21
      obtain ⟨⟨y0, y1, y2, y3, y4⟩, _⟩ := cells5 hz21
      simp only [← hW21, ← HQE.out]
      clear hW21 hQ hz21
      go_wp2
      go_ret
      exact ⟨rfl, HFX.out _ HBw4.out (HBB5.out.trans (HB21.out.mono HBB5.out.size))⟩
end Go.Proofs.Ytohkdlgckepfgaa
