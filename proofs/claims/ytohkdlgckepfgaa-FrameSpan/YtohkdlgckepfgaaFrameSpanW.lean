/- The walk of FrameSpan. -/
import Derived.Test.YtohkdlgckepfgaaFrameBackW
namespace Go.Proofs.Ytohkdlgckepfgaa
open Go.RowKit
set_option linter.unusedVariables false
set_option linter.unusedSimpArgs false

theorem srcU8 {w : World} {a : Option Addr} {m c : Nat} {xs : List Int} (h : Rd .u8 w a m xs) (hn : a = none → c = 0) : SrcAt w a m c 1 (xs.map (Value.int .u8)) := by
  refine ⟨by rw [List.length_map, h.1]; omega, fun e => ⟨?_, hn e⟩, fun y e => ?_, by simp [Value.oneCell']⟩
  · rcases Nat.eq_zero_or_pos m with h0 | h0
    · exact h0
    · obtain ⟨b, off, hb, _⟩ := h.2 h0; rw [e] at hb; cases hb
  · subst e
    exact rd_news h
theorem cutC_none (f : Frm) (hf : frB (cutF f) = true) (k : Nat) (hk : k < (bytesN (cutF f)).length) : oaN ((bytesN (cutF f)).take k) = ([], 0, false) := by
  unfold oaN
  rw [show bytesN (cutF f) = wrapN (bodyN (cutF f)) from rfl] at hk ⊢
  rw [opn_cut _ k (bodyN_byt _ (cut_ok f hf)) (body_len f) hk]
theorem cutC_more (f : Frm) (more : List Int) : oaN (bytesN (cutF f) ++ more) = (bodyN (cutF f), ((bytesN (cutF f)).length : Int), true) := by
  unfold oaN
  rw [show bytesN (cutF f) = wrapN (bodyN (cutF f)) from rfl, opn_wrap _ more (body_len f)]
set_option maxRecDepth 100000 in
set_option maxHeartbeats 8000000 in
theorem frameSpan_walk (f : Frm) (fv : Value) (xs : List Int) (a : Option Addr) (len cap : Nat) (w : World) (hf : FrAtC w fv f) (hrd : Rd .u8 w a len xs) (hby : Byt xs) (hcap : len ≤ cap) (hnone : a = none → cap = 0) :
    Calls Try.prog 9 #[fv, .slice a len cap] w fun e w' => e = .returned (.bool true) ∧ Below w.heap.size w w' := by
  obtain ⟨i0, hi0, hz0, hz1, hz2⟩ := info_parts info_u8
  obtain ⟨q, hq⟩ : ∃ q, q = min len 30 := ⟨_, rfl⟩
  have hmin := min_run len q 30 (by omega)
  have hct := fun W => cut_bytes a len cap q (by omega) W
  have hq2 : q ≤ 30 := by omega
  have HCB : Hid (Byt (xs.take q)) := hby.take q
  have HRD : Hid (∀ W, Below w.heap.size w W → Rd .u8 W a q (xs.take q)) := fun W h => (hrd.later h).take q (by omega)
  have hqc : q ≤ cap := by omega
  have HNN : Hid (a = none → cap = 0) := hnone
  generalize xs.take q = ms at HCB HRD
  clear hrd hby hcap hq hnone
  have HCUT : Hid (∀ W, Below w.heap.size w W → Calls Try.prog 12 #[fv] W fun e w' => ∃ v', e = .returned v' ∧ FrAtD w' v' (cutF f) W.heap.size ∧ Below W.heap.size W w') := fun W h => cut_any f fv W (hf.later h)
  obtain ⟨va, vn, vc, oa, on, oc, rfl, _⟩ := hf
  obtain ⟨W1, hW1⟩ : ∃ W1, W1 = w.alloc (.cells #[.int .i64 f.kind, .int .i64 f.fr, .slice va vn vc, .slice oa on oc, .int .i64 f.next] 25) := ⟨_, rfl⟩
  have HB1 : Hid (Below w.heap.size w W1) := by show Below _ _ _; rw [hW1]; exact (Below.refl _ w).alloc (Nat.le_refl _) _
  have hx : W1.heap[w.heap.size]? = some (.cells #[.int .i64 f.kind, .int .i64 f.fr, .slice va vn vc, .slice oa on oc, .int .i64 f.next] 25) := by rw [hW1]; exact heap_alloc_new w _
  obtain ⟨X, hX⟩ : ∃ X, X = w.heap.size := ⟨_, rfl⟩
  have HXE : Hid (X = w.heap.size) := hX
  rw [← hX] at hx
  have HX1 : Hid (W1.heap[X]? = some (.cells #[.int .i64 f.kind, .int .i64 f.fr, .slice va vn vc, .slice oa on oc, .int .i64 f.next] 25)) := hx
  clear hx hX
  go_enter Try.func9, Try.ntmps9
  go_upto_region 1 with fail
  simp only [← hW1, ← HXE.out]
  clear hW1
  go_upto_region 2 with (go_at_call 11; refine (shown15_any _).mono ?_; rintro e w2 ⟨rfl, hb⟩; have HB2 : Hid (Below W1.heap.size W1 w2) := hb; clear hb)
  have HBw2 : Hid (Below w.heap.size w w2) := HB1.out.trans (HB2.out.mono HB1.out.size)
  have HX2 : Hid (w2.heap[X]? = some (.cells #[.int .i64 f.kind, .int .i64 f.fr, .slice va vn vc, .slice oa on oc, .int .i64 f.next] 25)) := (HB2.out.block X (Array.getElem?_eq_some_iff.1 HX1.out).1).trans HX1.out
  obtain ⟨⟨x0, x1, x2, x3, x4⟩, _⟩ := cells5 HX2.out
  go_upto_region 3 with (go_at_call 12
                         refine (HCUT.out _ HBw2.out).mono ?_
                         rintro e w3 ⟨v', rfl, hat, hb⟩
                         obtain ⟨va', vn', vc', oa', on', oc', rfl, _⟩ := id hat
                         have HAT : Hid (FrAtD w3 (.agg #[.int .i64 (cutF f).kind, .int .i64 (cutF f).fr, .slice va' vn' vc', .slice oa' on' oc', .int .i64 (cutF f).next]) (cutF f) w2.heap.size) := hat
                         have HB3 : Hid (Below w2.heap.size w2 w3) := hb
                         have HX3 : Hid (w3.heap[X]? = some (.cells #[.int .i64 f.kind, .int .i64 f.fr, .slice va vn vc, .slice oa on oc, .int .i64 f.next] 25)) := (hb.block X (Array.getElem?_eq_some_iff.1 HX2.out).1).trans HX2.out
                         clear x0 x1 x2 x3 x4
                         obtain ⟨⟨x0, x1, x2, x3, x4⟩, z0, z1, z2, z3, z4⟩ := cells5 HX3.out
                         clear hat hb)
  obtain ⟨W4, hW4⟩ : ∃ W4, W4 = (((((w3.setCell ⟨X, 0, none⟩ (.int .i64 (cutF f).kind)).setCell ⟨X, 1, none⟩ (.int .i64 (cutF f).fr)).setCell ⟨X, 2, none⟩ (.slice va' vn' vc')).setCell ⟨X, 3, none⟩ (.slice oa' on' oc')).setCell ⟨X, 4, none⟩ (.int .i64 (cutF f).next)) := ⟨_, rfl⟩
  clear x0 x1 x2 x3 x4 z0 z1 z2 z3 z4
  simp only [← hW4]
  have hs4 := set5g HX3.out (.int .i64 (cutF f).kind) (.int .i64 (cutF f).fr) (.slice va' vn' vc') (.slice oa' on' oc') (.int .i64 (cutF f).next)
  rw [← hW4] at hs4
  have hlt : X < w2.heap.size := (Array.getElem?_eq_some_iff.1 HX2.out).1
  have hatf : FrAtD W4 (.agg #[.int .i64 (cutF f).kind, .int .i64 (cutF f).fr, .slice va' vn' vc', .slice oa' on' oc', .int .i64 (cutF f).next]) (cutF f) w2.heap.size := HAT.out.cg hs4.1 (fun j hj e => by omega)
  have HTF : Hid (∀ W, Below W4.heap.size W4 W → FrAt W (.agg #[.int .i64 (cutF f).kind, .int .i64 (cutF f).fr, .slice va' vn' vc', .slice oa' on' oc', .int .i64 (cutF f).next]) (cutF f)) := fun W h => hatf.at.later h
  have HBw4 : Hid (Below w.heap.size w W4) := (HBw2.out.trans (HB3.out.mono HBw2.out.size)).trans (cg_bel hs4.1 (HBw2.out.trans (HB3.out.mono HBw2.out.size)).size (fun j hj => by have := HXE.out; omega))
  have HKK : Hid (∀ W, Below W4.heap.size W4 W → W.heap[X]? = some (.cells #[.int .i64 (cutF f).kind, .int .i64 (cutF f).fr, .slice va' vn' vc', .slice oa' on' oc', .int .i64 (cutF f).next] 25)) := fun W h => (h.block X (Array.getElem?_eq_some_iff.1 hs4.2).1).trans hs4.2
  obtain ⟨⟨x0, x1, x2, x3, x4⟩, _⟩ := cells5 (HKK.out W4 (Below.refl _ _))
  have HFX : Hid (∀ W, Below w.heap.size w W4 → Below W4.heap.size W4 W → Below w.heap.size w W) := fun W h1 h2 => h1.trans (h2.mono h1.size)
  clear hW4 hs4 hlt hatf HCUT HX1 HX2 HX3 HAT
  cases hfb : frB (cutF f)
  · have HFB : Hid (frB (cutF f) = false) := hfb
    clear hfb
    go_wp2_with (go_at_call 13; refine (c_bytes f _ _ (HTF.out _ (Below.refl W4.heap.size W4))).mono ?_; rintro e w5 ⟨h1, h2, hb⟩; obtain rfl := h2 HFB.out; have HBB5 : Hid (Below W4.heap.size W4 w5) := hb; clear h1 h2 hb x0 x1 x2 x3 x4)
    go_ret
    exact ⟨rfl, HFX.out _ HBw4.out HBB5.out⟩
  · have HFB : Hid (frB (cutF f) = true) := hfb
    clear hfb
    have hmn := bytes_min f
    have hmx := bytes_len f
    have HBY : Hid (Byt (bytesN (cutF f))) := bytes_byt f HFB.out
    have HCN : Hid (∀ k, k < (bytesN (cutF f)).length → oaN ((bytesN (cutF f)).take k) = ([], 0, false)) := cutC_none f HFB.out
    have HCM : Hid (∀ more, ∃ bo, oaN (bytesN (cutF f) ++ more) = (bo, ((bytesN (cutF f)).length : Int), true)) := fun more => ⟨_, cutC_more f more⟩
    obtain ⟨L, hL⟩ : ∃ L, L = (bytesN (cutF f)).length := ⟨_, rfl⟩
    rw [← hL] at hmn hmx HCN HCM
    have HLE : Hid ((bytesN (cutF f)).length = L) := hL.symm
    have hL5 : L ≤ 100000 := by omega
    go_upto_region 5 with (go_at_call 13; refine (c_bytes f _ _ (HTF.out _ (Below.refl W4.heap.size W4))).mono ?_; rintro e w5 ⟨h1, h2, hb⟩; obtain ⟨a5, c5, rfl, hc, hm, hr5⟩ := h1 HFB.out; rw [← hL] at hc hr5; rw [← hL]; have HR5 : Hid (Rd .u8 w5 a5 L (bytesN (cutF f))) := hr5; have HC5 : Hid (L ≤ c5) := hc; have HBB5 : Hid (Below W4.heap.size W4 w5) := hb; clear h1 h2 hb hc hm hr5 hL x0 x1 x2 x3 x4)
    generalize bytesN (cutF f) = Bs at *
    obtain ⟨D, hD⟩ : ∃ D : Nat, (L : Int).tdiv 50 = (D : Int) := ⟨L / 50, by rw [Int.tdiv_eq_ediv_of_nonneg (by omega)]; simp⟩
    have hD2 : (L : Int) / 50 = (D : Int) := by rw [← hD, Int.tdiv_eq_ediv_of_nonneg (by omega)]
    have hDl : D ≤ 100000 := by omega
    have hmax : ∀ W, (Builtin.max_ #[3, 3] 3 #[.int .i64 ((L : Int) - 1), .int .i64 0]).run Try.prog W = .ok (.int .i64 ((L - 1 : Nat) : Int)) W := fun W => by rw [max_run]; congr 2; omega
    obtain ⟨L1, hL1⟩ : ∃ L1, L1 = L - 1 := ⟨_, rfl⟩
    rw [← hL1] at hmax
    have hL1l : L1 < L := by omega
    have HMAX : Hid (∀ W, (Builtin.max_ #[3, 3] 3 #[.int .i64 ((L : Int) - 1), .int .i64 0]).run Try.prog W = .ok (.int .i64 (L1 : Int)) W) := hmax
    have HDD : Hid ((L : Int).tdiv 50 = (D : Int) ∧ (L : Int) / 50 = (D : Int)) := ⟨hD, hD2⟩
    have HCT : Hid (∀ k, k ≤ c5 → ∀ W, (Instr.slice 28 (.slice a5 L c5) none (some (.int .i64 (k : Int))) none).run Try.prog W = .ok (.slice a5 k c5) W) := fun k hk W => cut_bytes a5 L c5 k hk W
    clear hmax hL1 hD hD2
    go_wp2
    go_loopw [8] (fun x8 wr => ∃ i : Nat, x8 = .int .i64 (i : Int) ∧ i ≤ 200001 ∧ Below w5.heap.size w5 wr) (fun x8 _ => L - (RowKit.intOf x8).toNat)
    case atStart => exact ⟨0, rfl, by omega, Below.refl _ _⟩
    case round =>
      obtain ⟨i, hx, hi, hbr⟩ := hrel
      subst hx
      have HBR : Hid (Below w5.heap.size w5 wr) := hbr
      clear hbr
      by_cases hlt : i < L
      · have hct := HCT.out i (by have := HC5.out; omega)
        obtain ⟨hD, hD2⟩ := HDD.out
        go_wp2_with (go_at_call 21
                     refine (frCut_any (Bs.take i) a5 i c5 _ (HBY.out.take i) ((HR5.out.later HBR.out).take i (by omega)) (by have := HC5.out; omega) (by omega)).mono ?_
                     rw [HCN.out i hlt]
                     rintro e w6 ⟨rfl, hb⟩
                     have HB6 : Hid (Below w5.heap.size w5 w6) := HBR.out.trans (hb.mono HBR.out.size)
                     clear hb)
        go_roundw
        case rel => exact ⟨i + 1 + D, by go_num, by omega, HB6.out⟩
        case measure => simp [RowKit.intOf]; omega
      · have hmax := HMAX.out
        have hct := HCT.out L1 (by have := HC5.out; omega)
        go_wp2_with (go_at_call 21
                     refine (frCut_any (Bs.take L1) a5 L1 c5 _ (HBY.out.take L1) ((HR5.out.later HBR.out).take L1 (by omega)) (by have := HC5.out; omega) (by omega)).mono ?_
                     rw [HCN.out L1 hL1l]
                     rintro e w6 ⟨rfl, hb⟩
                     have HB6 : Hid (Below w5.heap.size w5 w6) := HBR.out.trans (hb.mono HBR.out.size)
                     clear hb)
        clear hmax hct
        go_loopw [13] (fun x13 wr2 => ∃ i : Nat, x13 = .int .i64 (i : Int) ∧ i ≤ q + 1 ∧ Below w5.heap.size w5 wr2) (fun x13 _ => q + 1 - (RowKit.intOf x13).toNat)
        case atStart => exact ⟨0, rfl, by omega, HB6.out⟩
        case round =>
          obtain ⟨i2, hx, hi2, hbr⟩ := hrel
          subst hx
          have HBR2 : Hid (Below w5.heap.size w5 wr) := hbr
          clear hbr
          by_cases hle : i2 ≤ q
          · have hct2 := fun W => cut_bytes a q cap i2 (by omega) W
            have HAO : Hid ((wr.drew.alloc (.cells #[] 5)).ownsRow wr.drew.heap.size 5 1 (.slice (some ⟨wr.drew.heap.size, 0, none⟩) 0 0) 0 (([] : List Int).map (Value.int .u8))) := own_u8 wr.drew
            have HBA : Hid (Below wr.drew.heap.size wr.drew (wr.drew.alloc (.cells #[] 5))) := (Below.refl _ _).alloc (Nat.le_refl _) _
            have HW2 : Hid (∀ W, Below w5.heap.size w5 W → Below w.heap.size w W) := fun W h => HFX.out W HBw4.out (HBB5.out.trans (h.mono HBB5.out.size))
            have HN5 : Hid (a5 = none → c5 = 0) := fun e => by obtain ⟨b, off, h, _⟩ := HR5.out.2 (by omega); rw [e] at h; cases h
            go_upto_region 17 with fail
            refine wp_region_any (by kernel_rfl) ?_
            try (change wpAny _ _ _ _ _ _ _ (World.drew _))
            refine wpAny_take (i := 1) (v := ?_) rfl (by kernel_rfl) (by kernel_rfl) (by kernel_rfl) (fun _ _ _ h => h) (Or.inl ⟨by rfl, ?_⟩) ?_
            rotate_left
            · intro W'
              go_simp
              try with_reducible rfl
            go_simp
            refine wpAny_take (i := 3) (v := ?_) rfl (by kernel_rfl) (by kernel_rfl) (by kernel_rfl) (fun _ _ _ h => h) (Or.inl ⟨by rfl, ?_⟩) ?_
            rotate_left
            · intro W'
              go_simp
              try with_reducible rfl
            go_simp
            refine wpAny_take (i := 4) (v := ?_) rfl (by kernel_rfl) (by kernel_rfl) (by kernel_rfl) (fun _ _ _ h => h) (Or.inl ⟨by rfl, ?_⟩) ?_
            rotate_left
            · intro W'
              go_simp
              try with_reducible rfl
            go_simp
            refine wpAny_take (i := 5) (v := ?_) rfl (by kernel_rfl) (by kernel_rfl) (by kernel_rfl) (fun _ _ _ h => h) (Or.inl ⟨by rfl, ?_⟩) ?_
            rotate_left
            · intro W'
              go_simp
              try with_reducible rfl
            go_simp
            refine wpAny_ready (rs := [0]) (by kernel_rfl) (by simp) ?_
            refine AllReady.cons rfl (fun K hK => ?_) AllReady.nil
            go_simp
            try refine hK _ _ ?_
            try clear hK K
            try simp only [Act.put, List.getElem_toArray, List.getElem_cons_succ, List.getElem_cons_zero, List.setIfInBounds_toArray, List.set_cons_zero, List.set_cons_succ]
            refine wpAny_ready (rs := [2]) (by kernel_rfl) (by simp) ?_
            refine AllReady.cons rfl (fun K hK => ?_) AllReady.nil
            refine step_append_src rfl (.tmp 71) (.tmp 72) 28 rfl wr.drew.heap.size 5 i0 (.int .u8 0) 1 1 Try.underlying28 hi0 hz0 hz1 hz2 rfl (by decide) (.slice (some ⟨wr.drew.heap.size, 0, none⟩) 0 0) 0 _ (by simp [Act.eval]) HAO.out a5 L c5 (Bs.map (Value.int .u8)) (by simp [Act.eval]) (srcU8 (HR5.out.later (HBR2.out.drew.trans (HBA.out.mono HBR2.out.drew.size))) HN5.out) (by unfold maxLen; omega) (by omega) HBA.out.size (fun v2 W2 o2 g2 => ?_)
            have HB2x : Hid (Below wr.drew.heap.size wr.drew W2) := HBA.out.grown g2 HBA.out.size (fun j hj => by cases hj; exact Nat.le_refl _)
            have HO2 : Hid (W2.ownsRow wr.drew.heap.size 5 1 v2 L (Bs.map (Value.int .u8))) := by
              show World.ownsRow _ _ _ _ _ _ _
              simpa using o2
            clear o2 g2
            refine hK _ _ ?_
            clear hK K
            try simp only [Act.put, List.getElem_toArray, List.getElem_cons_succ, List.getElem_cons_zero, List.setIfInBounds_toArray, List.set_cons_zero, List.set_cons_succ]
            refine wpAny_ready (rs := [6]) (by kernel_rfl) (by simp) ?_
            refine AllReady.cons rfl (fun K hK => ?_) AllReady.nil
            refine step_append_src rfl (.tmp 73) (.tmp 76) 28 rfl wr.drew.heap.size 5 i0 (.int .u8 0) 1 1 Try.underlying28 hi0 hz0 hz1 hz2 rfl (by decide) v2 L _ (by simp [Act.eval]) HO2.out a i2 cap ((ms.take i2).map (Value.int .u8)) (by simp [Act.eval]) (srcU8 (((HRD.out _ (HW2.out _ (HBR2.out.drew.trans (HB2x.out.mono HBR2.out.drew.size)))).take i2 hle)) HNN.out) (by unfold maxLen; omega) (by omega) HB2x.out.size (fun v3 W3 o3 g3 => ?_)
            have HB3x : Hid (Below wr.drew.heap.size wr.drew W3) := HB2x.out.grown g3 HB2x.out.size (fun j hj => (HO2.out.lt j hj).1)
            have ho3 : W3.ownsRow wr.drew.heap.size 5 1 v3 (L + i2) ((Bs ++ ms.take i2).map (Value.int .u8)) := by rw [List.map_append]; exact o3
            obtain ⟨a3, c3, rfl, hc3, _, hr3, _⟩ := rd_own2 ho3
            have HR3 : Hid (Rd .u8 W3 a3 (L + i2) (Bs ++ ms.take i2)) := hr3
            have HC3 : Hid (L + i2 ≤ c3) := hc3
            have HB5z : Hid (Below w5.heap.size w5 W3) := HBR2.out.drew.trans (HB3x.out.mono HBR2.out.drew.size)
            obtain ⟨bo, hbo⟩ := HCM.out (ms.take i2)
            have HBO : Hid (oaN (Bs ++ ms.take i2) = (bo, (L : Int), true)) := hbo
            clear o3 g3 ho3 hc3 hr3 hbo
            refine hK _ _ ?_
            clear hK K
            try simp only [Act.put, List.getElem_toArray, List.getElem_cons_succ, List.getElem_cons_zero, List.setIfInBounds_toArray, List.set_cons_zero, List.set_cons_succ]
            refine wpAny_ready (rs := [7]) (by kernel_rfl) (by simp) ?_
            refine AllReady.cons rfl (fun K hK => ?_) AllReady.nil
            go_simp
            go_wp2_with (go_at_call 21
                         refine (frCut_any (Bs ++ ms.take i2) a3 (L + i2) c3 _ (HBY.out.app (HCB.out.take i2)) HR3.out HC3.out (by omega)).mono ?_
                         rw [HBO.out]
                         rintro e w7 ⟨rfl, hb⟩
                         have HB7 : Hid (Below w5.heap.size w5 w7) := HB5z.out.trans (hb.mono HB5z.out.size)
                         clear hb)
            try refine hK _ _ ?_
            try clear hK K
            try simp only [Act.put, List.getElem_toArray, List.getElem_cons_succ, List.getElem_cons_zero, List.setIfInBounds_toArray, List.set_cons_zero, List.set_cons_succ]
            refine wpAny_take (i := 8) (v := ?_) rfl (by kernel_rfl) (by kernel_rfl) (by kernel_rfl) (fun _ _ _ h => h) (Or.inl ⟨by rfl, ?_⟩) ?_
            rotate_left
            · intro W'
              go_simp
              try with_reducible rfl
            go_simp
            refine wpAny_take (i := 9) (v := ?_) rfl (by kernel_rfl) (by kernel_rfl) (by kernel_rfl) (fun _ _ _ h => h) (Or.inl ⟨by rfl, ?_⟩) ?_
            rotate_left
            · intro W'
              go_simp
              try with_reducible rfl
            go_simp
            refine wpAny_take (i := 10) (v := ?_) rfl (by kernel_rfl) (by kernel_rfl) (by kernel_rfl) (fun _ _ _ h => h) (Or.inl ⟨by rfl, ?_⟩) ?_
            rotate_left
            · intro W'
              go_simp
              try with_reducible rfl
            go_simp
            refine wpAny_take (i := 11) (v := ?_) rfl (by kernel_rfl) (by kernel_rfl) (by kernel_rfl) (fun _ _ _ h => h) (Or.inl ⟨by rfl, ?_⟩) ?_
            rotate_left
            · intro W'
              go_simp
              try with_reducible rfl
            go_simp
            refine wpAny_take (i := 12) (v := ?_) rfl (by kernel_rfl) (by kernel_rfl) (by kernel_rfl) (fun _ _ _ h => h) (Or.inl ⟨by rfl, ?_⟩) ?_
            rotate_left
            · intro W'
              go_simp
              try with_reducible rfl
            go_simp
            refine wpAny_done (by kernel_rfl) ?_ _
            go_wp2
            go_roundw
            case rel => exact ⟨i2 + 1, by go_num, by omega, HB7.out⟩
            case measure => simp [RowKit.intOf]; omega
          · obtain rfl : i2 = q + 1 := by omega
            go_wp2
            go_ret
            exact ⟨rfl, HFX.out _ HBw4.out (HBB5.out.trans (HBR2.out.mono HBB5.out.size))⟩
end Go.Proofs.Ytohkdlgckepfgaa
