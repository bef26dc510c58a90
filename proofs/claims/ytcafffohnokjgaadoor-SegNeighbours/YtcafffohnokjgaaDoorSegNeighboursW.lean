/- The walk of SegNeighbours. -/
import Derived.Test.YtcafffohnokjgaaDoorJ28
import Derived.Test.YtcafffohnokjgaaDoorJ27
import Derived.BigQuiet
import Derived.Test.YtcafffohnokjgaaDoorSegP
import Derived.Deep.CutBlock
namespace Go.Proofs.YtcafffohnokjgaaDoor
open Go.RowKit Go.Shelf Go.Maps
set_option linter.unusedVariables false
set_option linter.unusedSimpArgs false

set_option maxRecDepth 100000 in
set_option maxHeartbeats 8000000 in
theorem segNeighbours_walk (lefts : List Int) (xa : Option Addr) (ll lcap : Nat) (rights : List Int) (ya : Option Addr) (rr rcap : Nat) (breaks : Int) (xs0 : List Int) (za : Option Addr) (len0 zcap : Nat) (w : World) (hT : TabD w) (hrl : Rd .i64 w xa ll lefts) (hrr : Rd .i64 w ya rr rights) (hrd : Rd .i64 w za len0 xs0) (hl1 : ll ≤ 9223372036854775807) (hl2 : rr ≤ 9223372036854775807) (hl3 : len0 ≤ 9223372036854775807) :
 Calls Tryd.prog 8 #[.slice xa ll lcap, .slice ya rr rcap, .int .i64 breaks, .slice za len0 zcap] w fun e w' => e = .returned (.bool true) ∧ Below w.heap.size w w' := by
 have HTD : Hid (TabD w) := hT
 have HRL0 : Hid (Rd .i64 w xa ll lefts) := hrl
 have HRR0 : Hid (Rd .i64 w ya rr rights) := hrr
 have HRD0 : Hid (Rd .i64 w za len0 xs0) := hrd
 have HSH : Hid (Calls Tryd.prog 10 #[] w fun e w' => e = .returned (.bool true) ∧ Below w.heap.size w w') := shown10_any w hT
 obtain ⟨i0, ii, iz0, iz1, iz2⟩ := info_parts info_i
 have HI : Hid (Tryd.prog.info? 3 = some i0 ∧ i0.zero = some (.int .i64 0) ∧ i0.size = 1 ∧ i0.bytes = 8) := ⟨ii, iz0, iz1, iz2⟩
 obtain ⟨j0, ji, jz0, jz1, jz2⟩ := info_parts info_Rl
 have HJ : Hid (Tryd.prog.info? 48 = some j0 ∧ j0.zero = some (.agg #[.int .i64 0, .slice none 0 0, .slice none 0 0, .int .i64 0, .slice none 0 0, .slice none 0 0, .bool false, .bool false]) ∧ j0.size = 8 ∧ j0.bytes = 120) := ⟨ji, jz0, jz1, jz2⟩
 have hli : (ll : Int) ≤ 9223372036854775807 := by omega
 have hri : (rr : Int) ≤ 9223372036854775807 := by omega
 have hti : (len0 : Int) ≤ 9223372036854775807 := by omega
 clear ii iz0 iz1 iz2 ji jz0 jz1 jz2 hT hrl hrr hrd hl1 hl2 hl3
 go_enter Tryd.func8, Tryd.ntmps8
 go_wp2_with fail
 refine HSH.out.mono ?_
 rintro e w1 ⟨rfl, hb1⟩
 have HB1 : Hid (Below w.heap.size w w1) := hb1
 clear hb1 HSH
 obtain ⟨G, hG⟩ : ∃ G, G = w1.heap.size := ⟨_, rfl⟩
 obtain ⟨Y, hY⟩ : ∃ Y, Y = G + 1 := ⟨_, rfl⟩
 obtain ⟨cv, hcv⟩ : ∃ cv : Value, cv = .slice (some ⟨G, 0, none⟩) 4 4 := ⟨_, rfl⟩
 obtain ⟨W2, hW2⟩ : ∃ W2, W2 = (w1.alloc (.cells #[.string ⟨#[97]⟩, .string ⟨#[98]⟩, .string ⟨#[99]⟩, .string ⟨#[100]⟩] 9)).alloc (.cells #[.slice (some ⟨G, 0, none⟩) 4 4, .slice none 0 0] 25) := ⟨_, rfl⟩
 have HB2 : Hid (Below w1.heap.size w1 W2) := by rw [hW2]; exact ((Below.refl _ w1).alloc (Nat.le_refl _) _).alloc (by simp) _
 have HG2 : Hid (Gr1 w1.heap.size Y (.slice (some ⟨G, 0, none⟩) 4 4) (.slice none 0 0) [] W2) := by
  have b2 : W2.heap[Y]? = some (.cells #[.slice (some ⟨G, 0, none⟩) 4 4, .slice none 0 0] 25) := by rw [hW2, hY, hG]; exact new_at2 w1 _ _
  exact ⟨by omega, b2, rfl, .inl ⟨rfl, rfl⟩⟩
 go_upto_region 3 with fail
 simp only [World.size_alloc, ← hG, ← hY]
 rw [← hW2]
 clear hG hY hW2 hcv cv
 go_upto_block 0 with fail
 go_cut [11] (fun x11 wx => ∃ (k cn : Nat) (av : Option Addr) (zs : List (Rl × RlP)), k ≤ 8 ∧ zs.length = k ∧ (∀ x, x ∈ zs → LfR w1.heap.size wx x) ∧ Gr1 w1.heap.size Y (.slice (some ⟨G, 0, none⟩) 4 4) (.slice av k cn) zs wx ∧ Below w1.heap.size w1 wx)
 case first =>
  skip
  ·go_wp2_with fail
   go_loopw [11] (fun x11 wr => ∃ (k cn : Nat) (av : Option Addr) (zs : List (Rl × RlP)), k ≤ 8 ∧ x11 = .int .i64 (k : Int) ∧ zs.length = k ∧ (∀ x, x ∈ zs → LfR w1.heap.size wr x) ∧ Gr1 w1.heap.size Y (.slice (some ⟨G, 0, none⟩) 4 4) (.slice av k cn) zs wr ∧ Below w1.heap.size w1 wr) (fun x11 _ => 8 - (intOf x11).toNat)
   case atStart => exact ⟨0, 0, none, [], by omega, rfl, rfl, fun x hx => absurd hx (by simp), HG2.out, HB2.out⟩
   case round =>
    obtain ⟨k, cn, av, zs, hk8, hx, hzl, hza, hgr, hwr⟩ := hrel
    subst hx
    obtain ⟨wo, hwo⟩ : ∃ W, W = wr := ⟨_, rfl⟩
    rw [← hwo] at hza hgr hwr ⊢
    clear hwo
    have HFIN : Hid (∃ (k cn : Nat) (av : Option Addr) (zs : List (Rl × RlP)), k ≤ 8 ∧ zs.length = k ∧ (∀ x, x ∈ zs → LfR w1.heap.size wo x) ∧ Gr1 w1.heap.size Y (.slice (some ⟨G, 0, none⟩) 4 4) (.slice av k cn) zs wo ∧ Below w1.heap.size w1 wo) := ⟨k, cn, av, zs, hk8, hzl, hza, hgr, hwr⟩
    have HZ : Hid (zs.length = k ∧ (∀ x, x ∈ zs → LfR w1.heap.size wo x)) := ⟨hzl, hza⟩
    have HGR : Hid (Gr1 w1.heap.size Y (.slice (some ⟨G, 0, none⟩) 4 4) (.slice av k cn) zs wo) := hgr
    have HBW : Hid (Below w1.heap.size w1 wo) := hwr
    clear hzl hza hgr hwr
    by_cases hkL : k < ll
    ·have hkLi : (k : Int) < (ll : Int) := by omega
     by_cases hkR : k < rr
     ·have hkRi : (k : Int) < (rr : Int) := by omega
      by_cases hk : k < 8
      ·have hki : (k : Int) < 8 := by omega
       have hk0 : (0 : Int) ≤ (k : Int) := by omega
       have hk64 : (k : Int) < 64 := by omega
       have HRL : Hid (∀ V : World, Below wo.heap.size wo V → Rd .i64 V xa ll lefts) := fun V hV => HRL0.out.later (HB1.out.trans ((HBW.out.trans (hV.mono HBW.out.size)).mono HB1.out.size))
       have HRR : Hid (∀ V : World, Below wo.heap.size wo V → Rd .i64 V ya rr rights) := fun V hV => HRR0.out.later (HB1.out.trans ((HBW.out.trans (hV.mono HBW.out.size)).mono HB1.out.size))
       clear HFIN
       obtain ⟨bk, hbk⟩ : ∃ b, (bits .and .i64 (breaks / 2 ^ k) 1 == 1) = b := ⟨_, rfl⟩
       obtain ⟨X, hX⟩ : ∃ X, X = wo.heap.size := ⟨_, rfl⟩
       obtain ⟨W3, hW3⟩ : ∃ W3, W3 = wo.alloc (.cells #[.int .i64 1, .slice none 0 0, .slice none 0 0, .int .i64 1, .slice none 0 0, .slice none 0 0, .bool bk, .bool false] 48) := ⟨_, rfl⟩
       have HBSW3 : Hid (Below wo.heap.size wo W3) := by rw [hW3]; exact (Below.refl _ wo).alloc (Nat.le_refl _) _
       have HSTW3 : Hid (StL wo.heap.size X bk (.slice none 0 0) (.slice none 0 0) 0 0 [] [] W3) := ⟨by omega, by rw [hX, hW3]; exact heap_alloc_new wo _, ⟨rfl, .inl ⟨rfl, rfl⟩⟩, ⟨rfl, .inl ⟨rfl, rfl⟩⟩, .inl rfl⟩
       have hbld := build_rule bk
       go_upto_region 7 with (refine wpList_build rfl 48 #[(0, .tmp 42), (1, .tmp 43), (2, .tmp 49)] rfl #[(0, .agg #[.int .i64 1, .slice none 0 0, .slice none 0 0]), (1, .agg #[.int .i64 1, .slice none 0 0, .slice none 0 0]), (2, .bool bk)] (by simp only [List.map_toArray, List.map_cons, List.map_nil]; rfl) _ (hbld _) ?_)
       rw [← hX, ← hW3]
       clear hbld hbk
       have HX0 : Hid (X = wo.heap.size) := hX
       clear hX hW3
       go_wp2_with fail
       go_loopw [13] (fun x13 wz => ∃ (c : Nat) (S T : List Int) (al ar : Option Addr) (cl cr nS nT : Nat), c ≤ 4 ∧ x13 = .int .i64 (c : Int) ∧ Ris c S ∧ Ris c T ∧ S.length = nS ∧ T.length = nT ∧ StL wo.heap.size X bk (.slice al nS cl) (.slice ar nT cr) nS nT (S.map (Value.int .i64)) (T.map (Value.int .i64)) wz ∧ Below wo.heap.size wo wz) (fun x13 _ => 4 - (intOf x13).toNat)
       case atStart => exact ⟨0, [], [], none, none, 0, 0, 0, 0, by omega, rfl, Ris.none, Ris.none, rfl, rfl, HSTW3.out, HBSW3.out⟩
       case round =>
        obtain ⟨c, S, T, al, ar, cl, cr, nS, nT, hc4, hx, hrS, hrT, hnS, hnT, hst, hbz⟩ := hrel
        subst hx
        have HRS : Hid (Ris c S ∧ Ris c T ∧ S.length = nS ∧ T.length = nT) := ⟨hrS, hrT, hnS, hnT⟩
        have HSTwr : Hid (StL wo.heap.size X bk (.slice al nS cl) (.slice ar nT cr) nS nT (S.map (Value.int .i64)) (T.map (Value.int .i64)) wr) := hst
        have HBSwr : Hid (Below wo.heap.size wo wr) := hbz
        have hnS4 : (nS : Int) ≤ 4 := by have := ris_le hrS; omega
        have hnT4 : (nT : Int) ≤ 4 := by have := ris_le hrT; omega
        clear hrS hrT hnS hnT hst hbz HBSW3 HSTW3
        by_cases hc : c < 4
        ·have hci : (c : Int) < 4 := by omega
         have hc0 : (0 : Int) ≤ (c : Int) := by omega
         have hc64 : (c : Int) < 64 := by omega
         obtain ⟨bL, oL, rfl, hccL⟩ := (HRL.out wr HBSwr.out).2 (by omega)
         have d1 := hccL k hkL
         obtain ⟨lv, hlv⟩ : ∃ x, x = lefts.getD k 0 := ⟨_, rfl⟩
         rw [← hlv] at d1
         clear hlv hccL
         obtain ⟨z1, hz1⟩ : ∃ b, (bits .and .i64 (lv / 2 ^ c) 1 == 1) = b := ⟨_, rfl⟩
         cases z1 with
         | false =>
           go_upto_region 12 with fail
           clear d1 hz1
           obtain ⟨bR, oR, rfl, hccR⟩ := (HRR.out wr HBSwr.out).2 (by omega)
           have d2 := hccR k hkR
           obtain ⟨rv, hrv⟩ : ∃ x, x = rights.getD k 0 := ⟨_, rfl⟩
           rw [← hrv] at d2
           clear hrv hccR
           obtain ⟨z2, hz2⟩ : ∃ b, (bits .and .i64 (rv / 2 ^ c) 1 == 1) = b := ⟨_, rfl⟩
           cases z2 with
           | false =>
             go_wp2_with fail
             clear d2 hz2
             go_roundw
             case rel => exact ⟨c + 1, S, T, al, ar, cl, cr, nS, nT, by omega, by go_num, HRS.out.1.skip, HRS.out.2.1.skip, HRS.out.2.2.1, HRS.out.2.2.2, HSTwr.out, HBSwr.out⟩
             case measure => simp [intOf]; omega
           | true =>
             go_upto_region 13 with fail
             clear d2 hz2
             obtain ⟨t0, t1, t2, t3, t4, t5, t6, t7⟩ := HSTwr.out.cells
             obtain ⟨WA, hWA⟩ : ∃ WA, WA = wr.alloc (.cells #[.int .i64 (c : Int)] 3) := ⟨_, rfl⟩
             have HBA : Hid (Below wr.heap.size wr WA) := by rw [hWA]; exact (Below.refl _ wr).alloc (Nat.le_refl _) _
             have HSA : Hid (StL wo.heap.size X bk (.slice al nS cl) (.slice ar nT cr) nS nT ((S).map (Value.int .i64)) ((T).map (Value.int .i64)) WA) := HSTwr.out.later HBA.out
             have HNW : Hid (WA.heap[wr.heap.size]? = some (.cells #[.int .i64 (c : Int)] 3) ∧ wo.heap.size ≤ WA.heap.size) := ⟨by rw [hWA]; exact heap_alloc_new wr _, Nat.le_trans HBSwr.out.size HBA.out.size⟩
             go_upto_region 9 with (at_builtin; rw [← hWA]; refine wpList_append_lies _ rfl _ _ 26 rfl wo.heap.size 3 i0 _ 1 8 Tryd.underlying26 HI.out.1 HI.out.2.1 HI.out.2.2.1 HI.out.2.2.2 rfl (by decide) (.slice ar nT cr) nT ((T).map (Value.int .i64)) rfl HSA.out.2.2.2.1 ⟨wr.heap.size, 0, none⟩ 1 1 [.int .i64 (c : Int)] rfl rfl (World.news_of_block (fr := (0, 0)) HNW.out.1) (by simp [Value.oneCell']) (by omega) (by unfold maxLen; omega) (by omega) HNW.out.2 _ rfl (fun gWr capWr vWr q1 q2 q3 q4 => ?_); obtain ⟨⟨x1, x2⟩, hst⟩ := HSA.out.right q1 q2 (q3.imp (fun e => e.trans rfl) (fun e => by rw [e]; rfl)); have HSTWr : Hid (StL wo.heap.size X bk (.slice al nS cl) (.slice (some ⟨gWr, 0, none⟩) (nT + 1) capWr) nS (nT + 1) ((S).map (Value.int .i64)) (((T).map (Value.int .i64)) ++ [.int .i64 (c : Int)]) (vWr.setCell ⟨X, 4, none⟩ (.slice (some ⟨gWr, 0, none⟩) (nT + 1) capWr))) := hst; have HBSWr : Hid (Below wo.heap.size wo (vWr.setCell ⟨X, 4, none⟩ (.slice (some ⟨gWr, 0, none⟩) (nT + 1) capWr))) := (((HBSwr.out.trans (HBA.out.mono HBSwr.out.size)).grown q2 HNW.out.2 (fun y hy => (own_lt HSA.out.2.2.2.1 hy).1)).setCell (p := ⟨X, 4, none⟩) HSA.out.1 _); clear q1 q2 q3 q4 hst t0 t1 t2 t3 t4 t5 t6 t7)
             obtain ⟨Wr, hWr⟩ : ∃ W, W = vWr.setCell ⟨X, 4, none⟩ (.slice (some ⟨gWr, 0, none⟩) (nT + 1) capWr) := ⟨_, rfl⟩
             rw [← hWr] at HSTWr HBSWr ⊢
             replace HSTWr : Hid (StL wo.heap.size X bk (.slice al nS cl) (.slice (some ⟨gWr, 0, none⟩) (nT + 1) capWr) nS (nT + 1) ((S).map (Value.int .i64)) ((T ++ [(c : Int)]).map (Value.int .i64)) Wr) := by
              show StL _ _ _ _ _ _ _ _ _ _
              rw [show ((T) ++ [(c : Int)]).map (Value.int .i64) = ((T).map (Value.int .i64)) ++ [.int .i64 (c : Int)] by rw [List.map_append]; rfl]
              exact HSTWr.out
             clear hWr x1 x2 hWA HSA HNW HBA
             go_wp2_with fail
             go_roundw
             case rel => exact ⟨c + 1, S, T ++ [(c : Int)], al, some ⟨gWr, 0, none⟩, cl, capWr, nS, nT + 1, by omega, by go_num, HRS.out.1.skip, HRS.out.2.1.take, HRS.out.2.2.1, by rw [List.length_append, HRS.out.2.2.2]; rfl, HSTWr.out, HBSWr.out⟩
             case measure => simp [intOf]; omega
         | true =>
           go_upto_region 11 with fail
           clear d1 hz1
           obtain ⟨t0, t1, t2, t3, t4, t5, t6, t7⟩ := HSTwr.out.cells
           obtain ⟨WA, hWA⟩ : ∃ WA, WA = wr.alloc (.cells #[.int .i64 (c : Int)] 3) := ⟨_, rfl⟩
           have HBA : Hid (Below wr.heap.size wr WA) := by rw [hWA]; exact (Below.refl _ wr).alloc (Nat.le_refl _) _
           have HSA : Hid (StL wo.heap.size X bk (.slice al nS cl) (.slice ar nT cr) nS nT ((S).map (Value.int .i64)) ((T).map (Value.int .i64)) WA) := HSTwr.out.later HBA.out
           have HNW : Hid (WA.heap[wr.heap.size]? = some (.cells #[.int .i64 (c : Int)] 3) ∧ wo.heap.size ≤ WA.heap.size) := ⟨by rw [hWA]; exact heap_alloc_new wr _, Nat.le_trans HBSwr.out.size HBA.out.size⟩
           go_upto_region 12 with (at_builtin; rw [← hWA]; refine wpList_append_lies _ rfl _ _ 26 rfl wo.heap.size 3 i0 _ 1 8 Tryd.underlying26 HI.out.1 HI.out.2.1 HI.out.2.2.1 HI.out.2.2.2 rfl (by decide) (.slice al nS cl) nS ((S).map (Value.int .i64)) rfl HSA.out.2.2.1 ⟨wr.heap.size, 0, none⟩ 1 1 [.int .i64 (c : Int)] rfl rfl (World.news_of_block (fr := (0, 0)) HNW.out.1) (by simp [Value.oneCell']) (by omega) (by unfold maxLen; omega) (by omega) HNW.out.2 _ rfl (fun gWl capWl vWl q1 q2 q3 q4 => ?_); obtain ⟨⟨x1, x2⟩, hst⟩ := HSA.out.left q1 q2 (q3.imp (fun e => e.trans rfl) (fun e => by rw [e]; rfl)); have HSTWl : Hid (StL wo.heap.size X bk (.slice (some ⟨gWl, 0, none⟩) (nS + 1) capWl) (.slice ar nT cr) (nS + 1) nT (((S).map (Value.int .i64)) ++ [.int .i64 (c : Int)]) ((T).map (Value.int .i64)) (vWl.setCell ⟨X, 1, none⟩ (.slice (some ⟨gWl, 0, none⟩) (nS + 1) capWl))) := hst; have HBSWl : Hid (Below wo.heap.size wo (vWl.setCell ⟨X, 1, none⟩ (.slice (some ⟨gWl, 0, none⟩) (nS + 1) capWl))) := (((HBSwr.out.trans (HBA.out.mono HBSwr.out.size)).grown q2 HNW.out.2 (fun y hy => (own_lt HSA.out.2.2.1 hy).1)).setCell (p := ⟨X, 1, none⟩) HSA.out.1 _); clear q1 q2 q3 q4 hst t0 t1 t2 t3 t4 t5 t6 t7)
           obtain ⟨Wl, hWl⟩ : ∃ W, W = vWl.setCell ⟨X, 1, none⟩ (.slice (some ⟨gWl, 0, none⟩) (nS + 1) capWl) := ⟨_, rfl⟩
           rw [← hWl] at HSTWl HBSWl ⊢
           replace HSTWl : Hid (StL wo.heap.size X bk (.slice (some ⟨gWl, 0, none⟩) (nS + 1) capWl) (.slice ar nT cr) (nS + 1) nT ((S ++ [(c : Int)]).map (Value.int .i64)) ((T).map (Value.int .i64)) Wl) := by
            show StL _ _ _ _ _ _ _ _ _ _
            rw [show ((S) ++ [(c : Int)]).map (Value.int .i64) = ((S).map (Value.int .i64)) ++ [.int .i64 (c : Int)] by rw [List.map_append]; rfl]
            exact HSTWl.out
           clear hWl x1 x2 hWA HSA HNW HBA
           obtain ⟨bR, oR, rfl, hccR⟩ := (HRR.out Wl HBSWl.out).2 (by omega)
           have d2 := hccR k hkR
           obtain ⟨rv, hrv⟩ : ∃ x, x = rights.getD k 0 := ⟨_, rfl⟩
           rw [← hrv] at d2
           clear hrv hccR
           obtain ⟨z2, hz2⟩ : ∃ b, (bits .and .i64 (rv / 2 ^ c) 1 == 1) = b := ⟨_, rfl⟩
           cases z2 with
           | false =>
             go_wp2_with fail
             clear d2 hz2
             go_roundw
             case rel => exact ⟨c + 1, S ++ [(c : Int)], T, (some ⟨gWl, 0, none⟩), ar, capWl, cr, (nS + 1), nT, by omega, by go_num, HRS.out.1.take, HRS.out.2.1.skip, by rw [List.length_append, HRS.out.2.2.1]; rfl, HRS.out.2.2.2, HSTWl.out, HBSWl.out⟩
             case measure => simp [intOf]; omega
           | true =>
             go_upto_region 13 with fail
             clear d2 hz2
             obtain ⟨t0, t1, t2, t3, t4, t5, t6, t7⟩ := HSTWl.out.cells
             obtain ⟨WA, hWA⟩ : ∃ WA, WA = Wl.alloc (.cells #[.int .i64 (c : Int)] 3) := ⟨_, rfl⟩
             have HBA : Hid (Below Wl.heap.size Wl WA) := by rw [hWA]; exact (Below.refl _ Wl).alloc (Nat.le_refl _) _
             have HSA : Hid (StL wo.heap.size X bk (.slice (some ⟨gWl, 0, none⟩) (nS + 1) capWl) (.slice ar nT cr) (nS + 1) nT ((S ++ [(c : Int)]).map (Value.int .i64)) ((T).map (Value.int .i64)) WA) := HSTWl.out.later HBA.out
             have HNW : Hid (WA.heap[Wl.heap.size]? = some (.cells #[.int .i64 (c : Int)] 3) ∧ wo.heap.size ≤ WA.heap.size) := ⟨by rw [hWA]; exact heap_alloc_new Wl _, Nat.le_trans HBSWl.out.size HBA.out.size⟩
             go_upto_region 9 with (at_builtin; rw [← hWA]; refine wpList_append_lies _ rfl _ _ 26 rfl wo.heap.size 3 i0 _ 1 8 Tryd.underlying26 HI.out.1 HI.out.2.1 HI.out.2.2.1 HI.out.2.2.2 rfl (by decide) (.slice ar nT cr) nT ((T).map (Value.int .i64)) rfl HSA.out.2.2.2.1 ⟨Wl.heap.size, 0, none⟩ 1 1 [.int .i64 (c : Int)] rfl rfl (World.news_of_block (fr := (0, 0)) HNW.out.1) (by simp [Value.oneCell']) (by omega) (by unfold maxLen; omega) (by omega) HNW.out.2 _ rfl (fun gWr capWr vWr q1 q2 q3 q4 => ?_); obtain ⟨⟨x1, x2⟩, hst⟩ := HSA.out.right q1 q2 (q3.imp (fun e => e.trans rfl) (fun e => by rw [e]; rfl)); have HSTWr : Hid (StL wo.heap.size X bk (.slice (some ⟨gWl, 0, none⟩) (nS + 1) capWl) (.slice (some ⟨gWr, 0, none⟩) (nT + 1) capWr) (nS + 1) (nT + 1) ((S ++ [(c : Int)]).map (Value.int .i64)) (((T).map (Value.int .i64)) ++ [.int .i64 (c : Int)]) (vWr.setCell ⟨X, 4, none⟩ (.slice (some ⟨gWr, 0, none⟩) (nT + 1) capWr))) := hst; have HBSWr : Hid (Below wo.heap.size wo (vWr.setCell ⟨X, 4, none⟩ (.slice (some ⟨gWr, 0, none⟩) (nT + 1) capWr))) := (((HBSWl.out.trans (HBA.out.mono HBSWl.out.size)).grown q2 HNW.out.2 (fun y hy => (own_lt HSA.out.2.2.2.1 hy).1)).setCell (p := ⟨X, 4, none⟩) HSA.out.1 _); clear q1 q2 q3 q4 hst t0 t1 t2 t3 t4 t5 t6 t7)
             obtain ⟨Wr, hWr⟩ : ∃ W, W = vWr.setCell ⟨X, 4, none⟩ (.slice (some ⟨gWr, 0, none⟩) (nT + 1) capWr) := ⟨_, rfl⟩
             rw [← hWr] at HSTWr HBSWr ⊢
             replace HSTWr : Hid (StL wo.heap.size X bk (.slice (some ⟨gWl, 0, none⟩) (nS + 1) capWl) (.slice (some ⟨gWr, 0, none⟩) (nT + 1) capWr) (nS + 1) (nT + 1) ((S ++ [(c : Int)]).map (Value.int .i64)) ((T ++ [(c : Int)]).map (Value.int .i64)) Wr) := by
              show StL _ _ _ _ _ _ _ _ _ _
              rw [show ((T) ++ [(c : Int)]).map (Value.int .i64) = ((T).map (Value.int .i64)) ++ [.int .i64 (c : Int)] by rw [List.map_append]; rfl]
              exact HSTWr.out
             clear hWr x1 x2 hWA HSA HNW HBA
             go_wp2_with fail
             go_roundw
             case rel => exact ⟨c + 1, S ++ [(c : Int)], T ++ [(c : Int)], (some ⟨gWl, 0, none⟩), some ⟨gWr, 0, none⟩, capWl, capWr, (nS + 1), nT + 1, by omega, by go_num, HRS.out.1.take, HRS.out.2.1.take, by rw [List.length_append, HRS.out.2.2.1]; rfl, by rw [List.length_append, HRS.out.2.2.2]; rfl, HSTWr.out, HBSWr.out⟩
             case measure => simp [intOf]; omega
        ·have hci : ¬ (c : Int) < 4 := by omega
         have HR4 : Hid (Ris 4 S ∧ Ris 4 T) := by
          have e : c = 4 := by omega
          have h := HRS.out
          rw [e] at h
          exact ⟨h.1, h.2.1⟩
         obtain ⟨xn, hxn⟩ : ∃ x : Rl × RlP, x = (⟨setNd S, setNd T, bk, false⟩, ⟨al, cl, none, 0, ar, cr, none, 0⟩) := ⟨_, rfl⟩
         have HVA : Hid ((xn.1.vals xn.2).toList = [.int .i64 1, .slice al nS cl, .slice none 0 0, .int .i64 1, .slice ar nT cr, .slice none 0 0, .bool bk, .bool false]) := by rw [hxn, ← HRS.out.2.2.1, ← HRS.out.2.2.2]; rfl
         have HLN : Hid (LfR w1.heap.size wr xn) := by rw [hxn]; exact lf_new HSTwr.out HBW.out.size HR4.out.1 HR4.out.2 HRS.out.2.2.1 HRS.out.2.2.2
         clear hxn
         have HGz : Hid (Gr1 w1.heap.size Y (.slice (some ⟨G, 0, none⟩) 4 4) (.slice av k cn) zs wr) := HGR.out.later HBSwr.out
         obtain ⟨t0, t1, t2, t3, t4, t5, t6, t7⟩ := HSTwr.out.cells
         obtain ⟨_, y1, y2⟩ := HGz.out.cells
         have HBA : Hid (Below wr.heap.size wr (wr.alloc (.cells #[.int .i64 1, .slice al nS cl, .slice none 0 0, .int .i64 1, .slice ar nT cr, .slice none 0 0, .bool bk, .bool false] 48))) := by exact (Below.refl _ wr).alloc (Nat.le_refl _) _
         have HGA : Hid (Gr1 w1.heap.size Y (.slice (some ⟨G, 0, none⟩) 4 4) (.slice av k cn) zs (wr.alloc (.cells #[.int .i64 1, .slice al nS cl, .slice none 0 0, .int .i64 1, .slice ar nT cr, .slice none 0 0, .bool bk, .bool false] 48))) := HGz.out.later HBA.out
         have HLA : Hid (∀ x, x ∈ zs ++ [xn] → LfR w1.heap.size (wr.alloc (.cells #[.int .i64 1, .slice al nS cl, .slice none 0 0, .int .i64 1, .slice ar nT cr, .slice none 0 0, .bool bk, .bool false] 48)) x) := fun x hx => by
          rcases List.mem_append.1 hx with hx | hx
          ·exact ((HZ.out.2 x hx).later HBSwr.out).later HBA.out
          ·rw [List.mem_singleton.1 hx]; exact HLN.out.later HBA.out
         have HOW : Hid ((wr.alloc (.cells #[.int .i64 1, .slice al nS cl, .slice none 0 0, .int .i64 1, .slice ar nT cr, .slice none 0 0, .bool bk, .bool false] 48)).ownsRow w1.heap.size 48 8 (.slice av k cn) k (flR zs)) := by
          have h := HGA.out.2.2
          rw [HZ.out.1] at h
          exact h
         have HB1A : Hid (Below w1.heap.size w1 (wr.alloc (.cells #[.int .i64 1, .slice al nS cl, .slice none 0 0, .int .i64 1, .slice ar nT cr, .slice none 0 0, .bool bk, .bool false] 48))) := HBW.out.trans ((HBSwr.out.trans (HBA.out.mono HBSwr.out.size)).mono HBW.out.size)
         have HNW : Hid ((wr.alloc (.cells #[.int .i64 1, .slice al nS cl, .slice none 0 0, .int .i64 1, .slice ar nT cr, .slice none 0 0, .bool bk, .bool false] 48)).heap[wr.heap.size]? = some (.cells #[.int .i64 1, .slice al nS cl, .slice none 0 0, .int .i64 1, .slice ar nT cr, .slice none 0 0, .bool bk, .bool false] 48) ∧ w1.heap.size ≤ (wr.alloc (.cells #[.int .i64 1, .slice al nS cl, .slice none 0 0, .int .i64 1, .slice ar nT cr, .slice none 0 0, .bool bk, .bool false] 48)).heap.size) := ⟨by exact heap_alloc_new wr _, HB1A.out.size⟩
         go_wp2_with (at_builtin; refine wpList_append_lies _ rfl _ _ 23 rfl w1.heap.size 48 j0 _ 8 120 Tryd.underlying23 HJ.out.1 HJ.out.2.1 HJ.out.2.2.1 HJ.out.2.2.2 rfl (by decide) (.slice av k cn) k (flR zs) rfl HOW.out ⟨wr.heap.size, 0, none⟩ 1 1 [.int .i64 1, .slice al nS cl, .slice none 0 0, .int .i64 1, .slice ar nT cr, .slice none 0 0, .bool bk, .bool false] rfl rfl (World.news_of_block (fr := (0, 0)) HNW.out.1) (by simp [Value.oneCell']) (by omega) (by unfold maxLen; omega) (by omega) HNW.out.2 _ rfl (fun g4 cap4 w4 q1 q2 q3 q4 => ?_); obtain ⟨⟨x1, x2⟩, hg4⟩ := HGA.out.more (x := xn) HZ.out.1.symm (by rw [HVA.out]; exact q1) q2; have HG9 : Hid (Gr1 w1.heap.size Y (.slice (some ⟨G, 0, none⟩) 4 4) (.slice (some ⟨g4, 0, none⟩) (k + 1) cap4) (zs ++ [xn]) (w4.setCell ⟨Y, 1, none⟩ (.slice (some ⟨g4, 0, none⟩) (k + 1) cap4))) := hg4; have HL9 : Hid (∀ x, x ∈ zs ++ [xn] → LfR w1.heap.size (w4.setCell ⟨Y, 1, none⟩ (.slice (some ⟨g4, 0, none⟩) (k + 1) cap4)) x) := (fun x hx => lf_step (HLA.out x hx) HGA.out q2 _); have HB9 : Hid (Below w1.heap.size w1 (w4.setCell ⟨Y, 1, none⟩ (.slice (some ⟨g4, 0, none⟩) (k + 1) cap4))) := ((HB1A.out.grown q2 HNW.out.2 (fun y hy => (own_lt HOW.out hy).1)).setCell (p := ⟨Y, 1, none⟩) HGA.out.1 _); clear q1 q2 q3 q4 hg4 t0 t1 t2 t3 t4 t5 t6 t7 y1 y2)
         go_roundw
         case rel => exact ⟨k + 1, cap4, some ⟨g4, 0, none⟩, zs ++ [xn], by omega, by go_num, by rw [List.length_append, HZ.out.1]; rfl, HL9.out, HG9.out, HB9.out⟩
         case measure => simp [intOf]; omega
      ·have hki : ¬ (k : Int) < 8 := by omega
       go_wp2_with fail
       go_meet
       exact HFIN.out
     ·have hkRi : ¬ (k : Int) < (rr : Int) := by omega
      go_wp2_with fail
      go_meet
      exact HFIN.out
    ·have hkLi : ¬ (k : Int) < (ll : Int) := by omega
     go_wp2_with fail
     go_meet
     exact HFIN.out
 case rest =>
  obtain ⟨k, cn, av, zs, hk8, hzl, hza, hgr, hbc⟩ := hcut
  obtain ⟨W5, hW5⟩ : ∃ W, W = wc := ⟨_, rfl⟩
  rw [← hW5] at hza hgr hbc ⊢
  have HZ : Hid (zs.length = k ∧ (∀ x, x ∈ zs → LfR w1.heap.size W5 x)) := ⟨hzl, hza⟩
  have HGR : Hid (Gr1 w1.heap.size Y (.slice (some ⟨G, 0, none⟩) 4 4) (.slice av k cn) zs W5) := hgr
  have HB5 : Hid (Below w1.heap.size w1 W5) := hbc
  have HW5 : Hid (Below w.heap.size w W5) := HB1.out.trans (hbc.mono HB1.out.size)
  clear hzl hza hgr hbc hW5 HG2 HB2
  go_upto_block 4 with fail
  go_cut [14] (fun x14 wx => ∃ (n c : Nat) (a : Option Addr) (row : List Int), x14 = .slice a n c ∧ n ≤ 30 ∧ row.length = n ∧ Cls 4 row ∧ wx.ownsRow W5.heap.size 3 1 (.slice a n c) n (row.map (Value.int .i64)) ∧ Below W5.heap.size W5 wx)
  case first =>
   go_wp2_with fail
   go_loopw [14, 15] (fun x14 x15 wr => ∃ (n c : Nat) (a : Option Addr) (row : List Int), x14 = .slice a n c ∧ x15 = .int .i64 (n : Int) ∧ n ≤ 30 ∧ row.length = n ∧ Cls 4 row ∧ wr.ownsRow W5.heap.size 3 1 (.slice a n c) n (row.map (Value.int .i64)) ∧ Below W5.heap.size W5 wr) (fun _ x15 _ => 30 - (intOf x15).toNat)
   case atStart => exact ⟨0, 0, none, [], rfl, rfl, by omega, rfl, fun c hc => absurd hc (by simp), World.ownsRow_nil _ _ _ _, Below.refl _ _⟩
   case round =>
    obtain ⟨n, c, a, row, hx14, hx15, hn30, hrl, hcl, how, hbw⟩ := hrel
    subst hx14 hx15
    have HFIN : Hid (∃ (n' c' : Nat) (a' : Option Addr) (row : List Int), Value.slice a n c = .slice a' n' c' ∧ n' ≤ 30 ∧ row.length = n' ∧ Cls 4 row ∧ wr.ownsRow W5.heap.size 3 1 (.slice a' n' c') n' (row.map (Value.int .i64)) ∧ Below W5.heap.size W5 wr) := ⟨n, c, a, row, rfl, hn30, hrl, hcl, how, hbw⟩
    have HRW : Hid (row.length = n ∧ Cls 4 row) := ⟨hrl, hcl⟩
    have HOW : Hid (wr.ownsRow W5.heap.size 3 1 (.slice a n c) n (row.map (Value.int .i64))) := how
    have HBW : Hid (Below W5.heap.size W5 wr) := hbw
    clear hrl hcl how hbw
    by_cases hnl : n < len0
    ·have hnli : (n : Int) < (len0 : Int) := by omega
     by_cases hn : n < 30
     ·have hni : (n : Int) < 30 := by omega
      have hn0 : (0 : Int) ≤ (n : Int) := by omega
      clear HFIN
      obtain ⟨b, off, rfl, hcc⟩ := (HRD0.out.later (HW5.out.trans (HBW.out.mono HW5.out.size))).2 (by omega)
      have d1 := hcc n hnl
      obtain ⟨tv, htv⟩ : ∃ x, x = xs0.getD n 0 := ⟨_, rfl⟩
      rw [← htv] at d1
      clear htv hcc
      obtain ⟨X, hX⟩ : ∃ X : Int, X = tv % 4 := ⟨_, rfl⟩
      have hand : bits .and .i64 tv 3 = X := by rw [and_low tv 3 2 (by omega) (by decide), hX]; rfl
      have HX4 : Hid (0 ≤ X ∧ X < 4) := ⟨by omega, by omega⟩
      clear hX
      have HCL : Hid (Cls 4 (row ++ [X])) := fun y hy => by
       rcases List.mem_append.1 hy with hy | hy
       ·exact HRW.out.2 y hy
       ·rw [List.mem_singleton.1 hy]; exact HX4.out
      obtain ⟨WA, hWA⟩ : ∃ WA, WA = wr.alloc (.cells #[.int .i64 X] 3) := ⟨_, rfl⟩
      have HBA : Hid (Below wr.heap.size wr WA) := by rw [hWA]; exact (Below.refl _ wr).alloc (Nat.le_refl _) _
      have HOA : Hid (WA.ownsRow W5.heap.size 3 1 (.slice a n c) n (row.map (Value.int .i64))) := own_later5 HOW.out HBA.out
      have HNW : Hid (WA.heap[wr.heap.size]? = some (.cells #[.int .i64 X] 3) ∧ W5.heap.size ≤ WA.heap.size) := ⟨by rw [hWA]; exact heap_alloc_new wr _, Nat.le_trans HBW.out.size HBA.out.size⟩
      go_wp2_with (at_builtin; rw [← hWA]; refine wpList_append_lies _ rfl _ _ 26 rfl W5.heap.size 3 i0 _ 1 8 Tryd.underlying26 HI.out.1 HI.out.2.1 HI.out.2.2.1 HI.out.2.2.2 rfl (by decide) (.slice a n c) n (row.map (Value.int .i64)) rfl HOA.out ⟨wr.heap.size, 0, none⟩ 1 1 [.int .i64 X] rfl rfl (World.news_of_block (fr := (0, 0)) HNW.out.1) (by simp [Value.oneCell']) (by omega) (by unfold maxLen; omega) (by omega) HNW.out.2 _ rfl (fun g6 cap6 w6 q1 q2 q3 q4 => ?_); have HF6 : Hid (w6.ownsRow W5.heap.size 3 1 (.slice (some ⟨g6, 0, none⟩) (n + 1) cap6) (n + 1) ((row ++ [X]).map (Value.int .i64)) ∧ Below W5.heap.size W5 w6) := ⟨(by rw [List.map_append]; exact q1), (HBW.out.trans (HBA.out.mono HBW.out.size)).grown q2 HNW.out.2 (fun y hy => (own_lt HOA.out hy).1)⟩; clear q1 q2 q3 q4 d1)
      go_roundw
      case rel => exact ⟨n + 1, cap6, some ⟨g6, 0, none⟩, row ++ [X], rfl, by go_num, by omega, by rw [List.length_append, HRW.out.1]; rfl, HCL.out, HF6.out.1, HF6.out.2⟩
      case measure => simp [intOf]; omega
     ·have hni : ¬ (n : Int) < 30 := by omega
      go_wp2_with fail
      go_meet
      exact HFIN.out
    ·have hnli : ¬ (n : Int) < (len0 : Int) := by omega
     go_wp2_with fail
     go_meet
     exact HFIN.out
  case rest =>
   obtain ⟨n, c, a, row, hx14, hn30, hrl, hcl, how, hbw⟩ := hcut
   subst hx14
   obtain ⟨W6, hW6⟩ : ∃ W, W = wc := ⟨_, rfl⟩
   rw [← hW6] at how hbw ⊢
   obtain ⟨a2, c2, e2, hnc, _, hrd, hnone⟩ := rd_own2 how
   cases e2
   have HRW : Hid (row.length = n ∧ Cls 4 row ∧ n ≤ c ∧ (a = none → c = 0)) := ⟨hrl, hcl, hnc, hnone⟩
   have HRD : Hid (∀ V : World, Below W6.heap.size W6 V → Rd .i64 V a n row) := fun V hV => hrd.later hV
   have HB6 : Hid (Below W5.heap.size W5 W6) := hbw
   have HW6 : Hid (Below w.heap.size w W6) := HW5.out.trans (hbw.mono HW5.out.size)
   have hni : (n : Int) ≤ 30 := by omega
   clear hrl hcl how hbw hW6 hnc hnone hrd hn30
   obtain ⟨rl, hrl⟩ : ∃ rl, rl = zs.map fun x => x.1 := ⟨_, rfl⟩
   have HRL : Hid (rl.length = k ∧ ∀ r, r ∈ rl → IsSet r) := by
    refine ⟨by rw [hrl, List.length_map, HZ.out.1], fun r hr => ?_⟩
    rw [hrl] at hr
    obtain ⟨x, hx, rfl⟩ := List.mem_map.1 hr
    exact (HZ.out.2 x hx).1
   have HG6 : Hid (Gr1 w1.heap.size Y (.slice (some ⟨G, 0, none⟩) 4 4) (.slice av k cn) zs W6) := HGR.out.later HB6.out
   have HCP : Hid (Calls Tryd.prog 12 #[.agg #[.slice (some ⟨G, 0, none⟩) 4 4, .slice av k cn]] W6 (CmpP 4 rl W6)) := by
    have hro : RowR W6 1 av rl.length rl := by
     rw [hrl]
     refine own_row (w := W6) (B := w1.heap.size) (c := cn) (fun x hx => ((HZ.out.2 x hx).later HB6.out).at) (Below.refl _ _) ?_
     have h := HG6.out.2.2
     rw [HZ.out.1] at h ⊢
     exact h
    have h := compile_any 1 4 rl (some ⟨G, 0, none⟩) av 4 cn W6 (HTD.out.later HW6.out) hro (by have := HRL.out.1; omega)
    rw [HRL.out.1] at h
    exact h
   clear hrl
   obtain ⟨y0, y1, _⟩ := HG6.out.cells
   go_wp2_with fail
   refine HCP.out.mono ?_
   rintro e w7 ⟨hb7, hor⟩
   have HC7 : Hid (Below W6.heap.size W6 w7) := hb7
   obtain ⟨tb, rfl, hta⟩ : ∃ tb, e = .returned (.tuple #[.pointer (some ⟨tb, 0, none⟩), .int .i64 0]) ∧ TabAt w7 4 rl tb := by
    have h40 : rl.length ≤ 40 := by have := HRL.out.1; omega
    rcases hor with ⟨h, _⟩ | ⟨_, ⟨_, h | h⟩ | ⟨tb, he, _, hta, _⟩⟩
    ·rw [set_cm h40 HRL.out.2] at h; cases h
    ·exact absurd h (set_big (set_left HRL.out.2))
    ·exact absurd h (set_big (set_right HRL.out.2))
    ·exact ⟨tb, he, hta⟩
   have HTA : Hid (∀ V : World, Below w7.heap.size w7 V → TabAt V 4 rl tb) := fun V hV => hta.later hV
   have HBW : Hid (∀ V : World, Below w7.heap.size w7 V → Below w.heap.size w V) := fun V hV => HW6.out.trans ((HC7.out.trans (hV.mono HC7.out.size)).mono HW6.out.size)
   have HRV : Hid (∀ V : World, Below w7.heap.size w7 V → Rd .i64 V a n row) := fun V hV => HRD.out V (HC7.out.trans (hV.mono HC7.out.size))
   clear hb7 hor hta y0 y1 HCP HG6
   have HS : Hid (Calls Tryd.prog 18 #[.pointer (some ⟨tb, 0, none⟩), .slice a n c] w7 (BdsQ 4 rl n row w7)) := segBnd_any 4 tb n c rl row a w7 (HTA.out w7 (Below.refl _ _)) (by have := HRL.out.1; omega) (HRV.out w7 (Below.refl _ _)) HRW.out.2.2.2 (by omega)
   go_wp2_with fail
   refine HS.out.mono ?_
   rintro e w8 ⟨hb8, hor⟩
   have HB8 : Hid (Below w7.heap.size w7 w8) := hb8
   obtain ⟨L, g, rfl, hg, hbd⟩ : ∃ L g, e = .returned (.tuple #[.slice (some ⟨g, 0, none⟩) (n + 1) (n + 1), .int .i64 0]) ∧ w8.heap[g]? = some (.cells (bFun n (fun q => decide (q ∈ L))) 4) ∧ IsBd 4 rl n row L := by
    rcases hor with ⟨h, _⟩ | ⟨_, h⟩
    ·exact absurd HRW.out.2.1 h
    ·exact h
   have HG8 : Hid (∀ V : World, Below w8.heap.size w8 V → ∀ p, p ≤ n → V.cell? ⟨g, p, none⟩ = some (.bool (decide (p ∈ L)))) := fun V hV p hp => by
    rw [cell_of_row V g p _ _ _ ((hV.block g (Array.getElem?_eq_some_iff.1 hg).1).trans hg), bFun_get n _ (by omega)]
   have HBD : Hid (IsBd 4 rl n row L) := hbd
   clear hb8 hor hg hbd HS
   go_wp2_with fail
   go_loopw [20] (fun x20 wr => ∃ p : Nat, 0 < p ∧ x20 = .int .i64 (p : Int) ∧ Below w8.heap.size w8 wr) (fun x20 _ => n - (intOf x20).toNat)
   case atStart => exact ⟨1, by omega, rfl, Below.refl _ _⟩
   case round =>
    obtain ⟨p, hp0, hx20, hbw⟩ := hrel
    subst hx20
    have HBP : Hid (Below w8.heap.size w8 wr) := hbw
    clear hbw
    by_cases hp : p < n
    ·have hpi : (p : Int) < (n : Int) := by omega
     obtain ⟨lo, hlo⟩ : ∃ lo : Nat, p = lo + 1 := ⟨p - 1, by omega⟩
     have hlo1 : (p : Int) - 1 = (lo : Int) := by omega
     have hlo2 : (p : Int) + 1 = (lo : Int) + 2 := by omega
     obtain ⟨a3, hcut3, hn3, hrd3⟩ := cutI_two (a := a) (len := n) (cap := c) lo (by omega) HRW.out.2.2.1
     have HR3 : Hid (∀ V : World, Below w7.heap.size w7 V → Rd .i64 V a3 2 [row.getD lo 0, row.getD (lo + 1) 0]) := fun V hV => hrd3 V row (HRV.out V hV)
     have HN3 : Hid (a3 = none → c - lo = 0) := fun h => by
      rcases hn3 h with h | h
      ·exact h.elim
      ·have := HRW.out.2.2.2 h; omega
     have HB7P : Hid (Below w7.heap.size w7 wr) := HB8.out.trans (HBP.out.mono HB8.out.size)
     have HS : Hid (Calls Tryd.prog 18 #[.pointer (some ⟨tb, 0, none⟩), .slice a3 2 (c - lo)] wr (BdsQ 4 rl 2 [row.getD lo 0, row.getD (lo + 1) 0] wr)) := segBnd_any 4 tb 2 (c - lo) rl [row.getD lo 0, row.getD (lo + 1) 0] a3 wr (HTA.out wr HB7P.out) (by have := HRL.out.1; omega) (HR3.out wr HB7P.out) HN3.out (by omega)
     have HLO : Hid (p = lo + 1) := hlo
     clear hn3 hrd3 hlo
     go_wp2_with fail
     refine HS.out.mono ?_
     rintro e w9 ⟨hb9, hor⟩
     have HB9 : Hid (Below wr.heap.size wr w9) := hb9
     have hmem : ∀ j, j < n → row.getD j 0 ∈ row := fun j hj => by
      rw [List.getD_eq_getElem?_getD, List.getElem?_eq_getElem (by rw [HRW.out.1]; exact hj)]; exact List.getElem_mem _
     obtain ⟨L2, g2, rfl, hg2, hbd2⟩ : ∃ L g, e = .returned (.tuple #[.slice (some ⟨g, 0, none⟩) (2 + 1) (2 + 1), .int .i64 0]) ∧ w9.heap[g]? = some (.cells (bFun 2 (fun q => decide (q ∈ L))) 4) ∧ IsBd 4 rl 2 [row.getD lo 0, row.getD (lo + 1) 0] L := by
      rcases hor with ⟨h, _⟩ | ⟨_, h⟩
      ·refine absurd (fun y hy => ?_) h
       rcases List.mem_cons.1 hy with rfl | hy
       ·exact HRW.out.2.1 _ (hmem lo (by have := HLO.out; omega))
       ·rw [List.mem_singleton.1 hy]; exact HRW.out.2.1 _ (hmem (lo + 1) (by have := HLO.out; omega))
      ·exact h
     obtain ⟨z, hz⟩ : ∃ z, z = decide (p ∈ L) := ⟨_, rfl⟩
     have hz2 : decide (1 ∈ L2) = z := by
      rw [hz]
      have e1 : lo = p - 1 := by have := HLO.out; omega
      have e2 : lo + 1 = p := HLO.out.symm
      rw [e2, e1] at hbd2
      exact IsBd.near HRL.out.2 HRW.out.1 HRW.out.2.1 HBD.out hp0 hp hbd2
     have d1 : w9.cell? ⟨g2, 1, none⟩ = some (.bool z) := by rw [cell_of_row w9 g2 1 _ _ _ hg2, bFun_get 2 _ (by omega), hz2]
     have d2 : w9.cell? ⟨g, p, none⟩ = some (.bool z) := by rw [hz]; exact HG8.out w9 (HBP.out.trans (HB9.out.mono HBP.out.size)) p (by omega)
     have hzz : (z != z) = false := by simp
     have hp00 : (0 : Int) ≤ (p : Int) := by omega
     have hp1 : (p : Int) < (n : Int) + 1 := by omega
     clear hb9 hor hg2 hbd2 hz hz2 hmem HS hcut3
     go_wp2_with fail
     go_quiet (fail)
     clear d1 d2
     go_wp2_with fail
     go_roundw
     case rel => exact ⟨p + 1, by omega, by go_num, bdN (HBP.out.trans (HB9.out.mono HBP.out.size)) _⟩
     case measure => simp [intOf]; omega
    ·have hpi : ¬ (p : Int) < (n : Int) := by omega
     go_wp2_with fail
     go_ret
     exact ⟨rfl, HBW.out wr (HB8.out.trans (HBP.out.mono HB8.out.size))⟩
end Go.Proofs.YtcafffohnokjgaaDoor
