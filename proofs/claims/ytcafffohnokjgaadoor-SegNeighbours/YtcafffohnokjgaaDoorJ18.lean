/- In one text: DfaKd, DfaKf, DfaKe, NfaQ, NfaS. -/
import Derived.Test.YtcafffohnokjgaaDoorJ17
import Derived.Test.YtcafffohnokjgaaDoorJ01
import Derived.Test.YtcafffohnokjgaaDoorJ02
/- The walk of merged. -/
namespace Go.Proofs.YtcafffohnokjgaaDoor
open Go.RowKit Go.Shelf Go.Maps
set_option linter.unusedVariables false
set_option linter.unusedSimpArgs false

structure MchO (w : World) (K lb : Nat) (v9 v10 : Value) (nx : List (List Nat)) (ou : List Nat) : Prop where
 blk : w.heap[lb]? = some (.cells #[.int .i64 (K : Int), v9, v10] 112)
 nxw : NxW w K v9 nx
 our : ∃ B, w.ownsRow B 58 1 v10 ou.length (uv ou)
theorem MchO.later {w w' : World} {K lb : Nat} {v9 v10 : Value} {nx : List (List Nat)} {ou : List Nat} (h : MchO w K lb v9 v10 nx ou) (hb : Below w.heap.size w w') : MchO w' K lb v9 v10 nx ou :=
 ⟨(hb.block lb (Array.getElem?_eq_some_iff.1 h.blk).1).trans h.blk, h.nxw.later hb, h.our.elim fun B hB => ⟨B, own_later5 hB hb⟩⟩
set_option maxRecDepth 100000 in
set_option maxHeartbeats 16000000 in
theorem merged_any (w : World) (K bm ob kb : Nat) (v9 : Value) (nx : List (List Nat)) (ou kd : List Nat) (hM : MchR w K bm v9 ob nx ou) (hk : IRow w kb kd) (hl : kd.length = nx.length) (hlo : ou.length = nx.length) (hw : Wide K nx) (hn : ∀ i c, nxt nx i c < nx.length) (hK : K ≤ 24) (hL : nx.length ≤ 2000) :
 Calls Tryd.prog 37 #[.pointer (some ⟨bm, 0, none⟩), .slice (some ⟨kb, 0, none⟩) kd.length kd.length] w fun e w' => ∃ lb u9 u10, e = .returned (.pointer (some ⟨lb, 0, none⟩)) ∧ MchO w' K lb u9 u10 (mrgN nx kd) (mrgO ou kd) ∧ Below w.heap.size w w' := by
 obtain ⟨m, hm⟩ : ∃ m, m = kd.length := ⟨_, rfl⟩
 have HM : Hid (m = kd.length ∧ m = nx.length ∧ m = ou.length) := ⟨hm, hm.trans hl, (hm.trans hl).trans hlo.symm⟩
 have hmi : (m : Int) ≤ 2000 := by omega
 have hKi : (K : Int) ≤ 24 := by omega
 have hmk := make_i K (by omega)
 obtain ⟨LB, hLB⟩ : ∃ LB, LB = w.heap.size := ⟨_, rfl⟩
 obtain ⟨wA, hwA⟩ : ∃ wA, wA = w.alloc (.cells #[.int .i64 (K : Int), .slice none 0 0, .slice none 0 0] 112) := ⟨_, rfl⟩
 have HBA : Hid (Below w.heap.size w wA) := by rw [hwA]; exact (Below.refl _ w).alloc (Nat.le_refl _) _
 have HLA : Hid (LstA w.heap.size wA K LB wA.heap.size (.slice none 0 0) (.slice none 0 0) [] []) := ⟨by rw [hwA, hLB]; exact heap_alloc_new w _, NxAt.nil _ _ _ _, ⟨rfl, .inl ⟨rfl, rfl⟩⟩⟩
 have HT : Hid (LB = w.heap.size) := hLB
 have HMR : Hid (MchR w K bm v9 ob nx ou) := hM
 have HKR : Hid (IRow w kb kd) := hk
 have HWD : Hid (Wide K nx ∧ (∀ i c, nxt nx i c < nx.length)) := ⟨hw, hn⟩
 have m0 : w.cell? ⟨bm, 0, none⟩ = some (.int .i64 (K : Int)) := cell_of_row w bm 0 _ _ _ hM.blk
 rw [← hm]
 clear hM hk hw hn hl hlo hm hL
 go_enter Tryd.func37, Tryd.ntmps37
 go_upto_region 2 with fail
 rw [← hLB, ← hwA]
 clear hLB hwA m0
 go_wp2
 go_loopw [19] (fun x19 wr => ∃ (k n c9 c10 : Nat) (a9 a10 : Option Addr) (nN : List (List Nat)) (nO : List Nat), k ≤ m ∧ x19 = .int .i64 (k : Int) ∧ n = nO.length ∧ MgP nx ou kd k nN nO ∧ LstA w.heap.size wr K LB wr.heap.size (.slice a9 n c9) (.slice a10 n c10) nN nO ∧ Below w.heap.size w wr) (fun x19 _ => m - (intOf x19).toNat)
 case atStart => exact ⟨0, 0, 0, 0, none, none, [], [], by omega, rfl, rfl, MgP.zero _ _ _, HLA.out, HBA.out⟩
 case round =>
  obtain ⟨k, n, c9, c10, a9, a10, nN, nO, hk, hx19, hn, hmg, hla, hbw⟩ := hrel
  subst hx19
  have HN : Hid (n = nO.length) := hn
  have HMG : Hid (MgP nx ou kd k nN nO) := hmg
  have HLW : Hid (LstA w.heap.size wr K LB wr.heap.size (.slice a9 n c9) (.slice a10 n c10) nN nO) := hla
  have HBW : Hid (Below w.heap.size w wr) := hbw
  have hnk : (n : Int) ≤ (k : Int) := by have := hmg.few; omega
  clear hn hmg hla hbw
  by_cases hlt : k < m
  ·have hkx : k < nx.length := by rw [← HM.out.2.1]; exact hlt
   have hkk : k < kd.length := by rw [← HM.out.1]; exact hlt
   have hko : k < ou.length := by rw [← HM.out.2.2]; exact hlt
   have a0 := upC HBW.out (HKR.out.cell hkk)
   obtain ⟨X, hX⟩ : ∃ X, X = kd[k] := ⟨_, rfl⟩
   rw [← hX] at a0
   have HX : Hid (X = kd[k]) := hX
   have b0 : wr.cell? ⟨LB, 2, none⟩ = some (.slice a10 n c10) := cell_of_row wr LB 2 _ _ _ HLW.out.blk
   clear hX
   by_cases hc : (X : Int) < (n : Int)
   ·have HF : Hid (MgP nx ou kd (k + 1) nN nO) := HMG.out.skip hkk hkx hko (by rw [← HX.out, ← HN.out]; omega)
    go_wp2_with fail
    go_roundw
    case rel => exact ⟨k + 1, n, c9, c10, a9, a10, nN, nO, by omega, by go_num, HN.out, HF.out, HLW.out, HBW.out⟩
    case measure => simp [intOf]; omega
   ·obtain ⟨F, hF⟩ : ∃ F, F = nx[k].map (kd.getD · 0) := ⟨_, rfl⟩
    have hFl : F.length = K := by rw [hF, List.length_map]; exact HWD.out.1 _ (List.getElem_mem hkx)
    have HF : Hid (F = nx[k].map (kd.getD · 0) ∧ F.length = K) := ⟨hF, hFl⟩
    clear hF hFl
    obtain ⟨R, hR⟩ : ∃ R, R = wr.heap.size := ⟨_, rfl⟩
    obtain ⟨w1, hw1⟩ : ∃ w1, w1 = wr.alloc (.cells (iv (List.replicate K 0)).toArray 3) := ⟨_, rfl⟩
    have HB1 : Hid (Below w.heap.size w w1) := by rw [hw1]; exact HBW.out.alloc HBW.out.size _
    have HI1 : Hid (IRow w1 R (mix 0 F (List.replicate K 0))) := by show IRow _ _ _; rw [hw1, hR, mix_zero]; exact heap_alloc_new wr _
    have HL1 : Hid (LstA w.heap.size w1 K LB R (.slice a9 n c9) (.slice a10 n c10) nN nO) := by
     rw [hw1, hR]; exact HLW.out.later ((Below.refl _ wr).alloc (Nat.le_refl _) _)
    have HR : Hid (w.heap.size ≤ R) := by rw [hR]; exact HBW.out.size
    obtain ⟨g, cap, rb, hv, hg1, hrb⟩ := HMR.out.nxw.read hkx
    have a1 : w1.cell? ⟨bm, 1, none⟩ = some v9 := upC HB1.out (cell_of_row w bm 1 _ _ _ HMR.out.blk)
    rw [hv, ← HM.out.2.1] at a1
    have a2 := upC HB1.out hg1
    have a3 := upC HBW.out (cell_of_row w bm 0 _ _ _ HMR.out.blk)
    have a3' : wr.cell? ⟨bm, 0, none⟩ = some (.int .i64 (K : Int)) := a3
    have HRB : Hid (IRow w rb nx[k] ∧ nx[k].length = K) := ⟨hrb, HWD.out.1 _ (List.getElem_mem hkx)⟩
    clear hv hg1 hrb a3
    go_upto_region 7 with fail
    rw [← hR, ← hw1]
    clear hR hw1 a0 b0 a3'
    go_wp2
    clear a1 a2
    go_loopw [44] (fun x44 wq => ∃ (j : Nat), j ≤ K ∧ x44 = .int .i64 (j : Int) ∧ w1.grownBy wq (some R) ∧ IRow wq R (mix j F (List.replicate K 0))) (fun x44 _ => K - (intOf x44).toNat)
    case atStart => exact ⟨0, by omega, rfl, grown_refl _ _, HI1.out⟩
    case round =>
     obtain ⟨j, hj, hx44, hgq, hiq⟩ := hrel
     subst hx44
     have HGQ : Hid (w1.grownBy wr (some R)) := hgq
     have HIQ : Hid (IRow wr R (mix j F (List.replicate K 0))) := hiq
     have HBQ : Hid (Below w.heap.size w wr) := HB1.out.grown hgq HB1.out.size (fun j e => by cases e; exact HR.out)
     clear hgq hiq
     by_cases hjl : j < K
     ·have hjr : j < nx[k].length := by rw [HRB.out.2]; exact hjl
      have a3 := upC HBQ.out (HRB.out.1.cell hjr)
      obtain ⟨s, hs⟩ : ∃ s, s = nx[k][j] := ⟨_, rfl⟩
      rw [← hs] at a3
      have hsl : s < kd.length := by
       have := HWD.out.2 k j
       rw [nxt_in hkx hjr] at this
       rw [hs, ← HM.out.1, HM.out.2.1]; exact this
      have hsi : (s : Int) < (m : Int) := by have := HM.out.1; omega
      have a4 := upC HBQ.out (HKR.out.cell hsl)
      obtain ⟨z, hz⟩ : ∃ z, z = kd[s] := ⟨_, rfl⟩
      rw [← hz] at a4
      have hjF : j < F.length := by rw [HF.out.2]; exact hjl
      have hzF : z = F[j] := by
       have : ∀ h, F[j]'h = kd[s] := fun h => by
        have := HF.out.1
        subst this
        subst hs
        simp [List.getD_eq_getElem?_getD, hsl]
       rw [hz, this]
      have hrl : (List.replicate K 0).length = F.length := by rw [HF.out.2]; simp
      have hml : j < (mix j F (List.replicate K 0)).length := by rw [mix_len hrl]; exact hjF
      have c1 := HIQ.out.cell hml
      obtain ⟨x0, hx0⟩ : ∃ x0, x0 = (mix j F (List.replicate K 0))[j] := ⟨_, rfl⟩
      rw [← hx0] at c1
      have f1 := HIQ.out.frozen j
      obtain ⟨w2, hw2⟩ : ∃ w2, w2 = wr.setCell ⟨R, j, none⟩ (.int .i64 (z : Int)) := ⟨_, rfl⟩
      have HFF : Hid (w1.grownBy w2 (some R) ∧ IRow w2 R (mix (j + 1) F (List.replicate K 0))) := by
       refine ⟨by rw [hw2]; exact grown_put _ HGQ.out, ?_⟩
       have h1 := HIQ.out.set j z
       rw [← hw2] at h1
       have h2 := mix_set (n := j) hrl hjF
       rw [← hzF] at h2
       rw [h2] at h1
       exact h1
      clear hs hsl hz hjF hzF hml hx0 hjr hrl
      go_wp2_with fail
      rw [← hw2]
      clear hw2 c1 f1 a3 a4
      go_roundw
      case rel => exact ⟨j + 1, by omega, by go_num, HFF.out⟩
      case measure => simp [intOf]; omega
     ·obtain rfl : j = K := by omega
      have HIF : Hid (IRow wr R F) := by
       have h1 := HIQ.out
       have h2 := mix_all (F := F) (R := List.replicate j 0) (by rw [HF.out.2]; simp)
       rw [HF.out.2] at h2
       rw [h2] at h1
       exact h1
      have HLQ : Hid (LstA w.heap.size wr j LB R (.slice a9 n c9) (.slice a10 n c10) nN nO) := HL1.out.row HI1.out HGQ.out
      obtain ⟨bs, hb1, hb2, hb3⟩ := HLQ.out.nxt
      have hnN : nN.length = n := by rw [HMG.out.len, HN.out]
      have HBS3 : Hid (bs.length = nN.length ∧ nN.length = n ∧ ∀ (i b : Nat) (r : List Nat), bs[i]? = some b → nN[i]? = some r → IRow wr b r ∧ b < R) := ⟨hb1, hnN, hb3⟩
      have HO9 : Hid (wr.ownsRow w.heap.size 26 1 (.slice a9 n c9) n (bs.map (rowV j))) := by rw [hnN] at hb2; exact hb2
      obtain ⟨j0, ji, jz0, jz1, jz2⟩ := info_parts info_ints
      have HJ : Hid (Tryd.prog.info? 26 = some j0 ∧ j0.zero = some (.slice none 0 0) ∧ j0.size = 1 ∧ j0.bytes = 24) := ⟨ji, jz0, jz1, jz2⟩
      have HBS : Hid (w.heap.size ≤ wr.heap.size) := HBQ.out.size
      have HFIN : Hid (∀ (g6 cap6 : Nat) (w6 : World), w6.ownsRow w.heap.size 26 1 (.slice (some ⟨g6, 0, none⟩) (n + 1) cap6) (n + 1) (bs.map (rowV j) ++ [rowV j R]) → (wr.alloc (.cells #[.slice (some ⟨R, 0, none⟩) j j] 26)).grownBy w6 (Value.slice a9 n c9).ownBlock →
       (w6.cell? ⟨LB, 1, none⟩ = some (.slice a9 n c9) ∧ w6.frozen? ⟨LB, 1, none⟩ = false) ∧ LstA w.heap.size (w6.setCell ⟨LB, 1, none⟩ (.slice (some ⟨g6, 0, none⟩) (n + 1) cap6)) j LB w6.heap.size (.slice (some ⟨g6, 0, none⟩) (n + 1) cap6) (.slice a10 n c10) (nN ++ [F]) nO ∧ Below w.heap.size w (w6.setCell ⟨LB, 1, none⟩ (.slice (some ⟨g6, 0, none⟩) (n + 1) cap6))) := fun g6 cap6 w6 q1 q2 => by
       have hb6 : Below wr.heap.size wr (wr.alloc (.cells #[.slice (some ⟨R, 0, none⟩) j j] 26)) := (Below.refl _ wr).alloc (Nat.le_refl _) _
       have hRl := HIF.out.lt
       have hsz : wr.heap.size ≤ w6.heap.size := Nat.le_trans hb6.size q2.size
       have hLV := HLQ.out.later hb6
       have hblk := hLV.blk9 q2
       refine ⟨⟨cell_of_row w6 LB 1 _ _ _ hblk, Lib.frozen_of_heap hblk 1⟩, hLV.putN (bs := bs) HBS3.out.1 (by rw [HBS3.out.2.1]; exact own_later5 HO9.out hb6) (fun i b r hi hr => ⟨(HBS3.out.2.2 i b r hi hr).1.later hb6, (HBS3.out.2.2 i b r hi hr).2⟩) (by omega) (HIF.out.later hb6) (by omega) q2 (by rw [HBS3.out.2.1]; exact q1), ?_⟩
       exact ((HBQ.out.alloc HBQ.out.size _).grown q2 (Nat.le_trans HBQ.out.size hb6.size) (fun k e => (own_lt HO9.out e).1)).setCell (p := ⟨LB, 1, none⟩) (by show w.heap.size ≤ LB; rw [HT.out]; exact Nat.le_refl _) _
      obtain ⟨av, hav⟩ : ∃ av, av = bs.map (rowV j) := ⟨_, rfl⟩
      rw [← hav] at HO9 HFIN
      have b1 : wr.cell? ⟨LB, 1, none⟩ = some (.slice a9 n c9) := cell_of_row wr LB 1 _ _ _ HLQ.out.blk
      clear hb1 hb2 hb3 ji jz0 jz1 jz2 hav hnN
      unfold rowV at HFIN
      go_upto_region 13 with (at_builtin; refine wpList_append_lies _ rfl _ _ 96 rfl w.heap.size 26 j0 _ 1 24 Tryd.underlying96 HJ.out.1 HJ.out.2.1 HJ.out.2.2.1 HJ.out.2.2.2 rfl (by decide) (.slice a9 n c9) n av rfl (own_later5 HO9.out ((Below.refl _ wr).alloc (Nat.le_refl _) _)) ⟨wr.heap.size, 0, none⟩ 1 1 [.slice (some ⟨R, 0, none⟩) j j] rfl rfl (World.news_of_block (cs := #[.slice (some ⟨R, 0, none⟩) j j]) (t := 26) (fr := (0, 0)) (heap_alloc_new wr _)) (by simp [Value.oneCell']) (by omega) (by unfold maxLen; omega) (by omega) (by have := HBS.out; simp; omega) _ rfl (fun g6 cap6 w6 q1 q2 q3 q4 => ?_); have HFH := HFIN.out g6 cap6 w6 q1 q2; have HFX : Hid (LstA w.heap.size (w6.setCell ⟨LB, 1, none⟩ (.slice (some ⟨g6, 0, none⟩) (n + 1) cap6)) j LB w6.heap.size (.slice (some ⟨g6, 0, none⟩) (n + 1) cap6) (.slice a10 n c10) (nN ++ [F]) nO ∧ Below w.heap.size w (w6.setCell ⟨LB, 1, none⟩ (.slice (some ⟨g6, 0, none⟩) (n + 1) cap6))) := HFH.2; have t0 := HFH.1.1; have t1 := HFH.1.2; clear HFH q1 q2 q3 q4)
      clear HFIN b1 HJ
      obtain ⟨S6, hS6⟩ : ∃ S6, S6 = w6.heap.size := ⟨_, rfl⟩
      obtain ⟨w7, hw7⟩ : ∃ w7, w7 = w6.setCell ⟨LB, 1, none⟩ (.slice (some ⟨g6, 0, none⟩) (n + 1) cap6) := ⟨_, rfl⟩
      have hs7 : w7.heap.size = S6 := by rw [hw7, hS6]; simp
      rw [← hw7, ← hS6] at HFX
      rw [← hw7]
      clear hw7 hS6 t0 t1
      have HL7 : Hid (LstA w.heap.size w7 j LB w7.heap.size (.slice (some ⟨g6, 0, none⟩) (n + 1) cap6) (.slice a10 n c10) (nN ++ [F]) nO) := by rw [hs7]; exact HFX.out.1
      have HB7 : Hid (Below w.heap.size w w7) := HFX.out.2
      clear hs7 HFX
      obtain ⟨j1, ji, jz0, jz1, jz2⟩ := info_parts info_u64
      have HJ : Hid (Tryd.prog.info? 58 = some j1 ∧ j1.zero = some (.int .u64 0) ∧ j1.size = 1 ∧ j1.bytes = 8) := ⟨ji, jz0, jz1, jz2⟩
      obtain ⟨Y, hY⟩ : ∃ Y, Y = ou[k] := ⟨_, rfl⟩
      have e2 := upC HB7.out (HMR.out.our.cell hko)
      rw [← hY] at e2
      have HY : Hid (Y = ou[k]) := hY
      have e1 : w7.cell? ⟨bm, 2, none⟩ = some (.slice (some ⟨ob, 0, none⟩) m m) := by rw [HM.out.2.2]; exact upC HB7.out (cell_of_row w bm 2 _ _ _ HMR.out.blk)
      have HOW : Hid (∀ V : World, Below w7.heap.size w7 V → V.ownsRow w.heap.size 58 1 (.slice a10 n c10) n (uv nO)) := fun V hV => by
       have h1 := own_later5 HL7.out.out hV
       rw [← HN.out] at h1
       exact h1
      have HE0 : Hid (∀ V : World, Below w7.heap.size w7 V → V.cell? ⟨LB, 2, none⟩ = some (.slice a10 n c10)) := fun V hV => upC hV (cell_of_row w7 LB 2 _ _ _ HL7.out.blk)
      have e0 := HE0.out w7 (Below.refl _ _)
      have d0 := HE0.out (w7.alloc (.cells #[.int .u64 (Y : Int)] 58)) ((Below.refl _ w7).alloc (Nat.le_refl _) _)
      have HBS7 : Hid (w.heap.size ≤ w7.heap.size) := HB7.out.size
      have HFIN : Hid (∀ (V w8 : World) (g8 cap8 : Nat), Below w7.heap.size w7 V → w8.ownsRow w.heap.size 58 1 (.slice (some ⟨g8, 0, none⟩) (n + 1) cap8) (n + 1) (uv nO ++ [.int .u64 (Y : Int)]) → V.grownBy w8 (Value.slice a10 n c10).ownBlock →
       (w8.cell? ⟨LB, 2, none⟩ = some (.slice a10 n c10) ∧ w8.frozen? ⟨LB, 2, none⟩ = false) ∧ LstA w.heap.size (w8.setCell ⟨LB, 2, none⟩ (.slice (some ⟨g8, 0, none⟩) (n + 1) cap8)) j LB (w8.setCell ⟨LB, 2, none⟩ (.slice (some ⟨g8, 0, none⟩) (n + 1) cap8)).heap.size (.slice (some ⟨g6, 0, none⟩) (n + 1) cap6) (.slice (some ⟨g8, 0, none⟩) (n + 1) cap8) (nN ++ [F]) (nO ++ [Y]) ∧ Below w.heap.size w (w8.setCell ⟨LB, 2, none⟩ (.slice (some ⟨g8, 0, none⟩) (n + 1) cap8))) := fun V w8 g8 cap8 hV q1 q2 => by
       have hLV := HL7.out.later hV
       have hblk := hLV.blk10 q2
       have hsz : w7.heap.size ≤ w8.heap.size := Nat.le_trans hV.size q2.size
       have hBV := HB7.out.trans (hV.mono HB7.out.size)
       refine ⟨⟨cell_of_row w8 LB 2 _ _ _ hblk, Lib.frozen_of_heap hblk 2⟩, (hLV.putO q2 (by rw [← HN.out]; exact q1)).up (by simp; exact hsz), ?_⟩
       exact (hBV.grown q2 hBV.size (fun k e => (own_lt (HOW.out V hV) e).1)).setCell (p := ⟨LB, 2, none⟩) (by show w.heap.size ≤ LB; rw [HT.out]; exact Nat.le_refl _) _
      have HMN : Hid (MgP nx ou kd (k + 1) (nN ++ [F]) (nO ++ [Y])) := by
       have h1 := HMG.out.put hkk hkx hko (by rw [← HX.out, ← HN.out]; omega)
       rw [← HF.out.1, ← HY.out] at h1
       exact h1
      clear hY ji jz0 jz1 jz2
      go_region_law (refine step_append_lies _ (by rfl) _ _ 81 (by rfl) w.heap.size 58 j1 _ 1 8 Tryd.underlying81 HJ.out.1 HJ.out.2.1 HJ.out.2.2.1 HJ.out.2.2.2 rfl (by decide) (.slice a10 n c10) n (uv nO) (by rfl) (HOW.out _ (((Below.refl _ w7).drew).alloc (by simp) _)) ⟨w7.heap.size, 0, none⟩ 1 1 [.int .u64 (Y : Int)] (by rfl) (by rfl) (World.news_of_block (cs := #[.int .u64 (Y : Int)]) (t := 58) (fr := (0, 0)) (heap_alloc_new w7.drew _)) (by simp [Value.oneCell']) (by omega) (by unfold maxLen; omega) (by omega) (by have := HBS7.out; simp; omega) _ rfl ?_; intro g8 cap8 w8 hown hgrow hat hlt8; have hfar := (HFIN.out _ _ _ _ (((Below.refl _ w7).drew).alloc (by simp) _) hown hgrow).1; have hfz := hfar.2; have hcz := hfar.1; clear hfar)
      all_goals
       have HFF : Hid (LstA w.heap.size (w8.setCell ⟨LB, 2, none⟩ (.slice (some ⟨g8, 0, none⟩) (n + 1) cap8)) j LB (w8.setCell ⟨LB, 2, none⟩ (.slice (some ⟨g8, 0, none⟩) (n + 1) cap8)).heap.size (.slice (some ⟨g6, 0, none⟩) (n + 1) cap6) (.slice (some ⟨g8, 0, none⟩) (n + 1) cap8) (nN ++ [F]) (nO ++ [Y]) ∧ Below w.heap.size w (w8.setCell ⟨LB, 2, none⟩ (.slice (some ⟨g8, 0, none⟩) (n + 1) cap8))) := (HFIN.out _ _ _ _ (((Below.refl _ w7).drew).alloc (by simp) _) hown hgrow).2
       clear hown hgrow hat hlt8 e0 e1 e2 d0 hfz hcz HFIN
       go_wp2
       go_roundw
       case rel => exact ⟨k + 1, n + 1, cap6, cap8, _, _, nN ++ [F], nO ++ [Y], by omega, by go_num, by simp [HN.out], HMN.out, HFF.out⟩
       case measure => simp [intOf]; omega
  ·obtain rfl : k = m := by omega
   have HFF : Hid (MchO wr K LB (.slice a9 n c9) (.slice a10 n c10) (mrgN nx kd) (mrgO ou kd) ∧ Below w.heap.size w wr) := by
    obtain ⟨h1, h2⟩ := HMG.out.done (by rw [← HM.out.1]; exact Nat.le_refl _)
    rw [h1, h2]
    exact ⟨⟨HLW.out.blk, HLW.out.nxt.w, ⟨_, HLW.out.out⟩⟩, HBW.out⟩
   go_wp2
   go_ret
   exact ⟨LB, _, _, rfl, HFF.out⟩
end Go.Proofs.YtcafffohnokjgaaDoor

/- When there is no machine, by the rows alone: too many situations, or too many that tell different things. -/
namespace Go.Proofs.YtcafffohnokjgaaDoor
open Go.RowKit Go.Shelf Go.Maps
set_option linter.unusedVariables false
set_option linter.unusedSimpArgs false

def Wd (K : Nat) (w : List Nat) : Prop := ∀ c, c ∈ w → c < K
def sitC (xs : List (Nd × Bool)) (w : List Nat) : List (Nat × Bool) := xs.map fun x => w.foldl (stO x) (fiO x)
def ManyC (K : Nat) (xs : List (Nd × Bool)) : Prop := ∃ L : List (List Nat), L.length = 2001 ∧ (∀ w, w ∈ L → Wd K w) ∧ L.Pairwise (fun a b => sitC xs a ≠ sitC xs b)
def outC (xs : List (Nd × Bool)) (w : List Nat) (i : Nat) : Prop := ∃ x, xs[i]? = some x ∧ ∃ u v : List Int, w.map Int.ofNat = u ++ v ∧ (x.2 = true → u = []) ∧ x.1.fits v
def FarW (K : Nat) (xs : List (Nd × Bool)) (a b : List Nat) : Prop := ∃ v, Wd K v ∧ ∃ i, ¬ (outC xs (a ++ v) i ↔ outC xs (b ++ v) i)
def FarC (K : Nat) (xs : List (Nd × Bool)) : Prop := ∃ L : List (List Nat), L.length = 401 ∧ (∀ w, w ∈ L → Wd K w) ∧ L.Pairwise (FarW K xs)
def BigC (K : Nat) (xs : List (Nd × Bool)) : Prop := ManyC K xs ∨ FarC K xs
theorem pair_few {α : Type} {L : List α} {R : α → α → Prop} (f : α → Nat) (n : Nat) (hf : ∀ a, a ∈ L → f a < n) (hR : ∀ a b, a ∈ L → b ∈ L → R a b → f a ≠ f b) (h : L.Pairwise R) : L.length ≤ n := by
 have h1 : (L.map f).Nodup := by
  unfold List.Nodup
  rw [List.pairwise_map]
  exact h.imp_of_mem (fun ha hb hab => hR _ _ ha hb hab)
 have h2 : (L.map f).length ≤ (List.range n).length := List.Nodup.length_le_of_subset h1 (fun x hx => by
  obtain ⟨a, ha, rfl⟩ := List.mem_map.1 hx
  exact List.mem_range.2 (hf a ha))
 simpa using h2
theorem pair_words {S : Type} {L : List S} {P : List Nat → S → Prop} {R : List Nat → List Nat → Prop} (hn : L.Nodup) (hP : ∀ x, x ∈ L → ∃ w, P w x) (hR : ∀ x y w v, x ≠ y → P w x → P v y → R w v) : ∃ M : List (List Nat), M.length = L.length ∧ (∀ w, w ∈ M → ∃ x, x ∈ L ∧ P w x) ∧ M.Pairwise R := by
 induction L with
 | nil => exact ⟨[], rfl, fun w hw => by simp at hw, List.Pairwise.nil⟩
 | cons x L ih =>
   obtain ⟨M, h1, h2, h3⟩ := ih (List.nodup_cons.1 hn).2 (fun y hy => hP y (List.mem_cons_of_mem _ hy))
   obtain ⟨w, hw⟩ := hP x List.mem_cons_self
   refine ⟨w :: M, by simp [h1], fun v hv => ?_, List.pairwise_cons.2 ⟨fun v hv => ?_, h3⟩⟩
   ·rcases List.mem_cons.1 hv with rfl | hv
    ·exact ⟨x, List.mem_cons_self, hw⟩
    ·obtain ⟨y, hy, hp⟩ := h2 v hv
     exact ⟨y, List.mem_cons_of_mem _ hy, hp⟩
   ·obtain ⟨y, hy, hp⟩ := h2 v hv
    exact hR x y w v (fun e => (List.nodup_cons.1 hn).1 (e ▸ hy)) hw hp
theorem sit_same {K : Nat} {xs : List (Nd × Bool)} {Ms : List (List (Nat × Bool))} {nxs : List (List (List Nat))} (h1 : Ms.length = xs.length) (h2 : nxs.length = xs.length) (hs : SpotsA K xs Ms nxs) {a b : List Nat} (ha : Wd K a) (hb : Wd K b) : a.foldl (stepAll nxs) (List.replicate xs.length 0) = b.foldl (stepAll nxs) (List.replicate xs.length 0) ↔ sitC xs a = sitC xs b := by
 rw [fold_all nxs a _ (by simp [h2]), fold_all nxs b _ (by simp [h2])]
 have hg : ∀ i (hi : i < xs.length) (w : List Nat), Wd K w → (Ms[i]'(by omega))[runM (nxs[i]'(by omega)) 0 w]? = some (w.foldl (stO xs[i]) (fiO xs[i])) := by
  intro i hi w hw
  obtain ⟨hp, _, _⟩ := hs i xs[i] (Ms[i]'(by omega)) (nxs[i]'(by omega)) (List.getElem?_eq_getElem _) (List.getElem?_eq_getElem _) (List.getElem?_eq_getElem _)
  exact meet_run hp.meet hp.all w hw 0 _ hp.meet.one
 constructor
 ·intro e
  apply List.ext_getElem (by simp [sitC])
  intro i hi1 hi2
  have hi : i < xs.length := by simpa [sitC] using hi1
  have e1 : (List.zipWith (fun nx s => runM nx s a) nxs (List.replicate xs.length 0))[i]'(by simp [h2, hi]) = (List.zipWith (fun nx s => runM nx s b) nxs (List.replicate xs.length 0))[i]'(by simp [h2, hi]) := by simp only [e]
  simp only [List.getElem_zipWith, List.getElem_replicate] at e1
  have ga := hg i hi a ha
  have gb := hg i hi b hb
  rw [e1, gb] at ga
  simp only [sitC, List.getElem_map]
  exact (Option.some.inj ga).symm
 ·intro e
  apply List.ext_getElem (by simp [h2])
  intro i hi1 hi2
  have hi : i < xs.length := by simp [h2] at hi1; exact hi1
  simp only [List.getElem_zipWith, List.getElem_replicate]
  have e1 : (sitC xs a)[i]'(by simp [sitC, hi]) = (sitC xs b)[i]'(by simp [sitC, hi]) := by simp only [e]
  simp only [sitC, List.getElem_map] at e1
  obtain ⟨hp, _, _⟩ := hs i xs[i] (Ms[i]'(by omega)) (nxs[i]'(by omega)) (List.getElem?_eq_getElem _) (List.getElem?_eq_getElem _) (List.getElem?_eq_getElem _)
  have ga := hg i hi a ha
  have gb := hg i hi b hb
  rw [e1] at ga
  exact meet_inj hp.meet ga gb
theorem many_of {K : Nat} {xs : List (Nd × Bool)} (h : SitF K xs) : ManyC K xs := by
 rcases h with ⟨x, hx, L, hn, hl, hr⟩ | ⟨Ms, nxs, h1, h2, hs, L, hn, hl, hr⟩
 ·obtain ⟨M, m1, m2, m3⟩ := pair_words (P := fun w y => Wd K w ∧ y = w.foldl (stO x) (fiO x)) (R := fun a b => sitC xs a ≠ sitC xs b) hn (fun y hy => hr y hy) (fun y z w v hne hw hv e => by
   obtain ⟨i, hi, rfl⟩ := List.getElem_of_mem hx
   have e1 : (sitC xs w)[i]'(by simp [sitC, hi]) = (sitC xs v)[i]'(by simp [sitC, hi]) := by simp only [e]
   simp only [sitC, List.getElem_map] at e1
   exact hne (by rw [hw.2, hv.2, e1]))
  exact ⟨M, by omega, fun w hw => (m2 w hw).choose_spec.2.1, m3⟩
 ·obtain ⟨M, m1, m2, m3⟩ := pair_words (P := fun w y => Wd K w ∧ y = w.foldl (stepAll nxs) (List.replicate xs.length 0)) (R := fun a b => sitC xs a ≠ sitC xs b) hn (fun y hy => hr y hy) (fun y z w v hne hw hv e => hne (by rw [hw.2, hv.2, (sit_same h1 h2 hs hw.1 hv.1).2 e]))
  exact ⟨M, by omega, fun w hw => (m2 w hw).choose_spec.2.1, m3⟩
theorem not_many {K : Nat} {xs : List (Nd × Bool)} {Ms : List (List (Nat × Bool))} {nxs : List (List (List Nat))} {met nx : List (List Nat)} (h1 : Ms.length = xs.length) (h2 : nxs.length = xs.length) (hs : SpotsA K xs Ms nxs) (hm : MeetP K (stepAll nxs) (List.replicate xs.length 0) met nx) (hl : nx.length = met.length) (h2000 : met.length ≤ 2000) : ¬ ManyC K xs := by
 rintro ⟨L, l1, l2, l3⟩
 have := pair_few (fun w => runM nx 0 w) met.length (fun w hw => (List.getElem?_eq_some_iff.1 (meet_run hm hl w (l2 w hw) 0 _ hm.one)).1) (fun a b ha hb hne e => by
  have ga := meet_run hm hl a (l2 a ha) 0 _ hm.one
  have gb := meet_run hm hl b (l2 b hb) 0 _ hm.one
  have e' : runM nx 0 a = runM nx 0 b := e
  rw [e', gb] at ga
  exact hne ((sit_same h1 h2 hs (l2 a ha) (l2 b hb)).1 (Option.some.inj ga).symm)) l3
 omega
theorem far_of {K : Nat} {xs : List (Nd × Bool)} {nx : List (List Nat)} {ou kd : List Nat} {cnt : Nat} (ha : AsMet nx) (hw : Wide K nx) (ho : ou.length = nx.length) (ht : ∀ w : List Nat, Wd K w → ∀ i, (ou.getD (runM nx 0 w) 0).testBit i = true ↔ outC xs w i) (hk : KndP K nx ou kd cnt) (hc : 400 < cnt) : FarC K xs := by
 obtain ⟨kc, hkc⟩ := kc_of hk.met
 obtain ⟨M, m1, m2, m3⟩ := pair_words (L := List.range 401) (P := fun w v => Wd K w ∧ kd.getD (runM nx 0 w) 0 = v) (R := FarW K xs) List.nodup_range (fun v hv => by
  have hv' : v < kc kd.length := by rw [hkc.last]; have := List.mem_range.1 hv; omega
  obtain ⟨i, hi, he, _⟩ := hkc.first kd.length (Nat.le_refl _) v hv'
  obtain ⟨w, hw1, hw2⟩ := table_met ha hw i (by rw [← hk.len]; exact hi)
  exact ⟨w, hw1, by rw [hw2]; exact he⟩) (fun x y w v hne hx hy => by
  have l0 := asMet_pos ha
  have hi := runM_lt ha l0 w 0 l0
  have hj := runM_lt ha l0 v 0 l0
  obtain ⟨u, hu, hd⟩ := hk.told _ _ hi hj (fun e => hne (by rw [← hx.2, ← hy.2, e]))
  refine ⟨u, hu, ?_⟩
  rw [← runM_app, ← runM_app] at hd
  have : ∃ i, (ou.getD (runM nx 0 (w ++ u)) 0).testBit i ≠ (ou.getD (runM nx 0 (v ++ u)) 0).testBit i := by
   refine Classical.byContradiction fun hno => hd (Nat.eq_of_testBit_eq fun i => ?_)
   exact Classical.byContradiction fun h => hno ⟨i, h⟩
  obtain ⟨i, hi⟩ := this
  refine ⟨i, fun hiff => hi ?_⟩
  have hwu : Wd K (w ++ u) := fun c hc => (List.mem_append.1 hc).elim (hx.1 c) (hu c)
  have hvu : Wd K (v ++ u) := fun c hc => (List.mem_append.1 hc).elim (hy.1 c) (hu c)
  rw [← ht _ hwu, ← ht _ hvu] at hiff
  exact Bool.eq_iff_iff.2 hiff)
 exact ⟨M, by simpa using m1, fun w hw => (m2 w hw).choose_spec.2.1, m3⟩
theorem not_far {K : Nat} {xs : List (Nd × Bool)} {nx : List (List Nat)} {ou : List Nat} (h : LeastOf K xs nx ou) (hn : nx.length ≤ 400) : ¬ FarC K xs := by
 rintro ⟨L, l1, l2, l3⟩
 have l0 := asMet_pos h.asMet
 have := pair_few (fun w => runM nx 0 w) nx.length (fun w _ => runM_lt h.asMet l0 w 0 l0) (fun a b ha hb hf e => by
  obtain ⟨v, hv, i, hno⟩ := hf
  apply hno
  have e' : runM nx 0 a = runM nx 0 b := e
  have hav : Wd K (a ++ v) := fun c hc => (List.mem_append.1 hc).elim (l2 a ha c) (hv c)
  have hbv : Wd K (b ++ v) := fun c hc => (List.mem_append.1 hc).elim (l2 b hb c) (hv c)
  have ga := h.tells _ hav i
  have gb := h.tells _ hbv i
  rw [runM_app, e', ← runM_app] at ga
  exact ga.symm.trans gb) l3
 omega
end Go.Proofs.YtcafffohnokjgaaDoor

/- The walk of Build. -/
namespace Go.Proofs.YtcafffohnokjgaaDoor
open Go.RowKit Go.Shelf Go.Maps
set_option linter.unusedVariables false
set_option linter.unusedSimpArgs false

theorem MchO.at_ {w : World} {K lb : Nat} {v9 v10 : Value} {nx : List (List Nat)} {ou : List Nat} (h : MchO w K lb v9 v10 nx ou) (hw : Wide K nx) (hK : K ≤ 24) (hn : nx.length ≤ 1000000) (ho : ou.length ≤ 1000000) : MchAt w lb K nx ou := by
 obtain ⟨hb, ⟨B9, bs, h1, h2, h3⟩, ⟨B10, h4⟩⟩ := h
 obtain ⟨na, nc, rfl⟩ := own_sl1 h2
 obtain ⟨oa, oc, rfl⟩ := own_sl1 h4
 refine ⟨na, nc, oa, oc, hb, fun hp => ?_, ⟨by simp [intsN], fun hp => ?_⟩, hn, ho, by omega, fun row hr => by rw [hw row hr]; omega⟩
 ·obtain ⟨g, rfl, _, cur, hg, hc⟩ := own_cells1 h2 hp
  refine ⟨g, 0, rfl, fun i hi => ?_⟩
  have hbi : bs[i]? = some (bs[i]'(by omega)) := List.getElem?_eq_getElem _
  have hrow := h3 i _ _ hbi (List.getElem?_eq_getElem hi)
  have hl := hw _ (List.getElem_mem hi)
  refine ⟨some ⟨bs[i]'(by omega), 0, none⟩, K, ?_, hrow.rd⟩
  rw [Nat.zero_add, hc i hi, List.getElem?_map, hbi, hl]
  rfl
 ·obtain ⟨g, rfl, _, cur, hg, hc⟩ := own_cells1 h4 hp
  refine ⟨g, 0, rfl, fun i hi => ?_⟩
  rw [Nat.zero_add, hc i hi]
  simp [uv, intsN, List.getD_eq_getElem?_getD, hi]
def TooBig (K : Nat) (xs : List (Nd × Bool)) : Prop := SitF K xs ∨ ∃ Ms nxs met nx ou kd cnt, (Ms.length = xs.length ∧ nxs.length = xs.length ∧ SpotsA K xs Ms nxs ∧ MeetP K (stepAll nxs) (List.replicate xs.length 0) met nx ∧ nx.length = met.length) ∧ AsMet nx ∧ Wide K nx ∧ ou.length = nx.length ∧ (∀ w : List Nat, (∀ c, c ∈ w → c < K) → ∀ i, (ou.getD (runM nx 0 w) 0).testBit i = true ↔ ∃ x, xs[i]? = some x ∧ ∃ u v : List Int, w.map Int.ofNat = u ++ v ∧ (x.2 = true → u = []) ∧ x.1.fits v) ∧ KndP K nx ou kd cnt ∧ 400 < cnt
theorem TooBig.big {K : Nat} {xs : List (Nd × Bool)} (h : TooBig K xs) : BigC K xs := by
 rcases h with h | ⟨Ms, nxs, met, nx, ou, kd, cnt, _, ha, hw, ho, ht, hk, hc⟩
 ·exact .inl (many_of h)
 ·exact .inr (far_of ha hw ho ht hk hc)
def BldP (K : Int) (xs : List (Nd × Bool)) (w : World) (e : Ending) (w' : World) : Prop :=
 Below w.heap.size w w' ∧ ((alwB K xs = false ∧ e = .returned (.tuple #[.pointer none, .int .i64 1])) ∨ (alwB K xs = true ∧ ((e = .returned (.tuple #[.pointer none, .int .i64 7]) ∧ TooBig K.toNat xs) ∨
  ∃ lb nx ou, e = .returned (.tuple #[.pointer (some ⟨lb, 0, none⟩), .int .i64 0]) ∧ MchAt w' lb K.toNat nx ou ∧ LeastOf K.toNat xs nx ou ∧ nx.length ≤ 400 ∧ ¬ BigC K.toNat xs)))
theorem XRow.base {B B' : Nat} {w : World} {D : Nat} {a : Option Addr} {xs : List (Nd × Bool)} (hB : B ≤ B') (h : XRow B w D a xs) : XRow B' w D a xs := by
 intro hp
 obtain ⟨b, off, e, hk⟩ := h hp
 refine ⟨b, off, e, fun i hi => ?_⟩
 obtain ⟨us, h1, h2, h3⟩ := hk i hi
 exact ⟨us, InV.base hB D h1, h2, h3⟩
set_option maxRecDepth 100000 in
set_option maxHeartbeats 8000000 in
theorem build_any (D : Nat) (K : Int) (xs : List (Nd × Bool)) (a : Option Addr) (cp : Nat) (w : World) (hT : TabD w) (hx : XRow w.heap.size w D a xs) (hl : xs.length ≤ 2600000000000) :
 Calls Tryd.prog 25 #[.int .i64 K, .slice a xs.length cp] w (BldP K xs w) := by
 have HA : Hid (Calls Tryd.prog 34 #[.int .i64 K, .slice a xs.length cp] w fun e w' => e = .returned (.bool (alwB K xs)) ∧ Below w.heap.size w w') := allowed_any D K xs a cp w hx hl
 have HXR : Hid (XRow w.heap.size w D a xs) := hx
 have HTD : Hid (TabD w) := hT
 obtain ⟨n, hn⟩ : ∃ n, n = xs.length := ⟨_, rfl⟩
 have HN : Hid (n = xs.length) := hn
 rw [← hn] at HA ⊢
 clear hT hx
 cases hal : alwB K xs with
 | false =>
   have HAL : Hid (alwB K xs = false) := hal
   rw [hal] at HA
   clear hn hal hl
   go_enter Tryd.func25, Tryd.ntmps25
   go_wp2_with fail
   refine HA.out.mono ?_
   rintro e w1 ⟨rfl, hb1⟩
   have HB1 : Hid (Below w.heap.size w w1) := hb1
   clear hb1 HA
   go_wp2_with fail
   go_ret2
   exact ⟨HB1.out, .inl ⟨HAL.out, rfl⟩⟩
 | true =>
   have HAL : Hid (alwB K xs = true) := hal
   rw [hal] at HA
   have h1 := hal
   simp only [alwB, Bool.and_eq_true, decide_eq_true_eq, List.all_eq_true] at h1
   obtain ⟨⟨⟨hk1, hk2⟩, hl64⟩, hall⟩ := h1
   obtain ⟨k, rfl⟩ : ∃ k : Nat, K = (k : Int) := ⟨K.toNat, by omega⟩
   have HK : Hid (1 ≤ k ∧ k ≤ 24 ∧ xs.length ≤ 64) := ⟨by omega, by omega, hl64⟩
   have HOK : Hid (∀ x, x ∈ xs → x.1.ok = true) := fun x hx => (hall x hx).1
   have HBI : Hid (∀ e w', BldP (k : Int) xs w e w' ↔ (Below w.heap.size w w' ∧ ((e = .returned (.tuple #[.pointer none, .int .i64 7]) ∧ TooBig k xs) ∨
    ∃ lb nx ou, e = .returned (.tuple #[.pointer (some ⟨lb, 0, none⟩), .int .i64 0]) ∧ MchAt w' lb k nx ou ∧ LeastOf k xs nx ou ∧ nx.length ≤ 400 ∧ ¬ BigC k xs))) := fun e w' => by
    have hk : (k : Int).toNat = k := by omega
    unfold BldP
    rw [HAL.out, hk]
    simp
   clear hn hal hl hl64 hall
   go_enter Tryd.func25, Tryd.ntmps25
   go_wp2_with fail
   refine HA.out.mono ?_
   rintro e w1 ⟨rfl, hb1⟩
   have HB1 : Hid (Below w.heap.size w w1) := hb1
   have HC : Hid (Calls Tryd.prog 35 #[.int .i64 (k : Int), .slice a n cp] w1 (SitP k xs w1)) := by
    have h2 := sit_any D k xs a cp w1 (HTD.out.later hb1) ((HXR.out.later hb1).base hb1.size) HK.out.1 HK.out.2.1 HK.out.2.2 HOK.out
    rw [← HN.out] at h2
    exact h2
   clear hb1 HA
   go_wp2_with fail
   refine HC.out.mono ?_
   rintro e w2 ⟨hb2, hor⟩
   have HB2 : Hid (Below w.heap.size w w2) := HB1.out.trans (hb2.mono HB1.out.size)
   clear hb2 HC
   rcases hor with ⟨bm, ob, v9, Ms, nxs, met, nx, ou, rfl, hbm, hnx, hou, hl1, hl2, hspA, hmeet, hnl, h2000, hoe⟩ | ⟨rfl, hsf⟩
   ·have hol : ou.length = nx.length := by rw [hoe, List.length_map, hnl]
    have hAs := meet_asMet hmeet hnl
    have hW : Wide k nx := hmeet.wide
    have hn2 : nx.length ≤ 2000 := by rw [hnl]; exact h2000
    have hMR : MchR w2 k bm v9 ob nx ou := ⟨by rw [hol, hnl]; exact hbm, hnx, hou⟩
    have ho64 : ∀ x ∈ ou, x < 2 ^ 64 := fun x hx => by
     rw [hoe] at hx
     obtain ⟨l, _, rfl⟩ := List.mem_map.1 hx
     refine bitsN_lt _ ?_
     rw [List.length_zipWith, hl1]
     have := HK.out.2.2
     omega
    have htells := fun (w : List Nat) hw i => situ_tells (K := k) (xs := xs) (fun x hx => (Nd.ok_right (HOK.out x hx)).1) hl1 hl2 (fun i x m N h1 h2 h3 => (hspA i x m N h1 h2 h3).1) hmeet hnl hoe w hw i
    have HMR : Hid (MchR w2 k bm v9 ob nx ou) := hMR
    have HFA : Hid (ou.length = nx.length ∧ AsMet nx ∧ Wide k nx ∧ nx.length ≤ 2000) := ⟨hol, hAs, hW, hn2⟩
    have HSI : Hid (Ms.length = xs.length ∧ nxs.length = xs.length ∧ SpotsA k xs Ms nxs ∧ MeetP k (stepAll nxs) (List.replicate xs.length 0) met nx ∧ nx.length = met.length) := ⟨hl1, hl2, hspA, hmeet, hnl⟩
    have HTE : Hid (∀ w : List Nat, (∀ c, c ∈ w → c < k) → ∀ i, (ou.getD (runM nx 0 w) 0).testBit i = true ↔ ∃ x, xs[i]? = some x ∧ ∃ u v : List Int, w.map Int.ofNat = u ++ v ∧ (x.2 = true → u = []) ∧ x.1.fits v) := htells
    have HC : Hid (Calls Tryd.prog 36 #[.pointer (some ⟨bm, 0, none⟩)] w2 (KndQ k nx ou w2)) := kinds_any w2 k bm ob v9 nx ou hMR hol hW hAs HK.out.2.1 hn2 ho64
    clear hbm hnx hou hl1 hl2 hspA hmeet hnl h2000 hoe hol hAs hW hn2 hMR ho64 htells
    go_wp2_with fail
    refine HC.out.mono ?_
    rintro e w3 ⟨kb, kd, cnt, rfl, hi3, hb3, hkp, hkk⟩
    have HB3 : Hid (Below w.heap.size w w3) := HB2.out.trans (hb3.mono HB2.out.size)
    have HKP : Hid (KndP k nx ou kd cnt) := hkp
    by_cases hc : (cnt : Int) ≤ 400
    ·have HKD : Hid (Kinds k nx ou kd cnt ∧ cnt ≤ 400) := ⟨hkk (by omega), by omega⟩
     have HC2 : Hid (Calls Tryd.prog 37 #[.pointer (some ⟨bm, 0, none⟩), .slice (some ⟨kb, 0, none⟩) nx.length nx.length] w3 fun e w' => ∃ lb u9 u10, e = .returned (.pointer (some ⟨lb, 0, none⟩)) ∧ MchO w' k lb u9 u10 (mrgN nx kd) (mrgO ou kd) ∧ Below w3.heap.size w3 w') := by
      have h1 := merged_any w3 k bm ob kb v9 nx ou kd (HMR.out.later hb3) hi3 hkp.len HFA.out.1 HFA.out.2.2.1 (fun i c => nxt_lt (K := k) HFA.out.2.1 (asMet_pos HFA.out.2.1)) HK.out.2.1 HFA.out.2.2.2
      rw [hkp.len] at h1
      exact h1
     clear hi3 hb3 hkp hkk HC
     go_wp2_with fail
     refine HC2.out.mono ?_
     rintro e w4 ⟨lb, u9, u10, rfl, hmo, hb4⟩
     have HF : Hid (Below w.heap.size w w4 ∧ MchAt w4 lb k (mrgN nx kd) (mrgO ou kd) ∧ LeastOf k xs (mrgN nx kd) (mrgO ou kd) ∧ (mrgN nx kd).length ≤ 400 ∧ ¬ BigC k xs) := by
      have h1 := least_of HKD.out.1 HTE.out
      have h2 := HKD.out.1.lenN
      have h3 := HKD.out.2
      refine ⟨HB3.out.trans (hb4.mono HB3.out.size), hmo.at_ h1.wide HK.out.2.1 (by omega) (by rw [h1.len]; omega), h1, by omega, fun hb => ?_⟩
      rcases hb with hb | hb
      ·obtain ⟨s1, s2, s3, s4, s5⟩ := HSI.out
       exact not_many s1 s2 s3 s4 s5 (by have := HFA.out.2.2.2; omega) hb
      ·exact not_far h1 (by omega) hb
     clear hmo hb4 HC2
     go_wp2_with fail
     go_ret2
     rw [HBI.out]
     exact ⟨HF.out.1, .inr ⟨lb, _, _, rfl, HF.out.2⟩⟩
    ·have HF : Hid (TooBig k xs) := .inr ⟨Ms, nxs, met, nx, ou, kd, cnt, HSI.out, HFA.out.2.1, HFA.out.2.2.1, HFA.out.1, HTE.out, HKP.out, by omega⟩
     clear hi3 hb3 hkp hkk HC
     go_wp2_with fail
     go_ret2
     rw [HBI.out]
     exact ⟨HB3.out, .inl ⟨rfl, HF.out⟩⟩
   ·have HSF : Hid (SitF k xs) := hsf
    clear hsf
    go_wp2_with fail
    go_ret2
    rw [HBI.out]
    exact ⟨HB2.out, .inl ⟨rfl, .inl HSF.out⟩⟩
end Go.Proofs.YtcafffohnokjgaaDoor

/- Mathematics of expressions that are turned round. -/
namespace Go.Proofs.YtcafffohnokjgaaDoor
set_option linter.unusedVariables false
set_option linter.unusedSimpArgs false

def turnK {α : Type} (op : Int) (l : List α) : List α := if op = 2 then l.reverse else l
theorem turnK_len {α : Type} (op : Int) (l : List α) : (turnK op l).length = l.length := by unfold turnK; split <;> simp
theorem turnK_map {α β : Type} (op : Int) (l : List α) (f : α → β) : (turnK op l).map f = turnK op (l.map f) := by unfold turnK; split <;> simp
def tuL : Fo → List Nd
 | .nil => []
 | .node _ _ a k r => ⟨a.1, a.2, ofL (turnK a.1 (tuL k))⟩ :: tuL r
def Nd.rev (n : Nd) : Nd := ⟨n.op, n.cl, ofL (turnK n.op (tuL n.kids))⟩
theorem tuL_map : (f : Fo) → tuL f = (toL f).map Nd.rev
 | .nil => rfl
 | .node _ _ a k r => by simp only [tuL, toL, List.map_cons, tuL_map r]; rfl
theorem rev_kids (n : Nd) : toL n.rev.kids = turnK n.op ((toL n.kids).map Nd.rev) := by
 show toL (ofL (turnK n.op (tuL n.kids))) = _
 rw [toL_ofL, tuL_map]
theorem tuN_len (n : Nd) : (toL n.rev.kids).length = (toL n.kids).length := by rw [rev_kids, turnK_len, List.length_map]
/-! What it fits. -/
def turnP (k : List Int → Prop) : List Int → Prop := fun w => k w.reverse
theorem powL_end (k : List Int → Prop) : (n : Nat) → (w : List Int) → powL k (n + 1) w ↔ ∃ u v, w = u ++ v ∧ powL k n u ∧ k v
 | 0, w => by
   constructor
   ·rintro ⟨u, v, rfl, hu, hv⟩
    have hv' : v = [] := hv
    subst hv'
    exact ⟨[], u, by simp, rfl, hu⟩
   ·rintro ⟨u, v, rfl, hu, hv⟩
    have hu' : u = [] := hu
    subst hu'
    exact ⟨v, [], by simp, hv, rfl⟩
 | n + 1, w => by
   constructor
   ·rintro ⟨u, v, rfl, hu, hv⟩
    obtain ⟨p, q, rfl, hp, hq⟩ := (powL_end k n v).1 hv
    exact ⟨u ++ p, q, by simp, ⟨u, p, rfl, hu, hp⟩, hq⟩
   ·rintro ⟨u, v, rfl, ⟨p, q, rfl, hp, hq⟩, hv⟩
    exact ⟨p, q ++ v, by simp, hp, (powL_end k n (q ++ v)).2 ⟨q, v, rfl, hq, hv⟩⟩
theorem powL_turn (k : List Int → Prop) : (n : Nat) → (w : List Int) → powL (turnP k) n w ↔ powL k n w.reverse
 | 0, w => by simp [powL]
 | n + 1, w => by
   rw [powL_end k n w.reverse]
   constructor
   ·rintro ⟨u, v, rfl, hu, hv⟩
    exact ⟨v.reverse, u.reverse, by simp, (powL_turn k n v).1 hv, hu⟩
   ·rintro ⟨u, v, hw, hu, hv⟩
    refine ⟨v.reverse, u.reverse, ?_, ?_, (powL_turn k n u.reverse).2 (by simpa using hu)⟩
    ·have := congrArg List.reverse hw
     simpa using this
    ·show k v.reverse.reverse
     simpa using hv
theorem seqL_snocQ (k : List Int → Prop) : (ks : List (List Int → Prop)) → (w : List Int) → seqL (ks ++ [k]) w ↔ ∃ u v, w = u ++ v ∧ seqL ks u ∧ k v
 | [], w => by
   constructor
   ·rintro ⟨u, v, rfl, hu, hv⟩
    have hv' : v = [] := hv
    subst hv'
    exact ⟨[], u, by simp, rfl, hu⟩
   ·rintro ⟨u, v, rfl, hu, hv⟩
    have hu' : u = [] := hu
    subst hu'
    exact ⟨v, [], by simp, hv, rfl⟩
 | x :: r, w => by
   constructor
   ·rintro ⟨u, v, rfl, hu, hv⟩
    obtain ⟨p, q, rfl, hp, hq⟩ := (seqL_snocQ k r v).1 hv
    exact ⟨u ++ p, q, by simp, ⟨u, p, rfl, hu, hp⟩, hq⟩
   ·rintro ⟨u, v, rfl, ⟨p, q, rfl, hp, hq⟩, hv⟩
    exact ⟨p, q ++ v, by simp, hp, (seqL_snocQ k r (q ++ v)).2 ⟨q, v, rfl, hq, hv⟩⟩
theorem seqL_turn : (ks : List (List Int → Prop)) → (w : List Int) → seqL (ks.map turnP).reverse w ↔ seqL ks w.reverse
 | [], w => by simp [seqL]
 | k :: r, w => by
   rw [List.map_cons, List.reverse_cons, seqL_snocQ]
   constructor
   ·rintro ⟨u, v, rfl, hu, hv⟩
    exact ⟨v.reverse, u.reverse, by simp, hv, (seqL_turn r u).1 hu⟩
   ·rintro ⟨u, v, hw, hu, hv⟩
    refine ⟨v.reverse, u.reverse, ?_, (seqL_turn r v.reverse).2 (by simpa using hv), ?_⟩
    ·have := congrArg List.reverse hw
     simpa using this
    ·show k u.reverse.reverse
     simpa using hu
theorem nodeL_turn (op : Int) (cl : List Int) (ks : List (List Int → Prop)) (h : op = 0 → ks = []) (h0 : 0 ≤ op) (h5 : op ≤ 5) (hk : op = 4 ∨ op = 5 → ks.length = 1) (w : List Int) : nodeL op cl (turnK op (ks.map turnP)) w ↔ nodeL op cl ks w.reverse := by
 rcases (by omega : op = 0 ∨ op = 1 ∨ op = 2 ∨ op = 3 ∨ op = 4 ∨ op = 5) with rfl | rfl | rfl | rfl | rfl | rfl
 ·rw [h rfl]
  simp [nodeL, turnK, seqL]
 ·simp only [nodeL, if_pos]
  constructor
  ·rintro ⟨c, hc, rfl⟩; exact ⟨c, hc, by simp⟩
  ·rintro ⟨c, hc, hw⟩
   refine ⟨c, hc, ?_⟩
   have := congrArg List.reverse hw
   simpa using this
 ·have := seqL_turn ks w
  simpa [nodeL, turnK] using this
 ·show altL (ks.map turnP) w ↔ altL ks w.reverse
  constructor
  ·rintro ⟨k, hk', hw⟩
   obtain ⟨x, hx, rfl⟩ := List.mem_map.1 hk'
   exact ⟨x, hx, hw⟩
  ·rintro ⟨k, hk', hw⟩
   exact ⟨turnP k, List.mem_map_of_mem hk', hw⟩
 ·obtain ⟨k, rfl⟩ := one_of (hk (.inl rfl))
  show (∃ n, powL (turnP k) n w) ↔ ∃ n, powL k n w.reverse
  exact ⟨fun ⟨n, hn⟩ => ⟨n, (powL_turn k n w).1 hn⟩, fun ⟨n, hn⟩ => ⟨n, (powL_turn k n w).2 hn⟩⟩
 ·obtain ⟨k, rfl⟩ := one_of (hk (.inr rfl))
  show (w = [] ∨ turnP k w) ↔ (w.reverse = [] ∨ k w.reverse)
  rw [List.reverse_eq_nil_iff]
  rfl
theorem okN_op (d : Nat) (n : Nd) (h : okN d n = true) : 0 ≤ n.op ∧ n.op ≤ 5 ∧ (n.op = 0 → (toL n.kids).length = 0) ∧ (n.op = 4 ∨ n.op = 5 → (toL n.kids).length = 1) ∧ n.cl.length ≤ 24 := by
 cases d with
 | zero => simp [okN] at h
 | succ d =>
   simp only [okN, Bool.and_eq_true] at h
   obtain ⟨⟨h1, h2⟩, _⟩ := h
   unfold rcB at h1
   have hc : n.cl.length ≤ 24 := by
    unfold rclB at h2
    split at h2
    ·have := risB_len n.cl (-1) (by omega) h2
     omega
    ·simp at h2; simp [h2]
   split at h1
   ·simp at h1; exact ⟨by omega, by omega, fun _ => by simpa using h1, by omega, hc⟩
   ·split at h1
    ·exact ⟨by omega, by omega, by omega, by omega, hc⟩
    ·split at h1
     ·simp at h1; exact ⟨by omega, by omega, by omega, fun _ => by simpa using h1, hc⟩
     ·cases h1
theorem rev_fits : (d : Nat) → (n : Nd) → okN d n = true → ∀ w, n.rev.fits w ↔ n.fits w.reverse
 | 0, _, h => by simp [okN] at h
 | d + 1, n, h => by
   obtain ⟨a1, a2, a3, a4, _⟩ := okN_op _ n h
   have hall : ∀ x ∈ toL n.kids, okN d x = true := by
    simp only [okN, Bool.and_eq_true, List.all_eq_true] at h
    exact h.2
   intro w
   have e1 : fitF n.rev.kids = turnK n.op ((fitF n.kids).map turnP) := by
    rw [fitF_map, rev_kids, turnK_map, List.map_map, fitF_map, List.map_map]
    congr 1
    apply List.map_congr_left
    intro x hx
    funext v
    exact propext (rev_fits d x (hall x hx) v)
   show nodeL n.op n.cl (fitF n.rev.kids) w ↔ nodeL n.op n.cl (fitF n.kids) w.reverse
   rw [e1]
   refine nodeL_turn n.op n.cl (fitF n.kids) (fun h0 => ?_) a1 a2 (fun h4 => ?_) w
   ·rw [fitF_map, List.eq_nil_of_length_eq_zero (a3 h0)]; rfl
   ·rw [fitF_map, List.length_map]; exact a4 h4
def wdsF : Fo → Nat
 | .nil => 0
 | .node _ _ a k r => 7 + a.2.length + wdsF k + wdsF r
def Nd.wds (n : Nd) : Nat := 7 + n.cl.length + wdsF n.kids
def wdsL (l : List Nd) : Nat := (l.map Nd.wds).sum
theorem wdsF_sum : (f : Fo) → wdsF f = wdsL (toL f)
 | .nil => rfl
 | .node _ _ a k r => by
   have ih := wdsF_sum r
   simp only [wdsF, wdsL, toL, List.map_cons, List.sum_cons] at ih ⊢
   rw [ih]
   rfl
theorem wds_eq (n : Nd) : n.wds = 7 + n.cl.length + wdsL (toL n.kids) := by unfold Nd.wds; rw [wdsF_sum]
theorem wdsL_snoc (l : List Nd) (x : Nd) : wdsL (l ++ [x]) = wdsL l + x.wds := by simp [wdsL]
theorem wdsL_take (l : List Nd) (k : Nat) (hk : k < l.length) : wdsL (l.take k) + l[k].wds ≤ wdsL l := by
 have h : wdsL l = wdsL (l.take (k + 1)) + wdsL (l.drop (k + 1)) := by
  unfold wdsL
  rw [← List.sum_append, ← List.map_append, List.take_append_drop]
 rw [h, take_snoc l k hk, wdsL_snoc]
 omega
theorem wds_le : (d : Nat) → (n : Nd) → okN d n = true → n.wds ≤ 31 * n.cnt
 | 0, _, h => by simp [okN] at h
 | d + 1, n, h => by
   obtain ⟨_, _, _, _, hc⟩ := okN_op _ n h
   have hall : ∀ x ∈ toL n.kids, okN d x = true := by
    simp only [okN, Bool.and_eq_true, List.all_eq_true] at h
    exact h.2
   have key : ∀ l : List Nd, (∀ x ∈ l, okN d x = true) → wdsL l ≤ 31 * cntL l := by
    intro l
    induction l with
    | nil => intro _; simp [wdsL, cntL]
    | cons x r ih =>
      intro hl
      have h1 := wds_le d x (hl x (by simp))
      have h2 := ih (fun y hy => hl y (by simp [hy]))
      simp only [wdsL, cntL, List.map_cons, List.sum_cons] at h2 ⊢
      omega
   have := key _ hall
   rw [wds_eq, cnt_eq]
   omega
end Go.Proofs.YtcafffohnokjgaaDoor

/- The walk of bounded. -/
namespace Go.Proofs.YtcafffohnokjgaaDoor
open Go.RowKit
set_option linter.unusedVariables false
set_option linter.unusedSimpArgs false

def BdPost (n : Nd) (c bn : Nat) (w : World) (e : Ending) (w' : World) : Prop :=
 ∃ c' : Nat, e = .returned (.bool true) ∧ w.grownBy w' (some bn) ∧ w'.heap[bn]? = some (.cells #[nI c'] 3) ∧ c' + n.wds = c
def BdC (d : Nat) : Prop := ∀ (D : Nat) (n : Nd) (ca pa : Option Addr) (cc pc c bn : Nat) (N : Int) (w0 w : World), InV w0.heap.size w0 D n [.int .i64 n.op, .slice ca n.cl.length cc, .slice pa (toL n.kids).length pc] → Below w0.heap.size w0 w → w0.heap.size ≤ bn → w.heap[bn]? = some (.cells #[nI c] 3) → okN d n = true → (d : Int) ≤ N → N ≤ 131072 → n.wds ≤ c → c ≤ 268435456 →
 Calls Tryd.prog 32 #[.agg #[.int .i64 n.op, .slice ca n.cl.length cc, .slice pa (toL n.kids).length pc], .int .i64 N, .pointer (some ⟨bn, 0, none⟩)] w (BdPost n c bn w)
set_option maxHeartbeats 8000000 in
theorem bd_up (d : Nat) (HP : BdC d) : BdC (d + 1) := by
 intro D n ca pa cc pc c bn N w0 w hin hb0 hbn hbc hok hN hN2 hwc hc
 have HPC : Hid (BdC d) := HP
 have HIN : Hid (InV w0.heap.size w0 D n [.int .i64 n.op, .slice ca n.cl.length cc, .slice pa (toL n.kids).length pc]) := hin
 obtain ⟨_, _, _, _, hcl⟩ := okN_op _ n hok
 have HALL : Hid (∀ x ∈ toL n.kids, okN d x = true) := by
  simp only [okN, Bool.and_eq_true, List.all_eq_true] at hok
  exact hok.2
 have hbd := hin.bounds
 obtain ⟨op, hop⟩ : ∃ op, op = n.op := ⟨_, rfl⟩
 obtain ⟨cn, hcn⟩ : ∃ cn, cn = n.cl.length := ⟨_, rfl⟩
 obtain ⟨K, hK⟩ : ∃ K, K = (toL n.kids).length := ⟨_, rfl⟩
 obtain ⟨c1, hc1⟩ : ∃ c1 : Nat, c1 + 7 + cn = c := ⟨c - 7 - cn, by have := wds_eq n; omega⟩
 have HC1 : Hid (c1 + 7 + cn = c ∧ n.wds = 7 + cn + wdsL (toL n.kids) ∧ n.wds ≤ c ∧ c ≤ 268435456) := ⟨hc1, by rw [hcn]; exact wds_eq n, hwc, hc⟩
 have hKi : (K : Int) ≤ 2600000000000 := by omega
 have hc1i : (c1 : Int) ≤ 268435456 := by omega
 have hcni : (cn : Int) ≤ 24 := by omega
 have hs1 : IntKind.i64.wrap (7 + (cn : Int)) = 7 + (cn : Int) := by rw [IntKind.wrap_i64]; omega
 have hs2 : IntKind.i64.wrap ((c : Int) - (7 + (cn : Int))) = (c1 : Int) := by rw [IntKind.wrap_i64]; omega
 have hs3 : (c : Int) - (7 + (cn : Int)) = (c1 : Int) := by omega
 have hNn : decide (N < 0) = false := by simp; omega
 have hNw : IntKind.i64.wrap (N - 1) = N - 1 := by rw [IntKind.wrap_i64]; omega
 have HNN : Hid ((d : Int) ≤ N - 1 ∧ N - 1 ≤ 131072) := by refine ⟨?_, ?_⟩ <;> omega
 have hc1n : decide ((c1 : Int) < 0) = false := by simp
 obtain ⟨wA, hwA⟩ : ∃ wA, wA = w.alloc (.cells #[.int .i64 op, .slice ca cn cc, .slice pa K pc] 46) := ⟨_, rfl⟩
 obtain ⟨H, hH⟩ : ∃ H, H = w.heap.size := ⟨_, rfl⟩
 have HB : Hid (Below w.heap.size w wA) := by rw [hwA]; exact (Below.refl _ w).alloc (Nat.le_refl _) _
 have hbx : wA.heap[H]? = some (.cells #[.int .i64 op, .slice ca cn cc, .slice pa K pc] 46) := by rw [hwA, hH]; exact heap_alloc_new w _
 have HBX : Hid (wA.heap[H]? = some (.cells #[.int .i64 op, .slice ca cn cc, .slice pa K pc] 46)) := hbx
 have hbcA : wA.heap[bn]? = some (.cells #[nI c] 3) := (HB.out.block bn (Array.getElem?_eq_some_iff.1 hbc).1).trans hbc
 have HBC : Hid (wA.heap[bn]? = some (.cells #[nI c] 3)) := hbcA
 have hbl : bn < w.heap.size := (Array.getElem?_eq_some_iff.1 hbc).1
 have HG0 : Hid (w.grownBy wA (some bn)) := ⟨HB.out.os, HB.out.tape, HB.out.output, HB.out.size, fun k hk _ => HB.out.block k hk⟩
 have e1 : wA.cell? ⟨H, 1, none⟩ = some (.slice ca cn cc) := cell_of_row wA H 1 _ _ _ hbx
 have eb : wA.cell? ⟨bn, 0, none⟩ = some (.int .i64 (c : Int)) := cell_of_row wA bn 0 _ _ _ hbcA
 have ef : wA.frozen? ⟨bn, 0, none⟩ = false := Lib.frozen_of_heap hbcA 0
 obtain ⟨w2, hw2⟩ : ∃ w2, w2 = (wA.setCell ⟨bn, 0, none⟩ (.int .i64 (c1 : Int))).drew := ⟨_, rfl⟩
 have HB2 : Hid (w2.heap[bn]? = some (.cells #[nI c1] 3)) := by rw [hw2]; exact heap_setCell_same wA bn 0 _ _ _ HBC.out
 have HG12 : Hid (wA.grownBy w2 (some bn)) := by rw [hw2]; exact grown_all (grown_cell wA bn 0 _) (grown_drew3 _ _)
 have HG2 : Hid (w.grownBy w2 (some bn)) := grown_all HG0.out HG12.out
 have hneH : bn ≠ H := by omega
 have HBX2 : Hid (w2.heap[H]? = some (.cells #[.int .i64 op, .slice ca cn cc, .slice pa K pc] 46)) := (HG12.out.block H (Array.getElem?_eq_some_iff.1 HBX.out).1 (fun e => hneH (Option.some.inj e).symm)).trans HBX.out
 rw [← hop, ← hcn, ← hK]
 have HK : Hid (K = (toL n.kids).length) := hK
 have HBB : Hid (w0.heap.size ≤ bn ∧ bn < w.heap.size ∧ H = w.heap.size ∧ Below w0.heap.size w0 w) := ⟨hbn, hbl, hH, hb0⟩
 clear HP hin hb0 hbn hbc hbd hcl hop hcn hK hbx hbcA hbl hok hN hN2 hwc hc hc1
 go_enter Tryd.func32, Tryd.ntmps32
 go_upto_region 1 with fail
 rw [← hH, ← hwA]
 clear hH hwA
 go_region
 rw [← hw2]
 clear hw2 e1 eb ef hs1 hs2 hs3 hneH
 have eb2 : w2.cell? ⟨bn, 0, none⟩ = some (.int .i64 (c1 : Int)) := cell_of_row w2 bn 0 _ _ _ HB2.out
 have f2 : w2.cell? ⟨H, 2, none⟩ = some (.slice pa K pc) := cell_of_row w2 H 2 _ _ _ HBX2.out
 go_wp2
 go_loopw [29] (fun x29 wr => ∃ k ck : Nat, k ≤ K ∧ x29 = .int .i64 k ∧ w.grownBy wr (some bn) ∧ wr.heap[bn]? = some (.cells #[nI ck] 3) ∧ ck + wdsL ((toL n.kids).take k) = c1) (fun x29 _ => K - (intOf x29).toNat)
 case atStart => exact ⟨0, c1, by omega, rfl, HG2.out, HB2.out, by simp [wdsL]⟩
 case round =>
  obtain ⟨k, ck, hk, hx29, hg, hbk, hck⟩ := hrel
  subst hx29
  have HG : Hid (w.grownBy wr (some bn)) := hg
  have HBK : Hid (wr.heap[bn]? = some (.cells #[nI ck] 3)) := hbk
  have HCK : Hid (ck + wdsL ((toL n.kids).take k) = c1) := hck
  clear hg hbk hck f2 eb2
  by_cases hlt : k < K
  ·have hkn : k < (toL n.kids).length := by rw [← HK.out]; exact hlt
   have HW0 : Hid (Below w0.heap.size w0 wr) := by
    obtain ⟨q1, q2, q3, q4⟩ := HBB.out
    exact q4.grown HG.out q4.size (fun k hk => by cases hk; exact q1)
   obtain ⟨b, off, xa, xc, ya, yc, d', hpa, hkid, _, c0', c1', c2'⟩ := HIN.out.kid k hkn
   subst hpa
   have k0 := upC HW0.out c0'
   have k1 := upC HW0.out c1'
   have k2 := upC HW0.out c2'
   have HV : Hid (∀ W1 : World, Below wr.heap.size wr W1 → Calls Tryd.prog 32 #[.agg #[.int .i64 (toL n.kids)[k].op, .slice xa (toL n.kids)[k].cl.length xc, .slice ya (toL (toL n.kids)[k].kids).length yc], .int .i64 (N - 1), .pointer (some ⟨bn, 0, none⟩)] W1 (BdPost (toL n.kids)[k] ck bn W1)) := by
    intro W1 hW1
    have h1 := HC1.out
    have h2 := HCK.out
    have h3 := wdsL_take (toL n.kids) k hkn
    exact HPC.out d' (toL n.kids)[k] xa ya xc yc ck bn (N - 1) w0 W1 hkid (HW0.out.trans (hW1.mono HW0.out.size)) HBB.out.1 ((hW1.block bn (Array.getElem?_eq_some_iff.1 HBK.out).1).trans HBK.out) (HALL.out _ (List.getElem_mem hkn)) HNN.out.1 HNN.out.2 (by omega) (by omega)
   obtain ⟨xo, hxo⟩ : ∃ xo, xo = (toL n.kids)[k].op := ⟨_, rfl⟩
   obtain ⟨xn, hxn⟩ : ∃ xn, xn = (toL n.kids)[k].cl.length := ⟨_, rfl⟩
   obtain ⟨xk, hxk⟩ : ∃ xk, xk = (toL (toL n.kids)[k].kids).length := ⟨_, rfl⟩
   rw [← hxo] at k0 HV
   rw [← hxn] at k1 HV
   rw [← hxk] at k2 HV
   obtain ⟨W1, hW1⟩ : ∃ W1, W1 = wr.alloc (.cells #[.int .i64 xo, .slice xa xn xc, .slice ya xk yc] 46) := ⟨_, rfl⟩
   have HBW : Hid (Below wr.heap.size wr W1) := by rw [hW1]; exact (Below.refl _ wr).alloc (Nat.le_refl _) _
   have HCC := HV.out W1 HBW.out
   have HC : Hid (Calls Tryd.prog 32 #[.agg #[.int .i64 xo, .slice xa xn xc, .slice ya xk yc], .int .i64 (N - 1), .pointer (some ⟨bn, 0, none⟩)] W1 (BdPost (toL n.kids)[k] ck bn W1)) := HCC
   clear HCC HV hkid c0' c1' c2' hxo hxn hxk
   go_wp2_with fail
   rw [← hW1]
   clear hW1 k0 k1 k2
   refine HC.out.mono ?_
   rintro e w3 ⟨c3, rfl, hg3, hb3, hc3⟩
   have HG3 : Hid (w.grownBy w3 (some bn)) := grown_all (grown_all HG.out ⟨HBW.out.os, HBW.out.tape, HBW.out.output, HBW.out.size, fun k hk _ => HBW.out.block k hk⟩) hg3
   have HB3 : Hid (w3.heap[bn]? = some (.cells #[nI c3] 3)) := hb3
   have HNX : Hid (c3 + wdsL ((toL n.kids).take (k + 1)) = c1) := by
    have h2 := HCK.out
    show _ = _
    rw [take_snoc _ k hkn, wdsL_snoc]; omega
   clear hg3 hb3 hc3 HC
   go_wp2
   go_roundw
   case rel => exact ⟨k + 1, c3, by omega, by go_num, HG3.out, HB3.out, HNX.out⟩
   case measure => simp [intOf]; omega
  ·obtain rfl : k = K := by omega
   have HFN : Hid (BdPost n c bn w (.returned (.bool true)) wr) := by
    have ht : (toL n.kids).take k = toL n.kids := List.take_of_length_le (by rw [← HK.out]; exact Nat.le_refl _)
    have h1 := HCK.out
    rw [ht] at h1
    have h3 := HC1.out
    exact ⟨ck, rfl, HG.out, HBK.out, by omega⟩
   go_wp2
   go_ret
   exact HFN.out
theorem bd_any : (d : Nat) → BdC d
 | 0 => fun D n ca pa cc pc c bn N w0 w hin hb0 hbn hbc hok => by simp [okN] at hok
 | d + 1 => bd_up d (bd_any d)
end Go.Proofs.YtcafffohnokjgaaDoor
