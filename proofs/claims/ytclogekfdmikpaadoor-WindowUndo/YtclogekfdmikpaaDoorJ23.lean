/- In one text: DfaKc, DfaKd, DfaKf, DfaKe. -/
import Derived.Test.YtclogekfdmikpaaDoorJ22
/- What merged keeps in memory, and what it makes of the lists. -/
namespace Go.Proofs.YtclogekfdmikpaaDoor
open Go.RowKit Go.Shelf Go.Maps
set_option linter.unusedVariables false
set_option linter.unusedSimpArgs false

theorem zip_drop {β : Type} {kd : List Nat} {l : List β} {k : Nat} (hk : k < kd.length) (hl : k < l.length) : (kd.zip l).drop k = (kd[k], l[k]) :: (kd.zip l).drop (k + 1) := by
 rw [List.drop_eq_getElem_cons (by simp; omega), List.getElem_zip]
structure MgP (nx : List (List Nat)) (ou kd : List Nat) (k : Nat) (nN : List (List Nat)) (nO : List Nat) : Prop where
 len : nN.length = nO.length
 few : nO.length ≤ k
 next : mrgN nx kd = nN ++ mrgG (fun row : List Nat => row.map (kd.getD · 0)) nO.length ((kd.zip nx).drop k)
 out : mrgO ou kd = nO ++ mrgG id nO.length ((kd.zip ou).drop k)
theorem MgP.zero (nx : List (List Nat)) (ou kd : List Nat) : MgP nx ou kd 0 [] [] := ⟨rfl, Nat.le_refl _, rfl, rfl⟩
theorem MgP.skip {nx : List (List Nat)} {ou kd : List Nat} {k : Nat} {nN : List (List Nat)} {nO : List Nat} (h : MgP nx ou kd k nN nO) (h1 : k < kd.length) (h2 : k < nx.length) (h3 : k < ou.length) (hlt : kd[k] < nO.length) : MgP nx ou kd (k + 1) nN nO := by
 refine ⟨h.len, by have := h.few; omega, ?_, ?_⟩
 ·rw [h.next, zip_drop h1 h2, mrgG, if_pos hlt]
 ·rw [h.out, zip_drop h1 h3, mrgG, if_pos hlt]
theorem MgP.put {nx : List (List Nat)} {ou kd : List Nat} {k : Nat} {nN : List (List Nat)} {nO : List Nat} (h : MgP nx ou kd k nN nO) (h1 : k < kd.length) (h2 : k < nx.length) (h3 : k < ou.length) (hlt : ¬ kd[k] < nO.length) : MgP nx ou kd (k + 1) (nN ++ [nx[k].map (kd.getD · 0)]) (nO ++ [ou[k]]) := by
 refine ⟨by simp [h.len], by have := h.few; simp; omega, ?_, ?_⟩
 ·rw [h.next, zip_drop h1 h2, mrgG, if_neg hlt]; simp
 ·rw [h.out, zip_drop h1 h3, mrgG, if_neg hlt]; simp
theorem MgP.done {nx : List (List Nat)} {ou kd : List Nat} {k : Nat} {nN : List (List Nat)} {nO : List Nat} (h : MgP nx ou kd k nN nO) (hk : kd.length ≤ k) : mrgN nx kd = nN ∧ mrgO ou kd = nO := by
 rw [h.next, h.out, List.drop_eq_nil_of_le (by simp; omega), List.drop_eq_nil_of_le (by simp; omega)]
 simp [mrgG]
structure LstA (B0 : Nat) (w : World) (K LB X : Nat) (v9 v10 : Value) (nN : List (List Nat)) (nO : List Nat) : Prop where
 blk : w.heap[LB]? = some (.cells #[.int .i64 (K : Int), v9, v10] 100)
 nxt : NxAt B0 w K X v9 nN
 out : w.ownsRow B0 64 1 v10 nO.length (uv nO)
theorem LstA.later {B0 : Nat} {w w' : World} {K LB X : Nat} {v9 v10 : Value} {nN : List (List Nat)} {nO : List Nat} (h : LstA B0 w K LB X v9 v10 nN nO) (hb : Below w.heap.size w w') : LstA B0 w' K LB X v9 v10 nN nO :=
 ⟨(hb.block LB (Array.getElem?_eq_some_iff.1 h.blk).1).trans h.blk, h.nxt.later hb, own_later5 h.out hb⟩
theorem LstA.up {B0 : Nat} {w : World} {K LB X X' : Nat} {v9 v10 : Value} {nN : List (List Nat)} {nO : List Nat} (h : LstA B0 w K LB X v9 v10 nN nO) (hX : X ≤ X') : LstA B0 w K LB X' v9 v10 nN nO := ⟨h.blk, h.nxt.up hX, h.out⟩
theorem LstA.own9 {B0 : Nat} {w : World} {K LB X : Nat} {v9 v10 : Value} {nN : List (List Nat)} {nO : List Nat} (h : LstA B0 w K LB X v9 v10 nN nO) {g : Nat} (hg : v9.ownBlock = some g) : ∃ cur, w.heap[g]? = some (.cells cur 26 (0, 0)) := by
 obtain ⟨bs, _, h2, _⟩ := h.nxt
 exact (own_lt h2 hg).2.2
theorem LstA.own10 {B0 : Nat} {w : World} {K LB X : Nat} {v9 v10 : Value} {nN : List (List Nat)} {nO : List Nat} (h : LstA B0 w K LB X v9 v10 nN nO) {g : Nat} (hg : v10.ownBlock = some g) : ∃ cur, w.heap[g]? = some (.cells cur 64 (0, 0)) := (own_lt h.out hg).2.2
theorem LstA.row {B0 : Nat} {w w' : World} {K LB R : Nat} {v9 v10 : Value} {nN : List (List Nat)} {nO : List Nat} {r : List Nat} (h : LstA B0 w K LB R v9 v10 nN nO) (hR : IRow w R r) (hg : w.grownBy w' (some R)) : LstA B0 w' K LB R v9 v10 nN nO := by
 refine ⟨(hg.block LB (Array.getElem?_eq_some_iff.1 h.blk).1 (fun e => ne_ty h.blk hR (by decide) (Option.some.inj e))).trans h.blk, h.nxt.kept hg (fun e => ?_) (fun b q hb hlt e => by omega), h.out.kept hg (.inr fun e => ?_)⟩
 ·obtain ⟨cur, hc⟩ := h.own9 e; exact ne_ty hc hR (by decide) rfl
 ·obtain ⟨cur, hc⟩ := h.own10 e; exact ne_ty hc hR (by decide) rfl
theorem LstA.blk9 {B0 : Nat} {w w' : World} {K LB X : Nat} {v9 v10 : Value} {nN : List (List Nat)} {nO : List Nat} (h : LstA B0 w K LB X v9 v10 nN nO) (hg : w.grownBy w' v9.ownBlock) : w'.heap[LB]? = some (.cells #[.int .i64 (K : Int), v9, v10] 100) := by
 refine (hg.block LB (Array.getElem?_eq_some_iff.1 h.blk).1 (fun e => ?_)).trans h.blk
 obtain ⟨cur, hc⟩ := h.own9 e.symm; exact ne_ty hc h.blk (by decide) rfl
theorem LstA.blk10 {B0 : Nat} {w w' : World} {K LB X : Nat} {v9 v10 : Value} {nN : List (List Nat)} {nO : List Nat} (h : LstA B0 w K LB X v9 v10 nN nO) (hg : w.grownBy w' v10.ownBlock) : w'.heap[LB]? = some (.cells #[.int .i64 (K : Int), v9, v10] 100) := by
 refine (hg.block LB (Array.getElem?_eq_some_iff.1 h.blk).1 (fun e => ?_)).trans h.blk
 obtain ⟨cur, hc⟩ := h.own10 e.symm; exact ne_ty hc h.blk (by decide) rfl
theorem LstA.putN {B0 : Nat} {w w' : World} {K LB X X' R : Nat} {v9 v10 v' : Value} {nN : List (List Nat)} {nO : List Nat} {F : List Nat} {bs : List Nat} (h : LstA B0 w K LB X v9 v10 nN nO) (h1 : bs.length = nN.length) (h2 : w.ownsRow B0 26 1 v9 nN.length (bs.map (rowV K))) (h3 : ∀ (i b : Nat) (r : List Nat), bs[i]? = some b → nN[i]? = some r → IRow w b r ∧ b < X) (hX : X ≤ X') (hR : IRow w R F) (hRX : R < X') (hg : w.grownBy w' v9.ownBlock)
 (ho : w'.ownsRow B0 26 1 v' (nN.length + 1) (bs.map (rowV K) ++ [rowV K R])) : LstA B0 (w'.setCell ⟨LB, 1, none⟩ v') K LB X' v' v10 (nN ++ [F]) nO := by
 have hb := h.blk9 hg
 have hn := nx_snoc h1 h2 h3 hX hR hRX hg ho
 have hg2 := grown_cell w' LB 1 v'
 refine ⟨?_, hn.kept hg2 (fun e => ?_) (fun b r hbr _ e => ne_ty hbr hb (by decide) e), ?_⟩
 ·rw [heap_setCell_same w' LB 1 _ _ _ hb]; rfl
 ·obtain ⟨_, _, cur, hc⟩ := own_lt ho e
  exact ne_ty hc hb (by decide) rfl
 ·have ho2 : w'.ownsRow B0 64 1 v10 nO.length (uv nO) := h.out.kept hg (by
   cases hx : v10.ownBlock with
   | none => exact .inl rfl
   | some g =>
     refine .inr fun e => ?_
     obtain ⟨c1, hc1⟩ := h.own10 hx
     obtain ⟨c2, hc2⟩ := h.own9 e.symm
     exact ne_ty hc1 hc2 (by decide) rfl)
  refine ho2.kept hg2 (.inr fun e => ?_)
  obtain ⟨_, _, cur, hc⟩ := own_lt ho2 e
  exact ne_ty hc hb (by decide) rfl
theorem LstA.putO {B0 : Nat} {w w' : World} {K LB X : Nat} {v9 v10 v' : Value} {nN : List (List Nat)} {nO : List Nat} {y : Nat} (h : LstA B0 w K LB X v9 v10 nN nO) (hg : w.grownBy w' v10.ownBlock)
 (ho : w'.ownsRow B0 64 1 v' (nO.length + 1) (uv nO ++ [.int .u64 (y : Int)])) : LstA B0 (w'.setCell ⟨LB, 2, none⟩ v') K LB X v9 v' nN (nO ++ [y]) := by
 have hb := h.blk10 hg
 have hg2 := grown_cell w' LB 2 v'
 have hn : NxAt B0 w' K X v9 nN := by
  obtain ⟨bs, h1, h2, h3⟩ := h.nxt
  refine ⟨bs, h1, h2.kept hg ?_, fun i b r hi hr => ⟨?_, (h3 i b r hi hr).2⟩⟩
  ·cases hx : v9.ownBlock with
   | none => exact .inl rfl
   | some g =>
     refine .inr fun e => ?_
     obtain ⟨c1, hc1⟩ := h.own9 hx
     obtain ⟨c2, hc2⟩ := h.own10 e.symm
     exact ne_ty hc1 hc2 (by decide) rfl
  ·have hbb := (h3 i b r hi hr).1
   refine (hg.block b hbb.lt (fun e => ?_)).trans hbb
   obtain ⟨cur, hc⟩ := h.own10 e.symm
   exact ne_ty hc hbb (by decide) rfl
 refine ⟨?_, hn.kept hg2 (fun e => ?_) (fun b r hbr _ e => ne_ty hbr hb (by decide) e), ?_⟩
 ·rw [heap_setCell_same w' LB 2 _ _ _ hb]; rfl
 ·obtain ⟨bs, _, h2, _⟩ := hn
  obtain ⟨_, _, cur, hc⟩ := own_lt h2 e
  exact ne_ty hc hb (by decide) rfl
 ·have ho2 : w'.ownsRow B0 64 1 v' (nO ++ [y]).length (uv (nO ++ [y])) := by
   rw [List.length_append]
   simpa [uv] using ho
  refine ho2.kept hg2 (.inr fun e => ?_)
  obtain ⟨_, _, cur, hc⟩ := own_lt ho2 e
  exact ne_ty hc hb (by decide) rfl
end Go.Proofs.YtclogekfdmikpaaDoor

/- The walk of merged. -/
namespace Go.Proofs.YtclogekfdmikpaaDoor
open Go.RowKit Go.Shelf Go.Maps
set_option linter.unusedVariables false
set_option linter.unusedSimpArgs false

structure MchO (w : World) (K lb : Nat) (v9 v10 : Value) (nx : List (List Nat)) (ou : List Nat) : Prop where
 blk : w.heap[lb]? = some (.cells #[.int .i64 (K : Int), v9, v10] 100)
 nxw : NxW w K v9 nx
 our : ∃ B, w.ownsRow B 64 1 v10 ou.length (uv ou)
theorem MchO.later {w w' : World} {K lb : Nat} {v9 v10 : Value} {nx : List (List Nat)} {ou : List Nat} (h : MchO w K lb v9 v10 nx ou) (hb : Below w.heap.size w w') : MchO w' K lb v9 v10 nx ou :=
 ⟨(hb.block lb (Array.getElem?_eq_some_iff.1 h.blk).1).trans h.blk, h.nxw.later hb, h.our.elim fun B hB => ⟨B, own_later5 hB hb⟩⟩
set_option maxRecDepth 100000 in
set_option maxHeartbeats 16000000 in
theorem merged_any (w : World) (K bm ob kb : Nat) (v9 : Value) (nx : List (List Nat)) (ou kd : List Nat) (hM : MchR w K bm v9 ob nx ou) (hk : IRow w kb kd) (hl : kd.length = nx.length) (hlo : ou.length = nx.length) (hw : Wide K nx) (hn : ∀ i c, nxt nx i c < nx.length) (hK : K ≤ 24) (hL : nx.length ≤ 2000) :
 Calls Tryd.prog 45 #[.pointer (some ⟨bm, 0, none⟩), .slice (some ⟨kb, 0, none⟩) kd.length kd.length] w fun e w' => ∃ lb u9 u10, e = .returned (.pointer (some ⟨lb, 0, none⟩)) ∧ MchO w' K lb u9 u10 (mrgN nx kd) (mrgO ou kd) ∧ Below w.heap.size w w' := by
 obtain ⟨m, hm⟩ : ∃ m, m = kd.length := ⟨_, rfl⟩
 have HM : Hid (m = kd.length ∧ m = nx.length ∧ m = ou.length) := ⟨hm, hm.trans hl, (hm.trans hl).trans hlo.symm⟩
 have hmi : (m : Int) ≤ 2000 := by omega
 have hKi : (K : Int) ≤ 24 := by omega
 have hmk := make_i K (by omega)
 obtain ⟨LB, hLB⟩ : ∃ LB, LB = w.heap.size := ⟨_, rfl⟩
 obtain ⟨wA, hwA⟩ : ∃ wA, wA = w.alloc (.cells #[.int .i64 (K : Int), .slice none 0 0, .slice none 0 0] 100) := ⟨_, rfl⟩
 have HBA : Hid (Below w.heap.size w wA) := by rw [hwA]; exact (Below.refl _ w).alloc (Nat.le_refl _) _
 have HLA : Hid (LstA w.heap.size wA K LB wA.heap.size (.slice none 0 0) (.slice none 0 0) [] []) := ⟨by rw [hwA, hLB]; exact heap_alloc_new w _, NxAt.nil _ _ _ _, ⟨rfl, .inl ⟨rfl, rfl⟩⟩⟩
 have HT : Hid (LB = w.heap.size) := hLB
 have HMR : Hid (MchR w K bm v9 ob nx ou) := hM
 have HKR : Hid (IRow w kb kd) := hk
 have HWD : Hid (Wide K nx ∧ (∀ i c, nxt nx i c < nx.length)) := ⟨hw, hn⟩
 have m0 : w.cell? ⟨bm, 0, none⟩ = some (.int .i64 (K : Int)) := cell_of_row w bm 0 _ _ _ hM.blk
 rw [← hm]
 clear hM hk hw hn hl hlo hm hL
 go_enter Tryd.func45, Tryd.ntmps45
 go_upto_region 2 with fail
 rw [← hLB, ← hwA]
 clear hLB hwA m0
 go_wp2
 go_loopw [19] (fun x19 wr => ∃ (k n c9 c10 : Nat) (a9 a10 : Option Addr) (nN : List (List Nat)) (nO : List Nat), k ≤ m ∧ x19 = .int .i64 (k : Int) ∧ n = nO.length ∧ MgP nx ou kd k nN nO ∧ LstA w.heap.size wr K LB wr.heap.size (.slice a9 n c9) (.slice a10 n c10) nN nO ∧ Below w.heap.size w wr) (fun x19 _ => m - (intOf x19).toNat)
 case atStart => exact ⟨0, 0, 0, 0, none, none, [], [], by omega, rfl, rfl, MgP.zero _ _ _, HLA.out, HBA.out⟩
 case round =>
  obtain ⟨k, n, c9, c10, a9, a10, nN, nO, hk, hx19, hn, hmg, hla, hbw⟩ := hrel
  subst hx19
  have HN : Hid (n = nO.length) := hn
  have HMG : Hid (MgP nx ou kd k nN nO) := hmg
  have HLW : Hid (LstA w.heap.size wr K LB wr.heap.size (.slice a9 n c9) (.slice a10 n c10) nN nO) := hla
  have HBW : Hid (Below w.heap.size w wr) := hbw
  have hnk : (n : Int) ≤ (k : Int) := by have := hmg.few; omega
  clear hn hmg hla hbw
  by_cases hlt : k < m
  ·have hkx : k < nx.length := by rw [← HM.out.2.1]; exact hlt
   have hkk : k < kd.length := by rw [← HM.out.1]; exact hlt
   have hko : k < ou.length := by rw [← HM.out.2.2]; exact hlt
   have a0 := upC HBW.out (HKR.out.cell hkk)
   obtain ⟨X, hX⟩ : ∃ X, X = kd[k] := ⟨_, rfl⟩
   rw [← hX] at a0
   have HX : Hid (X = kd[k]) := hX
   have b0 : wr.cell? ⟨LB, 2, none⟩ = some (.slice a10 n c10) := cell_of_row wr LB 2 _ _ _ HLW.out.blk
   clear hX
   by_cases hc : (X : Int) < (n : Int)
   ·have HF : Hid (MgP nx ou kd (k + 1) nN nO) := HMG.out.skip hkk hkx hko (by rw [← HX.out, ← HN.out]; omega)
    go_wp2_with fail
    go_roundw
    case rel => exact ⟨k + 1, n, c9, c10, a9, a10, nN, nO, by omega, by go_num, HN.out, HF.out, HLW.out, HBW.out⟩
    case measure => simp [intOf]; omega
   ·obtain ⟨F, hF⟩ : ∃ F, F = nx[k].map (kd.getD · 0) := ⟨_, rfl⟩
    have hFl : F.length = K := by rw [hF, List.length_map]; exact HWD.out.1 _ (List.getElem_mem hkx)
    have HF : Hid (F = nx[k].map (kd.getD · 0) ∧ F.length = K) := ⟨hF, hFl⟩
    clear hF hFl
    obtain ⟨R, hR⟩ : ∃ R, R = wr.heap.size := ⟨_, rfl⟩
    obtain ⟨w1, hw1⟩ : ∃ w1, w1 = wr.alloc (.cells (iv (List.replicate K 0)).toArray 3) := ⟨_, rfl⟩
    have HB1 : Hid (Below w.heap.size w w1) := by rw [hw1]; exact HBW.out.alloc HBW.out.size _
    have HI1 : Hid (IRow w1 R (mix 0 F (List.replicate K 0))) := by show IRow _ _ _; rw [hw1, hR, mix_zero]; exact heap_alloc_new wr _
    have HL1 : Hid (LstA w.heap.size w1 K LB R (.slice a9 n c9) (.slice a10 n c10) nN nO) := by
     rw [hw1, hR]; exact HLW.out.later ((Below.refl _ wr).alloc (Nat.le_refl _) _)
    have HR : Hid (w.heap.size ≤ R) := by rw [hR]; exact HBW.out.size
    obtain ⟨g, cap, rb, hv, hg1, hrb⟩ := HMR.out.nxw.read hkx
    have a1 : w1.cell? ⟨bm, 1, none⟩ = some v9 := upC HB1.out (cell_of_row w bm 1 _ _ _ HMR.out.blk)
    rw [hv, ← HM.out.2.1] at a1
    have a2 := upC HB1.out hg1
    have a3 := upC HBW.out (cell_of_row w bm 0 _ _ _ HMR.out.blk)
    have a3' : wr.cell? ⟨bm, 0, none⟩ = some (.int .i64 (K : Int)) := a3
    have HRB : Hid (IRow w rb nx[k] ∧ nx[k].length = K) := ⟨hrb, HWD.out.1 _ (List.getElem_mem hkx)⟩
    clear hv hg1 hrb a3
    go_upto_region 7 with fail
    rw [← hR, ← hw1]
    clear hR hw1 a0 b0 a3'
    go_wp2
    clear a1 a2
    go_loopw [44] (fun x44 wq => ∃ (j : Nat), j ≤ K ∧ x44 = .int .i64 (j : Int) ∧ w1.grownBy wq (some R) ∧ IRow wq R (mix j F (List.replicate K 0))) (fun x44 _ => K - (intOf x44).toNat)
    case atStart => exact ⟨0, by omega, rfl, grown_refl _ _, HI1.out⟩
    case round =>
     obtain ⟨j, hj, hx44, hgq, hiq⟩ := hrel
     subst hx44
     have HGQ : Hid (w1.grownBy wr (some R)) := hgq
     have HIQ : Hid (IRow wr R (mix j F (List.replicate K 0))) := hiq
     have HBQ : Hid (Below w.heap.size w wr) := HB1.out.grown hgq HB1.out.size (fun j e => by cases e; exact HR.out)
     clear hgq hiq
     by_cases hjl : j < K
     ·have hjr : j < nx[k].length := by rw [HRB.out.2]; exact hjl
      have a3 := upC HBQ.out (HRB.out.1.cell hjr)
      obtain ⟨s, hs⟩ : ∃ s, s = nx[k][j] := ⟨_, rfl⟩
      rw [← hs] at a3
      have hsl : s < kd.length := by
       have := HWD.out.2 k j
       rw [nxt_in hkx hjr] at this
       rw [hs, ← HM.out.1, HM.out.2.1]; exact this
      have hsi : (s : Int) < (m : Int) := by have := HM.out.1; omega
      have a4 := upC HBQ.out (HKR.out.cell hsl)
      obtain ⟨z, hz⟩ : ∃ z, z = kd[s] := ⟨_, rfl⟩
      rw [← hz] at a4
      have hjF : j < F.length := by rw [HF.out.2]; exact hjl
      have hzF : z = F[j] := by
       have : ∀ h, F[j]'h = kd[s] := fun h => by
        have := HF.out.1
        subst this
        subst hs
        simp [List.getD_eq_getElem?_getD, hsl]
       rw [hz, this]
      have hrl : (List.replicate K 0).length = F.length := by rw [HF.out.2]; simp
      have hml : j < (mix j F (List.replicate K 0)).length := by rw [mix_len hrl]; exact hjF
      have c1 := HIQ.out.cell hml
      obtain ⟨x0, hx0⟩ : ∃ x0, x0 = (mix j F (List.replicate K 0))[j] := ⟨_, rfl⟩
      rw [← hx0] at c1
      have f1 := HIQ.out.frozen j
      obtain ⟨w2, hw2⟩ : ∃ w2, w2 = wr.setCell ⟨R, j, none⟩ (.int .i64 (z : Int)) := ⟨_, rfl⟩
      have HFF : Hid (w1.grownBy w2 (some R) ∧ IRow w2 R (mix (j + 1) F (List.replicate K 0))) := by
       refine ⟨by rw [hw2]; exact grown_put _ HGQ.out, ?_⟩
       have h1 := HIQ.out.set j z
       rw [← hw2] at h1
       have h2 := mix_set (n := j) hrl hjF
       rw [← hzF] at h2
       rw [h2] at h1
       exact h1
      clear hs hsl hz hjF hzF hml hx0 hjr hrl
      go_wp2_with fail
      rw [← hw2]
      clear hw2 c1 f1 a3 a4
      go_roundw
      case rel => exact ⟨j + 1, by omega, by go_num, HFF.out⟩
      case measure => simp [intOf]; omega
     ·obtain rfl : j = K := by omega
      have HIF : Hid (IRow wr R F) := by
       have h1 := HIQ.out
       have h2 := mix_all (F := F) (R := List.replicate j 0) (by rw [HF.out.2]; simp)
       rw [HF.out.2] at h2
       rw [h2] at h1
       exact h1
      have HLQ : Hid (LstA w.heap.size wr j LB R (.slice a9 n c9) (.slice a10 n c10) nN nO) := HL1.out.row HI1.out HGQ.out
      obtain ⟨bs, hb1, hb2, hb3⟩ := HLQ.out.nxt
      have hnN : nN.length = n := by rw [HMG.out.len, HN.out]
      have HBS3 : Hid (bs.length = nN.length ∧ nN.length = n ∧ ∀ (i b : Nat) (r : List Nat), bs[i]? = some b → nN[i]? = some r → IRow wr b r ∧ b < R) := ⟨hb1, hnN, hb3⟩
      have HO9 : Hid (wr.ownsRow w.heap.size 26 1 (.slice a9 n c9) n (bs.map (rowV j))) := by rw [hnN] at hb2; exact hb2
      obtain ⟨j0, ji, jz0, jz1, jz2⟩ := info_parts info_ints
      have HJ : Hid (Tryd.prog.info? 26 = some j0 ∧ j0.zero = some (.slice none 0 0) ∧ j0.size = 1 ∧ j0.bytes = 24) := ⟨ji, jz0, jz1, jz2⟩
      have HBS : Hid (w.heap.size ≤ wr.heap.size) := HBQ.out.size
      have HFIN : Hid (∀ (g6 cap6 : Nat) (w6 : World), w6.ownsRow w.heap.size 26 1 (.slice (some ⟨g6, 0, none⟩) (n + 1) cap6) (n + 1) (bs.map (rowV j) ++ [rowV j R]) → (wr.alloc (.cells #[.slice (some ⟨R, 0, none⟩) j j] 26)).grownBy w6 (Value.slice a9 n c9).ownBlock →
       (w6.cell? ⟨LB, 1, none⟩ = some (.slice a9 n c9) ∧ w6.frozen? ⟨LB, 1, none⟩ = false) ∧ LstA w.heap.size (w6.setCell ⟨LB, 1, none⟩ (.slice (some ⟨g6, 0, none⟩) (n + 1) cap6)) j LB w6.heap.size (.slice (some ⟨g6, 0, none⟩) (n + 1) cap6) (.slice a10 n c10) (nN ++ [F]) nO ∧ Below w.heap.size w (w6.setCell ⟨LB, 1, none⟩ (.slice (some ⟨g6, 0, none⟩) (n + 1) cap6))) := fun g6 cap6 w6 q1 q2 => by
       have hb6 : Below wr.heap.size wr (wr.alloc (.cells #[.slice (some ⟨R, 0, none⟩) j j] 26)) := (Below.refl _ wr).alloc (Nat.le_refl _) _
       have hRl := HIF.out.lt
       have hsz : wr.heap.size ≤ w6.heap.size := Nat.le_trans hb6.size q2.size
       have hLV := HLQ.out.later hb6
       have hblk := hLV.blk9 q2
       refine ⟨⟨cell_of_row w6 LB 1 _ _ _ hblk, Lib.frozen_of_heap hblk 1⟩, hLV.putN (bs := bs) HBS3.out.1 (by rw [HBS3.out.2.1]; exact own_later5 HO9.out hb6) (fun i b r hi hr => ⟨(HBS3.out.2.2 i b r hi hr).1.later hb6, (HBS3.out.2.2 i b r hi hr).2⟩) (by omega) (HIF.out.later hb6) (by omega) q2 (by rw [HBS3.out.2.1]; exact q1), ?_⟩
       exact ((HBQ.out.alloc HBQ.out.size _).grown q2 (Nat.le_trans HBQ.out.size hb6.size) (fun k e => (own_lt HO9.out e).1)).setCell (p := ⟨LB, 1, none⟩) (by show w.heap.size ≤ LB; rw [HT.out]; exact Nat.le_refl _) _
      obtain ⟨av, hav⟩ : ∃ av, av = bs.map (rowV j) := ⟨_, rfl⟩
      rw [← hav] at HO9 HFIN
      have b1 : wr.cell? ⟨LB, 1, none⟩ = some (.slice a9 n c9) := cell_of_row wr LB 1 _ _ _ HLQ.out.blk
      clear hb1 hb2 hb3 ji jz0 jz1 jz2 hav hnN
      unfold rowV at HFIN
      go_upto_region 13 with (at_builtin; refine wpList_append_lies _ rfl _ _ 97 rfl w.heap.size 26 j0 _ 1 24 Tryd.underlying97 HJ.out.1 HJ.out.2.1 HJ.out.2.2.1 HJ.out.2.2.2 rfl (by decide) (.slice a9 n c9) n av rfl (own_later5 HO9.out ((Below.refl _ wr).alloc (Nat.le_refl _) _)) ⟨wr.heap.size, 0, none⟩ 1 1 [.slice (some ⟨R, 0, none⟩) j j] rfl rfl (World.news_of_block (cs := #[.slice (some ⟨R, 0, none⟩) j j]) (t := 26) (fr := (0, 0)) (heap_alloc_new wr _)) (by simp [Value.oneCell']) (by omega) (by unfold maxLen; omega) (by omega) (by have := HBS.out; simp; omega) _ rfl (fun g6 cap6 w6 q1 q2 q3 q4 => ?_); have HFH := HFIN.out g6 cap6 w6 q1 q2; have HFX : Hid (LstA w.heap.size (w6.setCell ⟨LB, 1, none⟩ (.slice (some ⟨g6, 0, none⟩) (n + 1) cap6)) j LB w6.heap.size (.slice (some ⟨g6, 0, none⟩) (n + 1) cap6) (.slice a10 n c10) (nN ++ [F]) nO ∧ Below w.heap.size w (w6.setCell ⟨LB, 1, none⟩ (.slice (some ⟨g6, 0, none⟩) (n + 1) cap6))) := HFH.2; have t0 := HFH.1.1; have t1 := HFH.1.2; clear HFH q1 q2 q3 q4)
      clear HFIN b1 HJ
      obtain ⟨S6, hS6⟩ : ∃ S6, S6 = w6.heap.size := ⟨_, rfl⟩
      obtain ⟨w7, hw7⟩ : ∃ w7, w7 = w6.setCell ⟨LB, 1, none⟩ (.slice (some ⟨g6, 0, none⟩) (n + 1) cap6) := ⟨_, rfl⟩
      have hs7 : w7.heap.size = S6 := by rw [hw7, hS6]; simp
      rw [← hw7, ← hS6] at HFX
      rw [← hw7]
      clear hw7 hS6 t0 t1
      have HL7 : Hid (LstA w.heap.size w7 j LB w7.heap.size (.slice (some ⟨g6, 0, none⟩) (n + 1) cap6) (.slice a10 n c10) (nN ++ [F]) nO) := by rw [hs7]; exact HFX.out.1
      have HB7 : Hid (Below w.heap.size w w7) := HFX.out.2
      clear hs7 HFX
      obtain ⟨j1, ji, jz0, jz1, jz2⟩ := info_parts info_u64
      have HJ : Hid (Tryd.prog.info? 64 = some j1 ∧ j1.zero = some (.int .u64 0) ∧ j1.size = 1 ∧ j1.bytes = 8) := ⟨ji, jz0, jz1, jz2⟩
      obtain ⟨Y, hY⟩ : ∃ Y, Y = ou[k] := ⟨_, rfl⟩
      have e2 := upC HB7.out (HMR.out.our.cell hko)
      rw [← hY] at e2
      have HY : Hid (Y = ou[k]) := hY
      have e1 : w7.cell? ⟨bm, 2, none⟩ = some (.slice (some ⟨ob, 0, none⟩) m m) := by rw [HM.out.2.2]; exact upC HB7.out (cell_of_row w bm 2 _ _ _ HMR.out.blk)
      have HOW : Hid (∀ V : World, Below w7.heap.size w7 V → V.ownsRow w.heap.size 64 1 (.slice a10 n c10) n (uv nO)) := fun V hV => by
       have h1 := own_later5 HL7.out.out hV
       rw [← HN.out] at h1
       exact h1
      have HE0 : Hid (∀ V : World, Below w7.heap.size w7 V → V.cell? ⟨LB, 2, none⟩ = some (.slice a10 n c10)) := fun V hV => upC hV (cell_of_row w7 LB 2 _ _ _ HL7.out.blk)
      have e0 := HE0.out w7 (Below.refl _ _)
      have d0 := HE0.out (w7.alloc (.cells #[.int .u64 (Y : Int)] 64)) ((Below.refl _ w7).alloc (Nat.le_refl _) _)
      have HBS7 : Hid (w.heap.size ≤ w7.heap.size) := HB7.out.size
      have HFIN : Hid (∀ (V w8 : World) (g8 cap8 : Nat), Below w7.heap.size w7 V → w8.ownsRow w.heap.size 64 1 (.slice (some ⟨g8, 0, none⟩) (n + 1) cap8) (n + 1) (uv nO ++ [.int .u64 (Y : Int)]) → V.grownBy w8 (Value.slice a10 n c10).ownBlock →
       (w8.cell? ⟨LB, 2, none⟩ = some (.slice a10 n c10) ∧ w8.frozen? ⟨LB, 2, none⟩ = false) ∧ LstA w.heap.size (w8.setCell ⟨LB, 2, none⟩ (.slice (some ⟨g8, 0, none⟩) (n + 1) cap8)) j LB (w8.setCell ⟨LB, 2, none⟩ (.slice (some ⟨g8, 0, none⟩) (n + 1) cap8)).heap.size (.slice (some ⟨g6, 0, none⟩) (n + 1) cap6) (.slice (some ⟨g8, 0, none⟩) (n + 1) cap8) (nN ++ [F]) (nO ++ [Y]) ∧ Below w.heap.size w (w8.setCell ⟨LB, 2, none⟩ (.slice (some ⟨g8, 0, none⟩) (n + 1) cap8))) := fun V w8 g8 cap8 hV q1 q2 => by
       have hLV := HL7.out.later hV
       have hblk := hLV.blk10 q2
       have hsz : w7.heap.size ≤ w8.heap.size := Nat.le_trans hV.size q2.size
       have hBV := HB7.out.trans (hV.mono HB7.out.size)
       refine ⟨⟨cell_of_row w8 LB 2 _ _ _ hblk, Lib.frozen_of_heap hblk 2⟩, (hLV.putO q2 (by rw [← HN.out]; exact q1)).up (by simp; exact hsz), ?_⟩
       exact (hBV.grown q2 hBV.size (fun k e => (own_lt (HOW.out V hV) e).1)).setCell (p := ⟨LB, 2, none⟩) (by show w.heap.size ≤ LB; rw [HT.out]; exact Nat.le_refl _) _
      have HMN : Hid (MgP nx ou kd (k + 1) (nN ++ [F]) (nO ++ [Y])) := by
       have h1 := HMG.out.put hkk hkx hko (by rw [← HX.out, ← HN.out]; omega)
       rw [← HF.out.1, ← HY.out] at h1
       exact h1
      clear hY ji jz0 jz1 jz2
      go_region_law (refine step_append_lies _ (by rfl) _ _ 98 (by rfl) w.heap.size 64 j1 _ 1 8 Tryd.underlying98 HJ.out.1 HJ.out.2.1 HJ.out.2.2.1 HJ.out.2.2.2 rfl (by decide) (.slice a10 n c10) n (uv nO) (by rfl) (HOW.out _ (((Below.refl _ w7).drew).alloc (by simp) _)) ⟨w7.heap.size, 0, none⟩ 1 1 [.int .u64 (Y : Int)] (by rfl) (by rfl) (World.news_of_block (cs := #[.int .u64 (Y : Int)]) (t := 64) (fr := (0, 0)) (heap_alloc_new w7.drew _)) (by simp [Value.oneCell']) (by omega) (by unfold maxLen; omega) (by omega) (by have := HBS7.out; simp; omega) _ rfl ?_; intro g8 cap8 w8 hown hgrow hat hlt8; have hfar := (HFIN.out _ _ _ _ (((Below.refl _ w7).drew).alloc (by simp) _) hown hgrow).1; have hfz := hfar.2; have hcz := hfar.1; clear hfar)
      all_goals
       have HFF : Hid (LstA w.heap.size (w8.setCell ⟨LB, 2, none⟩ (.slice (some ⟨g8, 0, none⟩) (n + 1) cap8)) j LB (w8.setCell ⟨LB, 2, none⟩ (.slice (some ⟨g8, 0, none⟩) (n + 1) cap8)).heap.size (.slice (some ⟨g6, 0, none⟩) (n + 1) cap6) (.slice (some ⟨g8, 0, none⟩) (n + 1) cap8) (nN ++ [F]) (nO ++ [Y]) ∧ Below w.heap.size w (w8.setCell ⟨LB, 2, none⟩ (.slice (some ⟨g8, 0, none⟩) (n + 1) cap8))) := (HFIN.out _ _ _ _ (((Below.refl _ w7).drew).alloc (by simp) _) hown hgrow).2
       clear hown hgrow hat hlt8 e0 e1 e2 d0 hfz hcz HFIN
       go_wp2
       go_roundw
       case rel => exact ⟨k + 1, n + 1, cap6, cap8, _, _, nN ++ [F], nO ++ [Y], by omega, by go_num, by simp [HN.out], HMN.out, HFF.out⟩
       case measure => simp [intOf]; omega
  ·obtain rfl : k = m := by omega
   have HFF : Hid (MchO wr K LB (.slice a9 n c9) (.slice a10 n c10) (mrgN nx kd) (mrgO ou kd) ∧ Below w.heap.size w wr) := by
    obtain ⟨h1, h2⟩ := HMG.out.done (by rw [← HM.out.1]; exact Nat.le_refl _)
    rw [h1, h2]
    exact ⟨⟨HLW.out.blk, HLW.out.nxt.w, ⟨_, HLW.out.out⟩⟩, HBW.out⟩
   go_wp2
   go_ret
   exact ⟨LB, _, _, rfl, HFF.out⟩
end Go.Proofs.YtclogekfdmikpaaDoor

/- When there is no machine, by the rows alone: too many situations, or too many that tell different things. -/
namespace Go.Proofs.YtclogekfdmikpaaDoor
open Go.RowKit Go.Shelf Go.Maps
set_option linter.unusedVariables false
set_option linter.unusedSimpArgs false

def Wd (K : Nat) (w : List Nat) : Prop := ∀ c, c ∈ w → c < K
def sitC (xs : List (Nd × Bool)) (w : List Nat) : List (Nat × Bool) := xs.map fun x => w.foldl (stO x) (fiO x)
def ManyC (K : Nat) (xs : List (Nd × Bool)) : Prop := ∃ L : List (List Nat), L.length = 2001 ∧ (∀ w, w ∈ L → Wd K w) ∧ L.Pairwise (fun a b => sitC xs a ≠ sitC xs b)
def outC (xs : List (Nd × Bool)) (w : List Nat) (i : Nat) : Prop := ∃ x, xs[i]? = some x ∧ ∃ u v : List Int, w.map Int.ofNat = u ++ v ∧ (x.2 = true → u = []) ∧ x.1.fits v
def FarW (K : Nat) (xs : List (Nd × Bool)) (a b : List Nat) : Prop := ∃ v, Wd K v ∧ ∃ i, ¬ (outC xs (a ++ v) i ↔ outC xs (b ++ v) i)
def FarC (K : Nat) (xs : List (Nd × Bool)) : Prop := ∃ L : List (List Nat), L.length = 401 ∧ (∀ w, w ∈ L → Wd K w) ∧ L.Pairwise (FarW K xs)
def BigC (K : Nat) (xs : List (Nd × Bool)) : Prop := ManyC K xs ∨ FarC K xs
theorem pair_few {α : Type} {L : List α} {R : α → α → Prop} (f : α → Nat) (n : Nat) (hf : ∀ a, a ∈ L → f a < n) (hR : ∀ a b, a ∈ L → b ∈ L → R a b → f a ≠ f b) (h : L.Pairwise R) : L.length ≤ n := by
 have h1 : (L.map f).Nodup := by
  unfold List.Nodup
  rw [List.pairwise_map]
  exact h.imp_of_mem (fun ha hb hab => hR _ _ ha hb hab)
 have h2 : (L.map f).length ≤ (List.range n).length := List.Nodup.length_le_of_subset h1 (fun x hx => by
  obtain ⟨a, ha, rfl⟩ := List.mem_map.1 hx
  exact List.mem_range.2 (hf a ha))
 simpa using h2
theorem pair_words {S : Type} {L : List S} {P : List Nat → S → Prop} {R : List Nat → List Nat → Prop} (hn : L.Nodup) (hP : ∀ x, x ∈ L → ∃ w, P w x) (hR : ∀ x y w v, x ≠ y → P w x → P v y → R w v) : ∃ M : List (List Nat), M.length = L.length ∧ (∀ w, w ∈ M → ∃ x, x ∈ L ∧ P w x) ∧ M.Pairwise R := by
 induction L with
 | nil => exact ⟨[], rfl, fun w hw => by simp at hw, List.Pairwise.nil⟩
 | cons x L ih =>
   obtain ⟨M, h1, h2, h3⟩ := ih (List.nodup_cons.1 hn).2 (fun y hy => hP y (List.mem_cons_of_mem _ hy))
   obtain ⟨w, hw⟩ := hP x List.mem_cons_self
   refine ⟨w :: M, by simp [h1], fun v hv => ?_, List.pairwise_cons.2 ⟨fun v hv => ?_, h3⟩⟩
   ·rcases List.mem_cons.1 hv with rfl | hv
    ·exact ⟨x, List.mem_cons_self, hw⟩
    ·obtain ⟨y, hy, hp⟩ := h2 v hv
     exact ⟨y, List.mem_cons_of_mem _ hy, hp⟩
   ·obtain ⟨y, hy, hp⟩ := h2 v hv
    exact hR x y w v (fun e => (List.nodup_cons.1 hn).1 (e ▸ hy)) hw hp
theorem sit_same {K : Nat} {xs : List (Nd × Bool)} {Ms : List (List (Nat × Bool))} {nxs : List (List (List Nat))} (h1 : Ms.length = xs.length) (h2 : nxs.length = xs.length) (hs : SpotsA K xs Ms nxs) {a b : List Nat} (ha : Wd K a) (hb : Wd K b) : a.foldl (stepAll nxs) (List.replicate xs.length 0) = b.foldl (stepAll nxs) (List.replicate xs.length 0) ↔ sitC xs a = sitC xs b := by
 rw [fold_all nxs a _ (by simp [h2]), fold_all nxs b _ (by simp [h2])]
 have hg : ∀ i (hi : i < xs.length) (w : List Nat), Wd K w → (Ms[i]'(by omega))[runM (nxs[i]'(by omega)) 0 w]? = some (w.foldl (stO xs[i]) (fiO xs[i])) := by
  intro i hi w hw
  obtain ⟨hp, _, _⟩ := hs i xs[i] (Ms[i]'(by omega)) (nxs[i]'(by omega)) (List.getElem?_eq_getElem _) (List.getElem?_eq_getElem _) (List.getElem?_eq_getElem _)
  exact meet_run hp.meet hp.all w hw 0 _ hp.meet.one
 constructor
 ·intro e
  apply List.ext_getElem (by simp [sitC])
  intro i hi1 hi2
  have hi : i < xs.length := by simpa [sitC] using hi1
  have e1 : (List.zipWith (fun nx s => runM nx s a) nxs (List.replicate xs.length 0))[i]'(by simp [h2, hi]) = (List.zipWith (fun nx s => runM nx s b) nxs (List.replicate xs.length 0))[i]'(by simp [h2, hi]) := by simp only [e]
  simp only [List.getElem_zipWith, List.getElem_replicate] at e1
  have ga := hg i hi a ha
  have gb := hg i hi b hb
  rw [e1, gb] at ga
  simp only [sitC, List.getElem_map]
  exact (Option.some.inj ga).symm
 ·intro e
  apply List.ext_getElem (by simp [h2])
  intro i hi1 hi2
  have hi : i < xs.length := by simp [h2] at hi1; exact hi1
  simp only [List.getElem_zipWith, List.getElem_replicate]
  have e1 : (sitC xs a)[i]'(by simp [sitC, hi]) = (sitC xs b)[i]'(by simp [sitC, hi]) := by simp only [e]
  simp only [sitC, List.getElem_map] at e1
  obtain ⟨hp, _, _⟩ := hs i xs[i] (Ms[i]'(by omega)) (nxs[i]'(by omega)) (List.getElem?_eq_getElem _) (List.getElem?_eq_getElem _) (List.getElem?_eq_getElem _)
  have ga := hg i hi a ha
  have gb := hg i hi b hb
  rw [e1] at ga
  exact meet_inj hp.meet ga gb
theorem many_of {K : Nat} {xs : List (Nd × Bool)} (h : SitF K xs) : ManyC K xs := by
 rcases h with ⟨x, hx, L, hn, hl, hr⟩ | ⟨Ms, nxs, h1, h2, hs, L, hn, hl, hr⟩
 ·obtain ⟨M, m1, m2, m3⟩ := pair_words (P := fun w y => Wd K w ∧ y = w.foldl (stO x) (fiO x)) (R := fun a b => sitC xs a ≠ sitC xs b) hn (fun y hy => hr y hy) (fun y z w v hne hw hv e => by
   obtain ⟨i, hi, rfl⟩ := List.getElem_of_mem hx
   have e1 : (sitC xs w)[i]'(by simp [sitC, hi]) = (sitC xs v)[i]'(by simp [sitC, hi]) := by simp only [e]
   simp only [sitC, List.getElem_map] at e1
   exact hne (by rw [hw.2, hv.2, e1]))
  exact ⟨M, by omega, fun w hw => (m2 w hw).choose_spec.2.1, m3⟩
 ·obtain ⟨M, m1, m2, m3⟩ := pair_words (P := fun w y => Wd K w ∧ y = w.foldl (stepAll nxs) (List.replicate xs.length 0)) (R := fun a b => sitC xs a ≠ sitC xs b) hn (fun y hy => hr y hy) (fun y z w v hne hw hv e => hne (by rw [hw.2, hv.2, (sit_same h1 h2 hs hw.1 hv.1).2 e]))
  exact ⟨M, by omega, fun w hw => (m2 w hw).choose_spec.2.1, m3⟩
theorem not_many {K : Nat} {xs : List (Nd × Bool)} {Ms : List (List (Nat × Bool))} {nxs : List (List (List Nat))} {met nx : List (List Nat)} (h1 : Ms.length = xs.length) (h2 : nxs.length = xs.length) (hs : SpotsA K xs Ms nxs) (hm : MeetP K (stepAll nxs) (List.replicate xs.length 0) met nx) (hl : nx.length = met.length) (h2000 : met.length ≤ 2000) : ¬ ManyC K xs := by
 rintro ⟨L, l1, l2, l3⟩
 have := pair_few (fun w => runM nx 0 w) met.length (fun w hw => (List.getElem?_eq_some_iff.1 (meet_run hm hl w (l2 w hw) 0 _ hm.one)).1) (fun a b ha hb hne e => by
  have ga := meet_run hm hl a (l2 a ha) 0 _ hm.one
  have gb := meet_run hm hl b (l2 b hb) 0 _ hm.one
  have e' : runM nx 0 a = runM nx 0 b := e
  rw [e', gb] at ga
  exact hne ((sit_same h1 h2 hs (l2 a ha) (l2 b hb)).1 (Option.some.inj ga).symm)) l3
 omega
theorem far_of {K : Nat} {xs : List (Nd × Bool)} {nx : List (List Nat)} {ou kd : List Nat} {cnt : Nat} (ha : AsMet nx) (hw : Wide K nx) (ho : ou.length = nx.length) (ht : ∀ w : List Nat, Wd K w → ∀ i, (ou.getD (runM nx 0 w) 0).testBit i = true ↔ outC xs w i) (hk : KndP K nx ou kd cnt) (hc : 400 < cnt) : FarC K xs := by
 obtain ⟨kc, hkc⟩ := kc_of hk.met
 obtain ⟨M, m1, m2, m3⟩ := pair_words (L := List.range 401) (P := fun w v => Wd K w ∧ kd.getD (runM nx 0 w) 0 = v) (R := FarW K xs) List.nodup_range (fun v hv => by
  have hv' : v < kc kd.length := by rw [hkc.last]; have := List.mem_range.1 hv; omega
  obtain ⟨i, hi, he, _⟩ := hkc.first kd.length (Nat.le_refl _) v hv'
  obtain ⟨w, hw1, hw2⟩ := table_met ha hw i (by rw [← hk.len]; exact hi)
  exact ⟨w, hw1, by rw [hw2]; exact he⟩) (fun x y w v hne hx hy => by
  have l0 := asMet_pos ha
  have hi := runM_lt ha l0 w 0 l0
  have hj := runM_lt ha l0 v 0 l0
  obtain ⟨u, hu, hd⟩ := hk.told _ _ hi hj (fun e => hne (by rw [← hx.2, ← hy.2, e]))
  refine ⟨u, hu, ?_⟩
  rw [← runM_app, ← runM_app] at hd
  have : ∃ i, (ou.getD (runM nx 0 (w ++ u)) 0).testBit i ≠ (ou.getD (runM nx 0 (v ++ u)) 0).testBit i := by
   refine Classical.byContradiction fun hno => hd (Nat.eq_of_testBit_eq fun i => ?_)
   exact Classical.byContradiction fun h => hno ⟨i, h⟩
  obtain ⟨i, hi⟩ := this
  refine ⟨i, fun hiff => hi ?_⟩
  have hwu : Wd K (w ++ u) := fun c hc => (List.mem_append.1 hc).elim (hx.1 c) (hu c)
  have hvu : Wd K (v ++ u) := fun c hc => (List.mem_append.1 hc).elim (hy.1 c) (hu c)
  rw [← ht _ hwu, ← ht _ hvu] at hiff
  exact Bool.eq_iff_iff.2 hiff)
 exact ⟨M, by simpa using m1, fun w hw => (m2 w hw).choose_spec.2.1, m3⟩
theorem not_far {K : Nat} {xs : List (Nd × Bool)} {nx : List (List Nat)} {ou : List Nat} (h : LeastOf K xs nx ou) (hn : nx.length ≤ 400) : ¬ FarC K xs := by
 rintro ⟨L, l1, l2, l3⟩
 have l0 := asMet_pos h.asMet
 have := pair_few (fun w => runM nx 0 w) nx.length (fun w _ => runM_lt h.asMet l0 w 0 l0) (fun a b ha hb hf e => by
  obtain ⟨v, hv, i, hno⟩ := hf
  apply hno
  have e' : runM nx 0 a = runM nx 0 b := e
  have hav : Wd K (a ++ v) := fun c hc => (List.mem_append.1 hc).elim (l2 a ha c) (hv c)
  have hbv : Wd K (b ++ v) := fun c hc => (List.mem_append.1 hc).elim (l2 b hb c) (hv c)
  have ga := h.tells _ hav i
  have gb := h.tells _ hbv i
  rw [runM_app, e', ← runM_app] at ga
  exact ga.symm.trans gb) l3
 omega
end Go.Proofs.YtclogekfdmikpaaDoor

/- The walk of Build. -/
namespace Go.Proofs.YtclogekfdmikpaaDoor
open Go.RowKit Go.Shelf Go.Maps
set_option linter.unusedVariables false
set_option linter.unusedSimpArgs false

theorem MchO.at_ {w : World} {K lb : Nat} {v9 v10 : Value} {nx : List (List Nat)} {ou : List Nat} (h : MchO w K lb v9 v10 nx ou) (hw : Wide K nx) (hK : K ≤ 24) (hn : nx.length ≤ 1000000) (ho : ou.length ≤ 1000000) : MchAt w lb K nx ou := by
 obtain ⟨hb, ⟨B9, bs, h1, h2, h3⟩, ⟨B10, h4⟩⟩ := h
 obtain ⟨na, nc, rfl⟩ := own_sl1 h2
 obtain ⟨oa, oc, rfl⟩ := own_sl1 h4
 refine ⟨na, nc, oa, oc, hb, fun hp => ?_, ⟨by simp [intsN], fun hp => ?_⟩, hn, ho, by omega, fun row hr => by rw [hw row hr]; omega⟩
 ·obtain ⟨g, rfl, _, cur, hg, hc⟩ := own_cells1 h2 hp
  refine ⟨g, 0, rfl, fun i hi => ?_⟩
  have hbi : bs[i]? = some (bs[i]'(by omega)) := List.getElem?_eq_getElem _
  have hrow := h3 i _ _ hbi (List.getElem?_eq_getElem hi)
  have hl := hw _ (List.getElem_mem hi)
  refine ⟨some ⟨bs[i]'(by omega), 0, none⟩, K, ?_, hrow.rd⟩
  rw [Nat.zero_add, hc i hi, List.getElem?_map, hbi, hl]
  rfl
 ·obtain ⟨g, rfl, _, cur, hg, hc⟩ := own_cells1 h4 hp
  refine ⟨g, 0, rfl, fun i hi => ?_⟩
  rw [Nat.zero_add, hc i hi]
  simp [uv, intsN, List.getD_eq_getElem?_getD, hi]
def TooBig (K : Nat) (xs : List (Nd × Bool)) : Prop := SitF K xs ∨ ∃ Ms nxs met nx ou kd cnt, (Ms.length = xs.length ∧ nxs.length = xs.length ∧ SpotsA K xs Ms nxs ∧ MeetP K (stepAll nxs) (List.replicate xs.length 0) met nx ∧ nx.length = met.length) ∧ AsMet nx ∧ Wide K nx ∧ ou.length = nx.length ∧ (∀ w : List Nat, (∀ c, c ∈ w → c < K) → ∀ i, (ou.getD (runM nx 0 w) 0).testBit i = true ↔ ∃ x, xs[i]? = some x ∧ ∃ u v : List Int, w.map Int.ofNat = u ++ v ∧ (x.2 = true → u = []) ∧ x.1.fits v) ∧ KndP K nx ou kd cnt ∧ 400 < cnt
theorem TooBig.big {K : Nat} {xs : List (Nd × Bool)} (h : TooBig K xs) : BigC K xs := by
 rcases h with h | ⟨Ms, nxs, met, nx, ou, kd, cnt, _, ha, hw, ho, ht, hk, hc⟩
 ·exact .inl (many_of h)
 ·exact .inr (far_of ha hw ho ht hk hc)
def BldP (K : Int) (xs : List (Nd × Bool)) (w : World) (e : Ending) (w' : World) : Prop :=
 Below w.heap.size w w' ∧ ((alwB K xs = false ∧ e = .returned (.tuple #[.pointer none, .int .i64 1])) ∨ (alwB K xs = true ∧ ((e = .returned (.tuple #[.pointer none, .int .i64 7]) ∧ TooBig K.toNat xs) ∨
  ∃ lb nx ou, e = .returned (.tuple #[.pointer (some ⟨lb, 0, none⟩), .int .i64 0]) ∧ MchAt w' lb K.toNat nx ou ∧ LeastOf K.toNat xs nx ou ∧ nx.length ≤ 400 ∧ ¬ BigC K.toNat xs)))
theorem XRow.base {B B' : Nat} {w : World} {D : Nat} {a : Option Addr} {xs : List (Nd × Bool)} (hB : B ≤ B') (h : XRow B w D a xs) : XRow B' w D a xs := by
 intro hp
 obtain ⟨b, off, e, hk⟩ := h hp
 refine ⟨b, off, e, fun i hi => ?_⟩
 obtain ⟨us, h1, h2, h3⟩ := hk i hi
 exact ⟨us, InV.base hB D h1, h2, h3⟩
set_option maxRecDepth 100000 in
set_option maxHeartbeats 8000000 in
theorem build_any (D : Nat) (K : Int) (xs : List (Nd × Bool)) (a : Option Addr) (cp : Nat) (w : World) (hT : TabD w) (hx : XRow w.heap.size w D a xs) (hl : xs.length ≤ 2600000000000) :
 Calls Tryd.prog 25 #[.int .i64 K, .slice a xs.length cp] w (BldP K xs w) := by
 have HA : Hid (Calls Tryd.prog 42 #[.int .i64 K, .slice a xs.length cp] w fun e w' => e = .returned (.bool (alwB K xs)) ∧ Below w.heap.size w w') := allowed_any D K xs a cp w hx hl
 have HXR : Hid (XRow w.heap.size w D a xs) := hx
 have HTD : Hid (TabD w) := hT
 obtain ⟨n, hn⟩ : ∃ n, n = xs.length := ⟨_, rfl⟩
 have HN : Hid (n = xs.length) := hn
 rw [← hn] at HA ⊢
 clear hT hx
 cases hal : alwB K xs with
 | false =>
   have HAL : Hid (alwB K xs = false) := hal
   rw [hal] at HA
   clear hn hal hl
   go_enter Tryd.func25, Tryd.ntmps25
   go_wp2_with fail
   refine HA.out.mono ?_
   rintro e w1 ⟨rfl, hb1⟩
   have HB1 : Hid (Below w.heap.size w w1) := hb1
   clear hb1 HA
   go_wp2_with fail
   go_ret2
   exact ⟨HB1.out, .inl ⟨HAL.out, rfl⟩⟩
 | true =>
   have HAL : Hid (alwB K xs = true) := hal
   rw [hal] at HA
   have h1 := hal
   simp only [alwB, Bool.and_eq_true, decide_eq_true_eq, List.all_eq_true] at h1
   obtain ⟨⟨⟨hk1, hk2⟩, hl64⟩, hall⟩ := h1
   obtain ⟨k, rfl⟩ : ∃ k : Nat, K = (k : Int) := ⟨K.toNat, by omega⟩
   have HK : Hid (1 ≤ k ∧ k ≤ 24 ∧ xs.length ≤ 64) := ⟨by omega, by omega, hl64⟩
   have HOK : Hid (∀ x, x ∈ xs → x.1.ok = true) := fun x hx => (hall x hx).1
   have HBI : Hid (∀ e w', BldP (k : Int) xs w e w' ↔ (Below w.heap.size w w' ∧ ((e = .returned (.tuple #[.pointer none, .int .i64 7]) ∧ TooBig k xs) ∨
    ∃ lb nx ou, e = .returned (.tuple #[.pointer (some ⟨lb, 0, none⟩), .int .i64 0]) ∧ MchAt w' lb k nx ou ∧ LeastOf k xs nx ou ∧ nx.length ≤ 400 ∧ ¬ BigC k xs))) := fun e w' => by
    have hk : (k : Int).toNat = k := by omega
    unfold BldP
    rw [HAL.out, hk]
    simp
   clear hn hal hl hl64 hall
   go_enter Tryd.func25, Tryd.ntmps25
   go_wp2_with fail
   refine HA.out.mono ?_
   rintro e w1 ⟨rfl, hb1⟩
   have HB1 : Hid (Below w.heap.size w w1) := hb1
   have HC : Hid (Calls Tryd.prog 43 #[.int .i64 (k : Int), .slice a n cp] w1 (SitP k xs w1)) := by
    have h2 := sit_any D k xs a cp w1 (HTD.out.later hb1) ((HXR.out.later hb1).base hb1.size) HK.out.1 HK.out.2.1 HK.out.2.2 HOK.out
    rw [← HN.out] at h2
    exact h2
   clear hb1 HA
   go_wp2_with fail
   refine HC.out.mono ?_
   rintro e w2 ⟨hb2, hor⟩
   have HB2 : Hid (Below w.heap.size w w2) := HB1.out.trans (hb2.mono HB1.out.size)
   clear hb2 HC
   rcases hor with ⟨bm, ob, v9, Ms, nxs, met, nx, ou, rfl, hbm, hnx, hou, hl1, hl2, hspA, hmeet, hnl, h2000, hoe⟩ | ⟨rfl, hsf⟩
   ·have hol : ou.length = nx.length := by rw [hoe, List.length_map, hnl]
    have hAs := meet_asMet hmeet hnl
    have hW : Wide k nx := hmeet.wide
    have hn2 : nx.length ≤ 2000 := by rw [hnl]; exact h2000
    have hMR : MchR w2 k bm v9 ob nx ou := ⟨by rw [hol, hnl]; exact hbm, hnx, hou⟩
    have ho64 : ∀ x ∈ ou, x < 2 ^ 64 := fun x hx => by
     rw [hoe] at hx
     obtain ⟨l, _, rfl⟩ := List.mem_map.1 hx
     refine bitsN_lt _ ?_
     rw [List.length_zipWith, hl1]
     have := HK.out.2.2
     omega
    have htells := fun (w : List Nat) hw i => situ_tells (K := k) (xs := xs) (fun x hx => (Nd.ok_right (HOK.out x hx)).1) hl1 hl2 (fun i x m N h1 h2 h3 => (hspA i x m N h1 h2 h3).1) hmeet hnl hoe w hw i
    have HMR : Hid (MchR w2 k bm v9 ob nx ou) := hMR
    have HFA : Hid (ou.length = nx.length ∧ AsMet nx ∧ Wide k nx ∧ nx.length ≤ 2000) := ⟨hol, hAs, hW, hn2⟩
    have HSI : Hid (Ms.length = xs.length ∧ nxs.length = xs.length ∧ SpotsA k xs Ms nxs ∧ MeetP k (stepAll nxs) (List.replicate xs.length 0) met nx ∧ nx.length = met.length) := ⟨hl1, hl2, hspA, hmeet, hnl⟩
    have HTE : Hid (∀ w : List Nat, (∀ c, c ∈ w → c < k) → ∀ i, (ou.getD (runM nx 0 w) 0).testBit i = true ↔ ∃ x, xs[i]? = some x ∧ ∃ u v : List Int, w.map Int.ofNat = u ++ v ∧ (x.2 = true → u = []) ∧ x.1.fits v) := htells
    have HC : Hid (Calls Tryd.prog 44 #[.pointer (some ⟨bm, 0, none⟩)] w2 (KndQ k nx ou w2)) := kinds_any w2 k bm ob v9 nx ou hMR hol hW hAs HK.out.2.1 hn2 ho64
    clear hbm hnx hou hl1 hl2 hspA hmeet hnl h2000 hoe hol hAs hW hn2 hMR ho64 htells
    go_wp2_with fail
    refine HC.out.mono ?_
    rintro e w3 ⟨kb, kd, cnt, rfl, hi3, hb3, hkp, hkk⟩
    have HB3 : Hid (Below w.heap.size w w3) := HB2.out.trans (hb3.mono HB2.out.size)
    have HKP : Hid (KndP k nx ou kd cnt) := hkp
    by_cases hc : (cnt : Int) ≤ 400
    ·have HKD : Hid (Kinds k nx ou kd cnt ∧ cnt ≤ 400) := ⟨hkk (by omega), by omega⟩
     have HC2 : Hid (Calls Tryd.prog 45 #[.pointer (some ⟨bm, 0, none⟩), .slice (some ⟨kb, 0, none⟩) nx.length nx.length] w3 fun e w' => ∃ lb u9 u10, e = .returned (.pointer (some ⟨lb, 0, none⟩)) ∧ MchO w' k lb u9 u10 (mrgN nx kd) (mrgO ou kd) ∧ Below w3.heap.size w3 w') := by
      have h1 := merged_any w3 k bm ob kb v9 nx ou kd (HMR.out.later hb3) hi3 hkp.len HFA.out.1 HFA.out.2.2.1 (fun i c => nxt_lt (K := k) HFA.out.2.1 (asMet_pos HFA.out.2.1)) HK.out.2.1 HFA.out.2.2.2
      rw [hkp.len] at h1
      exact h1
     clear hi3 hb3 hkp hkk HC
     go_wp2_with fail
     refine HC2.out.mono ?_
     rintro e w4 ⟨lb, u9, u10, rfl, hmo, hb4⟩
     have HF : Hid (Below w.heap.size w w4 ∧ MchAt w4 lb k (mrgN nx kd) (mrgO ou kd) ∧ LeastOf k xs (mrgN nx kd) (mrgO ou kd) ∧ (mrgN nx kd).length ≤ 400 ∧ ¬ BigC k xs) := by
      have h1 := least_of HKD.out.1 HTE.out
      have h2 := HKD.out.1.lenN
      have h3 := HKD.out.2
      refine ⟨HB3.out.trans (hb4.mono HB3.out.size), hmo.at_ h1.wide HK.out.2.1 (by omega) (by rw [h1.len]; omega), h1, by omega, fun hb => ?_⟩
      rcases hb with hb | hb
      ·obtain ⟨s1, s2, s3, s4, s5⟩ := HSI.out
       exact not_many s1 s2 s3 s4 s5 (by have := HFA.out.2.2.2; omega) hb
      ·exact not_far h1 (by omega) hb
     clear hmo hb4 HC2
     go_wp2_with fail
     go_ret2
     rw [HBI.out]
     exact ⟨HF.out.1, .inr ⟨lb, _, _, rfl, HF.out.2⟩⟩
    ·have HF : Hid (TooBig k xs) := .inr ⟨Ms, nxs, met, nx, ou, kd, cnt, HSI.out, HFA.out.2.1, HFA.out.2.2.1, HFA.out.1, HTE.out, HKP.out, by omega⟩
     clear hi3 hb3 hkp hkk HC
     go_wp2_with fail
     go_ret2
     rw [HBI.out]
     exact ⟨HB3.out, .inl ⟨rfl, HF.out⟩⟩
   ·have HSF : Hid (SitF k xs) := hsf
    clear hsf
    go_wp2_with fail
    go_ret2
    rw [HBI.out]
    exact ⟨HB2.out, .inl ⟨rfl, .inl HSF.out⟩⟩
end Go.Proofs.YtclogekfdmikpaaDoor
