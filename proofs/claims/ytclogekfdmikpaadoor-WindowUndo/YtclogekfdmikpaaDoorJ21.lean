/- In one text: DfaMd, DfaSa, DfaSb. -/
import Derived.Test.YtclogekfdmikpaaDoorJ20
/- The walk of meet, of lists of numbers. -/
namespace Go.Proofs.YtclogekfdmikpaaDoor
open Go.RowKit Go.Shelf Go.Maps
set_option linter.unusedVariables false
set_option linter.unusedSimpArgs false

def MeetL (L K : Nat) (step : List Nat → Nat → List Nat) (first : List Nat) (w : World) (e : Ending) (w' : World) : Prop :=
 Below w.heap.size w w' ∧ ((∃ M nx v8 v9, e = .returned (.tuple #[v8, v9, .bool true]) ∧ MeetP K step first M nx ∧ nx.length = M.length ∧ M.length ≤ 2000 ∧ (∀ x, x ∈ M → Rch K step first x) ∧ NxR w.heap.size w' L w'.heap.size v8 M ∧ NxR w.heap.size w' K w'.heap.size v9 nx) ∨
  (e = .returned (.tuple #[.slice none 0 0, .slice none 0 0, .bool false]) ∧ TooMany K step first))
set_option maxRecDepth 100000 in
set_option maxHeartbeats 8000000 in
theorem meetL_any (w : World) (L K b0 : Nat) (cv : Value) (st : List Nat → Nat → List Nat) (F0 : List Nat) (hK1 : 1 ≤ K) (hK : K ≤ 24) (hL : L ≤ 64) (hF : IRow w b0 F0)
 (hbd : ∀ x, Rch K st F0 x → x.length = L ∧ ∀ n, n ∈ x → n < 2 ^ 63)
 (hst : ∀ (W : World) (x : List Nat) (b c : Nat), c < K → Below w.heap.size w W → Rch K st F0 x → IRow W b x → Calls Tryd.prog 67 #[.slice (some ⟨b, 0, none⟩) L L, .int .i64 (c : Int), cv] W fun e w' => ∃ b', e = .returned (.slice (some ⟨b', 0, none⟩) L L) ∧ IRow w' b' (st x c) ∧ W.heap.size ≤ b' ∧ Below W.heap.size W w') :
 Calls Tryd.prog 68 #[.int .i64 (K : Int), .slice (some ⟨b0, 0, none⟩) L L, .func (.func 69) #[] #[], .func (.func 67) #[] #[cv]] w (MeetL L K st F0 w) := by
 have HBD : Hid (∀ x, Rch K st F0 x → x.length = L ∧ ∀ n, n ∈ x → n < 2 ^ 63) := hbd
 have HST : Hid (∀ (W : World) (x : List Nat) (b c : Nat), c < K → Below w.heap.size w W → Rch K st F0 x → IRow W b x → Calls Tryd.prog 67 #[.slice (some ⟨b, 0, none⟩) L L, .int .i64 (c : Int), cv] W fun e w' => ∃ b', e = .returned (.slice (some ⟨b', 0, none⟩) L L) ∧ IRow w' b' (st x c) ∧ W.heap.size ≤ b' ∧ Below W.heap.size W w') := hst
 have HTX : Hid (∀ (W : World) (x : List Nat) (b : Nat), Rch K st F0 x → IRow W b x → Calls Tryd.prog 69 #[.slice (some ⟨b, 0, none⟩) L L] W fun e w' => e = .returned (.string (tS (tx x))) ∧ Below W.heap.size W w') := fun W x b hr hi => by
  have h1 := hbd x hr
  have h2 := textOf_any x (some ⟨b, 0, none⟩) L W hi.rd (by omega) h1.2
  rw [h1.1] at h2
  exact h2
 have HTL : Hid (∀ x, Rch K st F0 x → (tS (tx x)).size ≤ maxLen) := fun x hr => by
  have h1 := (hbd x hr).1
  have h2 := tx_len x
  rw [tS_size]
  unfold maxLen
  omega
 have hKi : (K : Int) ≤ 24 := by omega
 have hmm := @run_makeMap Tryd.prog
 obtain ⟨wA, hwA⟩ : ∃ wA, wA = w.alloc (.map #[] 0) := ⟨_, rfl⟩
 obtain ⟨H, hH⟩ : ∃ H, H = w.heap.size := ⟨_, rfl⟩
 have HBA : Hid (Below w.heap.size w wA) := by rw [hwA]; exact (Below.refl _ w).alloc (Nat.le_refl _) _
 have HMA : Hid (wA.ownsMap Tryd.prog 9 (plainElem (H := Unit) Tryd.prog 3) H 0 (.map [])) := by
  rw [hwA, hH]
  exact World.ownsMap_made w Tryd.prog 9 (plainElem (H := Unit) Tryd.prog 3)
 have HH : Hid (H = w.heap.size) := hH
 have law : Go.Maps.Keyed Tryd.prog 9 := string_keyed Tryd.underlying9
 have HLAW : Hid (Go.Maps.Keyed Tryd.prog 9) := law
 have HF0 : Hid (IRow w b0 F0) := hF
 clear hst hbd hF law
 go_enter Tryd.func68, Tryd.ntmps68
 go_wp2_with fail
 rw [← hH, ← hwA]
 clear hH hwA hmm
 refine (HTX.out wA F0 b0 (Rch.one _ _ _) (HF0.out.later HBA.out)).mono ?_
 rintro e w1 ⟨rfl, hb1⟩
 have HB1 : Hid (Below w.heap.size w w1) := HBA.out.trans (hb1.mono HBA.out.size)
 have hm1 := map_later HMA.out hb1
 have hkey : keyOf Tryd.prog 9 (.string (tS (tx F0))) = some (litL F0) := WideMaps.keyOf_string_mk Tryd.underlying9 (HTL.out F0 (Rch.one _ _ _))
 obtain ⟨w2, hrun, hown2, hg2⟩ := hm1.update HLAW.out Tryd.underlying144 (by unfold maxLen; omega) hkey (plainElem_int Tryd.underlying3 (WalkArith.wf_i64 (n := 0) (by omega)))
 obtain ⟨TT, hTT⟩ : ∃ TT, TT = tS (tx F0) := ⟨_, rfl⟩
 rw [← hTT] at hrun ⊢
 have HB2 : Hid (Below w.heap.size w w2) := HB1.out.grown hg2 HB1.out.size (fun k e => by cases e; rw [HH.out]; exact Nat.le_refl _)
 have HK2 : Hid (w2.ownsMap Tryd.prog 9 (plainElem (H := Unit) Tryd.prog 3) H 1 (kD [litL F0])) := hown2
 obtain ⟨w3, hw3⟩ : ∃ w3, w3 = w2.alloc (.cells #[.slice (some ⟨b0, 0, none⟩) L L] 26) := ⟨_, rfl⟩
 obtain ⟨G, hG⟩ : ∃ G, G = w2.heap.size := ⟨_, rfl⟩
 have HB3 : Hid (Below w.heap.size w w3) := by rw [hw3]; exact HB2.out.alloc HB2.out.size _
 have HS3 : Hid (MtL w.heap.size H w3 L K w3.heap.size (.slice (some ⟨G, 0, none⟩) 1 1) (.slice none 0 0) [F0] []) := by
  have hb3 : Below w2.heap.size w2 w3 := by rw [hw3]; exact (Below.refl _ w2).alloc (Nat.le_refl _) _
  refine ⟨map_later HK2.out hb3, ⟨by simp, fun k hk => by simp at hk; subst hk; simp [litL, WideAt.IsKeyLit]⟩, ⟨[b0], rfl, ⟨rfl, .inr ⟨G, 1, #[.slice (some ⟨b0, 0, none⟩) L L], rfl, by rw [hG]; exact HB2.out.size, by rw [hw3, hG]; exact heap_alloc_new w2 _, Nat.le_refl _, by unfold maxLen; omega, rfl, rfl⟩⟩, fun i b r hi hr => ?_⟩, NxR.nil _ _ _ _, fun g _ e => by cases e⟩
  have hi0 : i = 0 := by
   have := (List.getElem?_eq_some_iff.1 hi).1
   simp at this
   omega
  subst hi0
  simp at hi hr
  subst hi hr
  have h1 := HF0.out.later HB3.out
  exact ⟨h1, fun e => by have := h1.lt; omega⟩
 clear hb1 hm1 hkey hown2 hg2 hTT
 go_wp2
 rw [← hG, ← hw3]
 clear hG hw3 hrun
 go_loopw [8, 9, 12] (fun x8 x9 x12 wr => ∃ (M : List (List Nat)) (nx : List (List Nat)) (m n g cap : Nat) (a9 : Option Addr) (c9 : Nat), m = M.length ∧ n = nx.length ∧ x8 = .slice (some ⟨g, 0, none⟩) m cap ∧ x9 = .slice a9 n c9 ∧ x12 = .int .i64 (n : Int) ∧ MtL w.heap.size H wr L K wr.heap.size (.slice (some ⟨g, 0, none⟩) m cap) (.slice a9 n c9) M nx ∧ MeetP K st F0 M nx ∧ (∀ x, x ∈ M → Rch K st F0 x) ∧ m ≤ 2000 ∧ n ≤ m ∧ Below w.heap.size w wr) (fun _ _ x12 _ => 2000 - (intOf x12).toNat)
 case atStart => exact ⟨[F0], [], 1, 0, G, 1, none, 0, rfl, rfl, rfl, rfl, rfl, HS3.out, meet_begin K st F0, fun x hx => by rw [List.mem_singleton.1 hx]; exact Rch.one _ _ _, by omega, by omega, HB3.out⟩
 case round =>
  obtain ⟨M, nx, m, n, g, cap, a9, c9, hm, hn, hx8, hx9, hx12, hmt, hmp, hrch, hm2, hnm, hbw⟩ := hrel
  subst hx8 hx9 hx12
  have HM : Hid (m = M.length ∧ n = nx.length) := ⟨hm, hn⟩
  have HMT : Hid (MtL w.heap.size H wr L K wr.heap.size (.slice (some ⟨g, 0, none⟩) m cap) (.slice a9 n c9) M nx) := hmt
  have HMP : Hid (MeetP K st F0 M nx) := hmp
  have HRC : Hid (∀ x, x ∈ M → Rch K st F0 x) := hrch
  have HBW : Hid (Below w.heap.size w wr) := hbw
  clear hm hn hmt hmp hrch hbw
  by_cases hlt : n < m
  ·have hni : (n : Int) < (m : Int) := by omega
   obtain ⟨x, hx⟩ : ∃ x, M[n]? = some x := ⟨_, List.getElem?_eq_getElem (by rw [← HM.out.1]; exact hlt)⟩
   have HX : Hid (M[n]? = some x) := hx
   have hmk := make_i K (by omega)
   obtain ⟨R, hR⟩ : ∃ R, R = wr.heap.size := ⟨_, rfl⟩
   obtain ⟨wR, hwR⟩ : ∃ wR, wR = wr.alloc (.cells (iv (List.replicate K 0)).toArray 3) := ⟨_, rfl⟩
   have hbR : Below wr.heap.size wr wR := by rw [hwR]; exact (Below.refl _ wr).alloc (Nat.le_refl _) _
   have HMR : Hid (MtL w.heap.size H wR L K R (.slice (some ⟨g, 0, none⟩) m cap) (.slice a9 n c9) M nx) := by rw [hR]; exact HMT.out.later hbR
   have HIR : Hid (IRow wR R (List.replicate K 0)) := by show IRow _ _ _; rw [hwR, hR]; exact heap_alloc_new wr _
   have HBR : Hid (Below w.heap.size w wR) := HBW.out.trans (hbR.mono HBW.out.size)
   have HRW : Hid (w.heap.size ≤ R) := by rw [hR]; exact HBW.out.size
   clear hx hbR
   go_upto_region 7 with fail
   rw [← hR, ← hwR]
   clear hR hwR hmk
   go_wp2
   go_loopw [8, 9, 33] (fun x8 x9 x33 wz => ∃ (c m' g' cap' : Nat) (M' : List (List Nat)) (r : List Nat), c ≤ K ∧ x9 = .slice a9 n c9 ∧ x33 = .int .i64 (c : Int) ∧ m' = M'.length ∧ x8 = .slice (some ⟨g', 0, none⟩) m' cap' ∧ MtL w.heap.size H wz L K R (.slice (some ⟨g', 0, none⟩) m' cap') (.slice a9 n c9) M' nx ∧ IRow wz R (r ++ List.replicate (K - c) 0) ∧ r.length = c ∧ MidP st x M M' r ∧ (∀ y, y ∈ M' → Rch K st F0 y) ∧ m' ≤ 2000 ∧ Below w.heap.size w wz) (fun _ _ x33 _ => K - (intOf x33).toNat)
   case atStart => exact ⟨0, m, g, cap, M, [], by omega, rfl, rfl, HM.out.1, rfl, HMR.out, by simpa using HIR.out, rfl, mid_begin HMP.out.nodup, HRC.out, hm2, HBR.out⟩
   case round =>
    obtain ⟨c, m', g', cap', M', r, hc, hx9, hx33, hm', hx8, hmt, hir, hrl, hmid, hrch, hm2', hbz⟩ := hrel
    subst hx9 hx33 hx8
    have HM' : Hid (m' = M'.length ∧ r.length = c) := ⟨hm', hrl⟩
    have HMZ : Hid (MtL w.heap.size H wr L K R (.slice (some ⟨g', 0, none⟩) m' cap') (.slice a9 n c9) M' nx) := hmt
    have HIZ : Hid (IRow wr R (r ++ List.replicate (K - c) 0)) := hir
    have HMD : Hid (MidP st x M M' r) := hmid
    have HRZ : Hid (∀ y, y ∈ M' → Rch K st F0 y) := hrch
    have HBZ : Hid (Below w.heap.size w wr) := hbz
    have hlm : m ≤ m' := by rw [HM.out.1, hm']; exact hmid.pre.length_le
    clear hm' hrl hmt hir hmid hrch hbz
    by_cases hlc : c < K
    ·have hci : (c : Int) < (K : Int) := by omega
     have hnm' : (n : Int) < (m' : Int) := by omega
     have hxM' : M'[n]? = some x := pre_get HMD.out.pre HX.out
     obtain ⟨ms, hms1, hms2, hms3⟩ := HMZ.out.met
     obtain ⟨bx', hbx⟩ : ∃ q, ms[n]? = some q := ⟨_, List.getElem?_eq_getElem (by rw [hms1, ← HM'.out.1]; omega)⟩
     have hxr := (hms3 n bx' x hbx hxM').1
     obtain ⟨y, hy⟩ : ∃ y, y = st x c := ⟨_, rfl⟩
     have HCS : Hid (Calls Tryd.prog 67 #[.slice (some ⟨bx', 0, none⟩) L L, .int .i64 (c : Int), cv] wr fun e w' => ∃ b', e = .returned (.slice (some ⟨b', 0, none⟩) L L) ∧ IRow w' b' y ∧ wr.heap.size ≤ b' ∧ Below wr.heap.size wr w') := by rw [hy]; exact HST.out wr x bx' c hlc HBZ.out (HRZ.out _ (List.mem_of_getElem? hxM')) hxr
     have HY : Hid (y = st x r.length) := by show y = _; rw [HM'.out.2]; exact hy
     have HYR : Hid (Rch K st F0 y) := by rw [hy]; exact (HRZ.out _ (List.mem_of_getElem? hxM')).next hlc
     have a0 : wr.cell? ⟨g', n, none⟩ = some (.slice (some ⟨bx', 0, none⟩) L L) := by
      rcases hms2.2 with ⟨h1, _⟩ | ⟨gg, cc, cur, h1, _, h3, _, _, _, h7⟩
      ·cases h1
      ·cases h1
       have h8 : (ms.map (rowV L))[n]? = some (rowV L bx') := by rw [List.getElem?_map, hbx]; rfl
       rw [← h7, List.getElem?_take, if_pos (by rw [← HM'.out.1]; omega), Array.getElem?_toList] at h8
       exact (cell_of_row wr g' n _ _ _ h3).trans h8
     clear hms1 hms2 hms3 hbx hxr hy hxM'
     go_wp2_with fail
     refine HCS.out.mono ?_
     rintro e w2 ⟨bq, rfl, hyr, hbq, hb2⟩
     have HB2 : Hid (Below wr.heap.size wr w2) := hb2
     have HYB : Hid (IRow w2 bq y ∧ wr.heap.size ≤ bq) := ⟨hyr, hbq⟩
     have HBQR : Hid (bq ≠ R) := fun e => by have := HIZ.out.lt; omega
     clear hb2 HCS hyr hbq a0
     go_wp2_with fail
     refine (HTX.out w2 y bq HYR.out HYB.out.1).mono ?_
     rintro e w3 ⟨rfl, hb3⟩
     have HB3 : Hid (Below wr.heap.size wr w3) := HB2.out.trans (hb3.mono HB2.out.size)
     have HP3 : Hid (IRow w3 bq y) := HYB.out.1.later hb3
     have HM3 : Hid (MtL w.heap.size H w3 L K R (.slice (some ⟨g', 0, none⟩) m' cap') (.slice a9 n c9) M' nx) := HMZ.out.later HB3.out
     have HI3 : Hid (IRow w3 R (r ++ List.replicate (K - c) 0)) := HIZ.out.later HB3.out
     have HW3 : Hid (Below w.heap.size w w3) := HBZ.out.trans (HB3.out.mono HBZ.out.size)
     have HNM : Hid (Calls Tryd.prog 78 #[.map (some H), .string (tS (tx y))] w3 (NumP 9 H (M'.map litL) (litL y) w3)) := num_str H (M'.map litL) (tS (tx y)) w3 (by rw [List.length_map]; exact HM3.out.known) HM3.out.keysy (by rw [List.length_map, ← HM'.out.1]; omega) (HTL.out y HYR.out)
     obtain ⟨TT, hTT⟩ : ∃ TT, TT = tS (tx y) := ⟨_, rfl⟩
     rw [← hTT] at HNM ⊢
     clear hb3 hTT
     go_wp2_with fail
     refine HNM.out.mono ?_
     intro e w4 hnp
     obtain ⟨i, rfl, hg4, hor⟩ := num_met (fun z hz hl => litL_inj (HBD.out z (HRZ.out z hz)) (HBD.out y HYR.out) hl) hnp
     have hI4 : IRow w4 R (r ++ List.replicate (K - c) 0) := HI3.out.grown hg4 (ne_map HM3.out.known HI3.out)
     have HI4 : Hid (IRow w4 R (r ++ List.replicate (K - c) 0)) := hI4
     obtain ⟨hmt4, hnx4⟩ := HM3.out.num hg4
     have HP4 : Hid (IRow w4 bq y) := HP3.out.grown hg4 (ne_map HM3.out.known HP3.out)
     have HW4 : Hid (Below w.heap.size w w4) := HW3.out.grown hg4 HW3.out.size (fun k e => by cases e; rw [HH.out]; exact Nat.le_refl _)
     have hlw : c < (r ++ List.replicate (K - c) 0).length := by simp only [List.length_append, List.length_replicate, HM'.out.2]; omega
     have c1 := hI4.cell hlw
     obtain ⟨x0, hx0⟩ : ∃ x0, x0 = (r ++ List.replicate (K - c) 0)[c] := ⟨_, rfl⟩
     rw [← hx0] at c1
     have f1 := hI4.frozen c
     obtain ⟨w5, hw5⟩ : ∃ w5, w5 = w4.setCell ⟨R, c, none⟩ (.int .i64 (i : Int)) := ⟨_, rfl⟩
     have hI5 : IRow w5 R ((r ++ [i]) ++ List.replicate (K - (c + 1)) 0) := by
      rw [hw5]
      have h1 := hI4.set c i
      have h2 : (r ++ List.replicate (K - c) 0).set c i = (r ++ [i]) ++ List.replicate (K - (c + 1)) 0 := by
       rw [List.set_append_right _ _ (by rw [HM'.out.2]; exact Nat.le_refl _), HM'.out.2, Nat.sub_self, show K - c = (K - (c + 1)) + 1 by omega, List.replicate_succ, List.set_cons_zero, List.append_assoc]
       rfl
      rw [h2] at h1
      exact h1
     have HI5 : Hid (IRow w5 R ((r ++ [i]) ++ List.replicate (K - (c + 1)) 0)) := hI5
     have hlw5 : c < ((r ++ [i]) ++ List.replicate (K - (c + 1)) 0).length := by simp only [List.length_append, List.length_replicate, List.length_cons, List.length_nil, HM'.out.2]; omega
     have c5 : w5.cell? ⟨R, c, none⟩ = some (.int .i64 (i : Int)) := by
      rw [hI5.cell hlw5]
      simp [List.getElem_append, HM'.out.2]
     have HW5 : Hid (Below w.heap.size w w5) := by rw [hw5]; exact HW4.out.setCell (p := ⟨R, c, none⟩) HRW.out _
     have HP5 : Hid (IRow w5 bq y) := by
      rw [hw5]
      exact HP4.out.grown (grown_cell w4 R c (.int .i64 (i : Int))) HBQR.out
     have HG5 : Hid (w4.grownBy w5 (some R)) := by rw [hw5]; exact grown_cell w4 R c _
     clear hnp hlw hlw5 hx0 hI4 hI5 HNM
     rcases hor with ⟨hiy, hilt, hown4, hks4⟩ | ⟨hnew, hieq, hown4, hks4⟩
     ·have hilt' : i < m' := by rw [HM'.out.1]; exact hilt
      have HF : Hid (MtL w.heap.size H w5 L K R (.slice (some ⟨g', 0, none⟩) m' cap') (.slice a9 n c9) M' nx ∧ IRow w5 R ((r ++ [i]) ++ List.replicate (K - (c + 1)) 0) ∧ (r ++ [i]).length = c + 1 ∧ MidP st x M M' (r ++ [i]) ∧ (∀ y, y ∈ M' → Rch K st F0 y) ∧ m' ≤ 2000 ∧ Below w.heap.size w w5) := by
       refine ⟨?_, HI5.out, by simp [HM'.out.2], mid_old HMD.out (by rw [← HY.out]; exact hiy), HRZ.out, hm2', HW5.out⟩
       rw [hw5]
       exact MtL.row ⟨hown4, hks4, hmt4, hnx4, HM3.out.apart⟩ HI4.out c _
      have h2000 : ¬ (i : Int) = 2000 := by omega
      have h2000b : ((i : Int) == 2000) = false := by rw [beq_eq_false_iff_ne]; exact h2000
      have hme : ¬ (i : Int) = (m' : Int) := by omega
      have hmeb : ((i : Int) == (m' : Int)) = false := by rw [beq_eq_false_iff_ne]; exact hme
      clear hiy hilt hown4 hks4 hmt4 hnx4 hg4
      go_upto_region 12 with fail
      rw [← hw5]
      clear hw5 c1 f1
      go_wp2
      go_roundw
      case rel => exact ⟨c + 1, m', g', cap', M', r ++ [i], by omega, rfl, by go_num, HM'.out.1, rfl, HF.out⟩
      case measure => simp [intOf]; omega
     ·obtain rfl : i = m' := by rw [HM'.out.1]; exact hieq
      by_cases hlim : i = 2000
      ·have HTM : Hid (TooMany K st F0) := by
        refine ⟨M' ++ [y], ?_, by simp [← HM'.out.1, hlim], fun z hz => ?_⟩
        ·rw [List.nodup_append]
         exact ⟨HMD.out.nodup, by simp, fun a ha d hd => by rw [List.mem_singleton.1 hd]; rintro rfl; exact hnew ha⟩
        ·rcases List.mem_append.1 hz with hz | hz
         ·exact HRZ.out z hz
         ·rw [List.mem_singleton.1 hz]; exact HYR.out
       have HLIM : Hid (i = 2000) := hlim
       clear hown4 hks4 hmt4 hnx4 hg4 hnew hieq hlim
       go_upto_region 12 with fail
       rw [← hw5]
       clear hw5 c1 f1
       have h2000 : (i : Int) = 2000 := by have := HLIM.out; omega
       rw [h2000] at c5
       go_wp2
       go_ret3
       exact ⟨HW5.out, .inr ⟨rfl, HTM.out⟩⟩
      ·have h2000 : ¬ (i : Int) = 2000 := by omega
       have h2000b : ((i : Int) == 2000) = false := by rw [beq_eq_false_iff_ne]; exact h2000
       have hme : ((i : Int) == (i : Int)) = true := by simp
       have HK5 : Hid (w5.ownsMap Tryd.prog 9 (plainElem (H := Unit) Tryd.prog 3) H (M' ++ [y]).length (kD ((M' ++ [y]).map litL)) ∧ Keysy ((M' ++ [y]).map litL)) := ⟨by rw [hw5]; exact hown4.setCell (fun e => ne_map hown4 HI4.out e.symm) _, hks4⟩
       have hM5 : NxR w.heap.size w5 L R (.slice (some ⟨g', 0, none⟩) i cap') M' := by
        refine hmt4.kept HG5.out (fun e => ?_) (fun b q hb hne => hne)
        obtain ⟨_, _, cur, hc⟩ := hmt4.own9 e
        exact ne_ty hc HI4.out (by decide) rfl
       have HN5 : Hid (NxR w.heap.size w5 K R (.slice a9 n c9) nx) := by
        refine hnx4.kept HG5.out (fun e => ?_) (fun b q hb hne => hne)
        obtain ⟨_, _, cur, hc⟩ := hnx4.own9 e
        exact ne_ty hc HI4.out (by decide) rfl
       obtain ⟨ms, hms1, hms2, hms3⟩ := hM5
       have HMS : Hid (ms.length = M'.length ∧ ∀ (i b : Nat) (r : List Nat), ms[i]? = some b → M'[i]? = some r → IRow w5 b r ∧ b ≠ R) := ⟨hms1, hms3⟩
       have HM5 : Hid (w5.ownsRow w.heap.size 26 1 (.slice (some ⟨g', 0, none⟩) i cap') i (ms.map (rowV L))) := by rw [← HM'.out.1] at hms2; exact hms2
       have HAP : Hid (∀ g, (Value.slice (some ⟨g', 0, none⟩) i cap').ownBlock = some g → (Value.slice a9 n c9).ownBlock ≠ some g) := HM3.out.apart
       have HNEW : Hid (st x r.length ∉ M') := by rw [← HY.out]; exact hnew
       obtain ⟨j0, ji, jz0, jz1, jz2⟩ := info_parts info_ints
       have HJ : Hid (Tryd.prog.info? 26 = some j0 ∧ j0.zero = some (.slice none 0 0) ∧ j0.size = 1 ∧ j0.bytes = 24) := ⟨ji, jz0, jz1, jz2⟩
       have HFIN : Hid (∀ (g6 cap6 : Nat) (w6 : World), w6.ownsRow w.heap.size 26 1 (.slice (some ⟨g6, 0, none⟩) (i + 1) cap6) (i + 1) (ms.map (rowV L) ++ [rowV L bq]) → (w5.alloc (.cells #[.slice (some ⟨bq, 0, none⟩) L L] 26)).grownBy w6 (Value.slice (some ⟨g', 0, none⟩) i cap').ownBlock → ((Value.slice (some ⟨g', 0, none⟩) i cap').ownBlock = some g6 ∨ g6 = (w5.alloc (.cells #[.slice (some ⟨bq, 0, none⟩) L L] 26)).heap.size) → MtL w.heap.size H w6 L K R (.slice (some ⟨g6, 0, none⟩) (i + 1) cap6) (.slice a9 n c9) (M' ++ [y]) nx ∧ IRow w6 R ((r ++ [i]) ++ List.replicate (K - (c + 1)) 0) ∧ (r ++ [i]).length = c + 1 ∧ MidP st x M (M' ++ [y]) (r ++ [i]) ∧ (∀ y', y' ∈ M' ++ [y] → Rch K st F0 y') ∧ i + 1 ≤ 2000 ∧ Below w.heap.size w w6) := fun g6 cap6 w6 q1 q2 q3 => by
        have hb6 : Below w5.heap.size w5 (w5.alloc (.cells #[.slice (some ⟨bq, 0, none⟩) L L] 26)) := (Below.refl _ w5).alloc (Nat.le_refl _) _
        have hm6 := own_later5 HM5.out hb6
        refine ⟨MtL.app (bs := ms) (b0 := bq) (map_later HK5.out.1 hb6) HK5.out.2 HMS.out.1 (by rw [← HM'.out.1]; exact hm6) (fun i b r hi hr => ⟨(HMS.out.2 i b r hi hr).1.later hb6, (HMS.out.2 i b r hi hr).2⟩) (HP5.out.later hb6) HBQR.out (HN5.out.later hb6) HAP.out ?_ q2 (by rw [← HM'.out.1]; exact q1), ?_, by simp [HM'.out.2], ?_, fun z hz => ?_, by omega, ?_⟩
        ·intro g hg e9
         have hgg : g = g6 := by simpa [Value.ownBlock] using hg.symm
         subst hgg
         rcases q3 with q3 | q3
         ·exact HAP.out g q3 e9
         ·obtain ⟨_, h1, _⟩ := HN5.out.own9 e9
          have h2 := hb6.size
          omega
        ·exact irow_own (K := L) hm6 q2 (HI5.out.later hb6)
        ·have h1 := mid_new HMD.out HNEW.out
         rw [← HY.out, ← HM'.out.1] at h1
         exact h1
        ·rcases List.mem_append.1 hz with hz | hz
         ·exact HRZ.out z hz
         ·rw [List.mem_singleton.1 hz]; exact HYR.out
        ·exact (HW5.out.alloc HW5.out.size _).grown q2 (Nat.le_trans HW5.out.size hb6.size) (fun k e => (own_lt hm6 e).1)
       have HBS : Hid (w.heap.size ≤ w5.heap.size) := HW5.out.size
       obtain ⟨av, hav⟩ : ∃ av, av = ms.map (rowV L) := ⟨_, rfl⟩
       rw [← hav] at HM5 HFIN
       clear hown4 hks4 hmt4 hnx4 hg4 hnew hieq ji jz0 jz1 jz2 hms1 hms2 hms3 hav
       unfold rowV at HFIN
       go_upto_region 12 with fail
       rw [← hw5]
       clear hw5 c1 f1
       go_upto_region 16 with (at_builtin; refine wpList_append_lies _ rfl _ _ 97 rfl w.heap.size 26 j0 _ 1 24 Tryd.underlying97 HJ.out.1 HJ.out.2.1 HJ.out.2.2.1 HJ.out.2.2.2 rfl (by decide) (.slice (some ⟨g', 0, none⟩) i cap') i av rfl (own_later5 HM5.out ((Below.refl _ w5).alloc (Nat.le_refl _) _)) ⟨w5.heap.size, 0, none⟩ 1 1 [.slice (some ⟨bq, 0, none⟩) L L] rfl rfl (World.news_of_block (cs := #[.slice (some ⟨bq, 0, none⟩) L L]) (t := 26) (fr := (0, 0)) (heap_alloc_new w5 _)) (by simp [Value.oneCell']) (by omega) (by unfold maxLen; omega) (by omega) (by have := HBS.out; simp; omega) _ rfl (fun g6 cap6 w6 q1 q2 q3 q4 => ?_); have HF := HFIN.out g6 cap6 w6 q1 q2 q3; have HFH : Hid _ := HF; clear HF q1 q2 q3 q4)
       clear HFIN
       go_wp2
       go_roundw
       case rel => exact ⟨c + 1, i + 1, g6, cap6, M' ++ [y], r ++ [i], by omega, rfl, by go_num, by simp [← HM'.out.1], rfl, HFH.out⟩
       case measure => simp [intOf]; omega
    ·have hcK : c = K := by omega
     have HCK : Hid (c = K) := hcK
     have hI : IRow wr R r := by
      have := HIZ.out
      rw [hcK, Nat.sub_self] at this
      simpa using this
     have HI : Hid (IRow wr R r) := hI
     obtain ⟨bs, hb1, hb2, hb3⟩ := HMZ.out.next
     have HBS3 : Hid (bs.length = nx.length ∧ ∀ (i b : Nat) (r : List Nat), bs[i]? = some b → nx[i]? = some r → IRow wr b r ∧ b ≠ R) := ⟨hb1, hb3⟩
     have HO9 : Hid (wr.ownsRow w.heap.size 26 1 (.slice a9 n c9) n (bs.map (rowV K))) := by rw [HM.out.2]; rw [HM.out.2] at hb2; exact hb2
     obtain ⟨j0, ji, jz0, jz1, jz2⟩ := info_parts info_ints
     have HJ : Hid (Tryd.prog.info? 26 = some j0 ∧ j0.zero = some (.slice none 0 0) ∧ j0.size = 1 ∧ j0.bytes = 24) := ⟨ji, jz0, jz1, jz2⟩
     have HBS : Hid (w.heap.size ≤ wr.heap.size) := HBZ.out.size
     have HFIN : Hid (∀ (g6 cap6 : Nat) (w6 : World), w6.ownsRow w.heap.size 26 1 (.slice (some ⟨g6, 0, none⟩) (n + 1) cap6) (n + 1) (bs.map (rowV K) ++ [rowV K R]) → (wr.alloc (.cells #[.slice (some ⟨R, 0, none⟩) K K] 26)).grownBy w6 (Value.slice a9 n c9).ownBlock → ((Value.slice a9 n c9).ownBlock = some g6 ∨ g6 = (wr.alloc (.cells #[.slice (some ⟨R, 0, none⟩) K K] 26)).heap.size) → MtL w.heap.size H w6 L K w6.heap.size (.slice (some ⟨g', 0, none⟩) m' cap') (.slice (some ⟨g6, 0, none⟩) (n + 1) cap6) M' (nx ++ [r]) ∧ MeetP K st F0 M' (nx ++ [r]) ∧ (∀ x, x ∈ M' → Rch K st F0 x) ∧ m' ≤ 2000 ∧ n + 1 ≤ m' ∧ Below w.heap.size w w6) := fun g6 cap6 w6 q1 q2 q3 => by
      have hb6 : Below wr.heap.size wr (wr.alloc (.cells #[.slice (some ⟨R, 0, none⟩) K K] 26)) := (Below.refl _ wr).alloc (Nat.le_refl _) _
      refine ⟨MtL.put (bs := bs) (HMZ.out.later hb6) HBS3.out.1 (by rw [← HM.out.2]; exact own_later5 HO9.out hb6) (fun i b r hi hr => ⟨(HBS3.out.2 i b r hi hr).1.later hb6, (HBS3.out.2 i b r hi hr).2⟩) (HI.out.later hb6) q2.size ?_ q2 (by rw [← HM.out.2]; exact q1), ?_, HRZ.out, hm2', by omega, ?_⟩
      ·intro g hg e9
       have hgg : g = g6 := by simpa [Value.ownBlock] using e9.symm
       subst hgg
       rcases q3 with q3 | q3
       ·exact HMZ.out.apart g hg q3
       ·obtain ⟨_, h1, _⟩ := HMZ.out.met.own9 hg
        have h2 := hb6.size
        omega
      ·exact mid_end HMP.out (by rw [← HM.out.2]; exact HX.out) HMD.out (by rw [HM'.out.2]; exact HCK.out)
      ·exact (HBZ.out.alloc HBZ.out.size _).grown q2 (Nat.le_trans HBZ.out.size hb6.size) (fun k e => (own_lt HO9.out e).1)
     obtain ⟨av, hav⟩ : ∃ av, av = bs.map (rowV K) := ⟨_, rfl⟩
     rw [← hav] at HO9 HFIN
     clear hcK hI hb1 hb2 hb3 ji jz0 jz1 jz2 hav
     unfold rowV at HFIN
     go_wp2_with (at_builtin; refine wpList_append_lies _ rfl _ _ 97 rfl w.heap.size 26 j0 _ 1 24 Tryd.underlying97 HJ.out.1 HJ.out.2.1 HJ.out.2.2.1 HJ.out.2.2.2 rfl (by decide) (.slice a9 n c9) n av rfl (own_later5 HO9.out ((Below.refl _ wr).alloc (Nat.le_refl _) _)) ⟨wr.heap.size, 0, none⟩ 1 1 [.slice (some ⟨R, 0, none⟩) K K] rfl rfl (World.news_of_block (cs := #[.slice (some ⟨R, 0, none⟩) K K]) (t := 26) (fr := (0, 0)) (heap_alloc_new wr _)) (by simp [Value.oneCell']) (by omega) (by unfold maxLen; omega) (by omega) (by have := HBS.out; simp; omega) _ rfl (fun g6 cap6 w6 q1 q2 q3 q4 => ?_); have HF := HFIN.out g6 cap6 w6 q1 q2 q3; have HFH : Hid _ := HF; clear HF q1 q2 q3 q4)
     clear HFIN
     go_roundw
     case rel => exact ⟨M', nx ++ [r], m', n + 1, g', cap', _, cap6, HM'.out.1, by simp [HM.out.2], rfl, rfl, by go_num, HFH.out⟩
     case measure => simp [intOf]; omega
  ·obtain rfl : n = m := by omega
   have HF : Hid (MeetP K st F0 M nx ∧ nx.length = M.length ∧ M.length ≤ 2000 ∧ (∀ x, x ∈ M → Rch K st F0 x) ∧ NxR w.heap.size wr L wr.heap.size (.slice (some ⟨g, 0, none⟩) n cap) M ∧ NxR w.heap.size wr K wr.heap.size (.slice a9 n c9) nx) := ⟨HMP.out, by rw [← HM.out.2, HM.out.1], by rw [← HM.out.1]; exact hm2, HRC.out, HMT.out.met, HMT.out.next⟩
   go_wp2
   go_ret3
   exact ⟨HBW.out, .inl ⟨M, nx, _, _, rfl, HF.out⟩⟩
end Go.Proofs.YtclogekfdmikpaaDoor

/- A step of several at once: the walk of what situations hands to meet. -/
namespace Go.Proofs.YtclogekfdmikpaaDoor
open Go.RowKit Go.Shelf Go.Maps
set_option linter.unusedVariables false
set_option linter.unusedSimpArgs false

def NxW (w : World) (K : Nat) (v9 : Value) (nx : List (List Nat)) : Prop :=
 ∃ (B : Nat) (bs : List Nat), bs.length = nx.length ∧ w.ownsRow B 26 1 v9 nx.length (bs.map (rowV K)) ∧ ∀ (i b : Nat) (r : List Nat), bs[i]? = some b → nx[i]? = some r → IRow w b r
theorem NxW.later {w w' : World} {K : Nat} {v9 : Value} {nx : List (List Nat)} (h : NxW w K v9 nx) (hb : Below w.heap.size w w') : NxW w' K v9 nx := by
 obtain ⟨B, bs, h1, h2, h3⟩ := h
 exact ⟨B, bs, h1, own_later5 h2 hb, fun i b r hi hr => (h3 i b r hi hr).later hb⟩
theorem NxAt.w {B0 : Nat} {w : World} {K X : Nat} {v9 : Value} {nx : List (List Nat)} (h : NxAt B0 w K X v9 nx) : NxW w K v9 nx := by
 obtain ⟨bs, h1, h2, h3⟩ := h
 exact ⟨B0, bs, h1, h2, fun i b r hi hr => (h3 i b r hi hr).1⟩
theorem NxR.w {B0 : Nat} {w : World} {K X : Nat} {v9 : Value} {nx : List (List Nat)} (h : NxR B0 w K X v9 nx) : NxW w K v9 nx := by
 obtain ⟨bs, h1, h2, h3⟩ := h
 exact ⟨B0, bs, h1, h2, fun i b r hi hr => (h3 i b r hi hr).1⟩
theorem NxW.kept {w w' : World} {K g : Nat} {v9 : Value} {nx : List (List Nat)} {cs : Array Value} {t : TypeId} {fr : Nat × Nat} (h : NxW w K v9 nx) (hg : w.grownBy w' (some g)) (hc : w.heap[g]? = some (.cells cs t fr)) (h1 : t ≠ 26) (h2 : t ≠ 3) : NxW w' K v9 nx := by
 obtain ⟨B, bs, k1, k2, k3⟩ := h
 refine ⟨B, bs, k1, k2.kept hg (.inr fun e => ?_), fun i b r hi hr => (k3 i b r hi hr).grown hg (fun e => ?_)⟩
 ·obtain ⟨_, _, cur, hcc⟩ := own_lt k2 e
  exact ne_ty hcc hc (fun e => h1 e.symm) rfl
 ·exact ne_ty (k3 i b r hi hr) hc (fun e => h2 e.symm) e
theorem NxW.read {w : World} {K : Nat} {v9 : Value} {nx : List (List Nat)} (h : NxW w K v9 nx) {s : Nat} (hs : s < nx.length) : ∃ g cap b, v9 = .slice (some ⟨g, 0, none⟩) nx.length cap ∧ w.cell? ⟨g, s, none⟩ = some (.slice (some ⟨b, 0, none⟩) K K) ∧ IRow w b nx[s] := by
 obtain ⟨B, bs, h1, h2, h3⟩ := h
 obtain ⟨b, hb⟩ : ∃ q, bs[s]? = some q := ⟨_, List.getElem?_eq_getElem (by rw [h1]; exact hs)⟩
 rcases h2.2 with ⟨_, h0⟩ | ⟨g, cap, cur, hv, _, hg, _, _, _, ht⟩
 ·omega
 ·refine ⟨g, cap, b, hv, ?_, h3 s b _ hb (List.getElem?_eq_getElem hs)⟩
  have h8 : (bs.map (rowV K))[s]? = some (rowV K b) := by rw [List.getElem?_map, hb]; rfl
  rw [← ht, List.getElem?_take, if_pos (by omega), Array.getElem?_toList] at h8
  exact (cell_of_row w g s _ _ _ hg).trans h8
def SitN (w : World) (K CB : Nat) (nxs : List (List (List Nat))) : Prop :=
 ∃ NB, w.heap[CB]? = some (.cells #[.slice (some ⟨NB, 0, none⟩) nxs.length nxs.length] 113) ∧ ∀ i (hi : i < nxs.length), ∃ v, w.cell? ⟨NB, i, none⟩ = some v ∧ NxW w K v nxs[i]
theorem SitN.later {w w' : World} {K CB : Nat} {nxs : List (List (List Nat))} (h : SitN w K CB nxs) (hb : Below w.heap.size w w') : SitN w' K CB nxs := by
 obtain ⟨NB, h1, h2⟩ := h
 refine ⟨NB, (hb.block CB (Array.getElem?_eq_some_iff.1 h1).1).trans h1, fun i hi => ?_⟩
 obtain ⟨v, h3, h4⟩ := h2 i hi
 exact ⟨v, upC hb h3, h4.later hb⟩
def InAll (K : Nat) (nxs : List (List (List Nat))) (x : List Nat) : Prop := x.length = nxs.length ∧ ∀ i (h1 : i < x.length) (h2 : i < nxs.length), x[i] < nxs[i].length
theorem nxt_in {nx : List (List Nat)} {s c : Nat} (hs : s < nx.length) (hc : c < nx[s].length) : nxt nx s c = nx[s][c] := by simp [nxt, List.getD_eq_getElem?_getD, hs, hc]
theorem stepAll_len (nxs : List (List (List Nat))) (x : List Nat) (c : Nat) (h : x.length = nxs.length) : (stepAll nxs x c).length = x.length := by simp [stepAll, h]
theorem stepAll_get (nxs : List (List (List Nat))) (x : List Nat) (c k : Nat) (h1 : k < x.length) (h2 : k < nxs.length) (h3 : k < (stepAll nxs x c).length) : (stepAll nxs x c)[k] = nxt nxs[k] x[k] c := by simp [stepAll]
set_option maxRecDepth 100000 in
set_option maxHeartbeats 4000000 in
theorem sit1_any (W : World) (K CB b c : Nat) (nxs : List (List (List Nat))) (x : List Nat) (hc : c < K) (hK : K ≤ 24) (hL : x.length ≤ 64) (hx : InAll K nxs x) (hw : ∀ nx, nx ∈ nxs → Wide K nx ∧ nx.length ≤ 2000) (hi : IRow W b x) (hs : SitN W K CB nxs) :
 Calls Tryd.prog 67 #[.slice (some ⟨b, 0, none⟩) x.length x.length, .int .i64 (c : Int), .pointer (some ⟨CB, 0, none⟩)] W fun e w' => ∃ b', e = .returned (.slice (some ⟨b', 0, none⟩) x.length x.length) ∧ IRow w' b' (stepAll nxs x c) ∧ W.heap.size ≤ b' ∧ Below W.heap.size W w' := by
 obtain ⟨L, hLe⟩ : ∃ L, L = x.length := ⟨_, rfl⟩
 have HL : Hid (L = x.length) := hLe
 have hLi : (L : Int) ≤ 64 := by omega
 have hci : (c : Int) < (K : Int) := by omega
 have hmk := make_i L (by omega)
 obtain ⟨wA, hwA⟩ : ∃ wA, wA = W.alloc (.cells (iv (List.replicate L 0)).toArray 3) := ⟨_, rfl⟩
 obtain ⟨T, hT⟩ : ∃ T, T = W.heap.size := ⟨_, rfl⟩
 have HBA : Hid (Below W.heap.size W wA) := by rw [hwA]; exact (Below.refl _ W).alloc (Nat.le_refl _) _
 have HIR : Hid (IRow wA T (List.replicate L 0)) := by show IRow _ _ _; rw [hwA, hT]; exact heap_alloc_new W _
 have HT : Hid (T = W.heap.size) := hT
 have HX : Hid (InAll K nxs x) := hx
 have HWD : Hid (∀ nx, nx ∈ nxs → Wide K nx ∧ nx.length ≤ 2000) := hw
 have HI : Hid (IRow W b x) := hi
 have HS : Hid (SitN W K CB nxs) := hs
 rw [← hLe]
 clear hL hx hw hi hs hLe
 go_enter Tryd.func67, Tryd.ntmps67
 go_upto_region 2 with fail
 rw [← hT, ← hwA]
 clear hT hwA hmk
 go_wp2
 go_loopw [14] (fun x14 wr => ∃ k : Nat, k ≤ L ∧ x14 = .int .i64 (k : Int) ∧ wA.grownBy wr (some T) ∧ IRow wr T ((stepAll nxs x c).take k ++ List.replicate (L - k) 0)) (fun x14 _ => L - (intOf x14).toNat)
 case atStart => exact ⟨0, by omega, rfl, grown_refl _ _, by simpa using HIR.out⟩
 case round =>
  obtain ⟨k, hk, hx14, hg, hir⟩ := hrel
  subst hx14
  have HG : Hid (wA.grownBy wr (some T)) := hg
  have HIW : Hid (IRow wr T ((stepAll nxs x c).take k ++ List.replicate (L - k) 0)) := hir
  clear hg hir
  by_cases hlt : k < L
  ·have hkx : k < x.length := by rw [← HL.out]; exact hlt
   have hkn : k < nxs.length := by rw [← HX.out.1]; exact hkx
   have hup : ∀ p v, W.cell? p = some v → wr.cell? p = some v := fun p v hv => by
    have hl := World.block_lt_of_cell? W _ hv
    refine (cell_same ?_).trans (upC HBA.out hv)
    exact HG.out.block _ (Nat.lt_of_lt_of_le hl HBA.out.size) (fun e => by have := Option.some.inj e; have := HT.out; omega)
   obtain ⟨NB, hn1, hn2⟩ := HS.out
   obtain ⟨v, hv1, hv2⟩ := hn2 k hkn
   obtain ⟨s, hs⟩ : ∃ s, s = x[k] := ⟨_, rfl⟩
   have hsl : s < nxs[k].length := by rw [hs]; exact HX.out.2 k hkx hkn
   obtain ⟨g, cap, rb, hv, hg1, hrb⟩ := hv2.read hsl
   subst hv
   obtain ⟨hwd, hn2000⟩ := HWD.out nxs[k] (List.getElem_mem hkn)
   have hrl : nxs[k][s].length = K := hwd _ (List.getElem_mem hsl)
   have a0 := hup _ _ (HI.out.cell hkx)
   rw [← hs] at a0
   have a1 := hup _ _ (cell_of_row W CB 0 _ _ _ hn1)
   have a2 := hup _ _ hv1
   have a3 := hup _ _ hg1
   have a4 := hup _ _ (hrb.cell (i := c) (by rw [hrl]; exact hc))
   obtain ⟨z, hz⟩ : ∃ z, z = nxs[k][s][c]'(by rw [hrl]; exact hc) := ⟨_, rfl⟩
   rw [← hz] at a4
   obtain ⟨n, hn⟩ : ∃ n, n = nxs.length := ⟨_, rfl⟩
   obtain ⟨q, hq⟩ : ∃ q, q = nxs[k].length := ⟨_, rfl⟩
   have a1' : wr.cell? ⟨CB, 0, none⟩ = some (.slice (some ⟨NB, 0, none⟩) n n) := by rw [hn]; exact a1
   rw [← hq] at a2
   have hni : (k : Int) < (n : Int) := by omega
   have hn64 : (n : Int) ≤ 64 := by have := HX.out.1; have := HL.out; omega
   have hsi : (s : Int) < (q : Int) := by omega
   have hqi : (q : Int) ≤ 2000 := by omega
   have hlw : k < ((stepAll nxs x c).take k ++ List.replicate (L - k) 0).length := by
    have h1 := stepAll_len nxs x c HX.out.1
    have h2 := HL.out
    simp only [List.length_append, List.length_replicate, List.length_take]
    omega
   have c1 := HIW.out.cell hlw
   obtain ⟨x0, hx0⟩ : ∃ x0, x0 = ((stepAll nxs x c).take k ++ List.replicate (L - k) 0)[k] := ⟨_, rfl⟩
   rw [← hx0] at c1
   have f1 := HIW.out.frozen k
   obtain ⟨w2, hw2⟩ : ∃ w2, w2 = wr.setCell ⟨T, k, none⟩ (.int .i64 (z : Int)) := ⟨_, rfl⟩
   have HF : Hid (wA.grownBy w2 (some T) ∧ IRow w2 T ((stepAll nxs x c).take (k + 1) ++ List.replicate (L - (k + 1)) 0)) := by
    refine ⟨by rw [hw2]; exact grown_put _ HG.out, ?_⟩
    rw [hw2]
    have hl1 := stepAll_len nxs x c HX.out.1
    have hks : k < (stepAll nxs x c).length := by rw [hl1]; exact hkx
    have h1 := HIW.out.set k z
    have h2 : ((stepAll nxs x c).take k ++ List.replicate (L - k) 0).set k z = (stepAll nxs x c).take (k + 1) ++ List.replicate (L - (k + 1)) 0 := by
     have hlt : ((stepAll nxs x c).take k).length = k := by rw [List.length_take]; omega
     rw [List.set_append_right _ _ (by rw [hlt]; exact Nat.le_refl _), hlt, Nat.sub_self, show L - k = (L - (k + 1)) + 1 by omega, List.replicate_succ, List.set_cons_zero, take_snoc _ k hks, List.append_assoc, stepAll_get nxs x c k hkx hkn hks, hz]
     congr 2
     subst hs
     exact (nxt_in hsl (by rw [hrl]; exact hc)).symm
    rw [h2] at h1
    exact h1
   clear hup hn1 hn2 hv1 hv2 hsl hg1 hrb hwd hn2000 hrl hs hz hn hq hlw hx0 a1
   go_wp2_with fail
   rw [← hw2]
   clear hw2 c1 f1 a0 a1' a2 a3 a4
   go_roundw
   case rel => exact ⟨k + 1, by omega, by go_num, HF.out⟩
   case measure => simp [intOf]; omega
  ·obtain rfl : k = L := by omega
   have HF : Hid (IRow wr T (stepAll nxs x c) ∧ W.heap.size ≤ T ∧ Below W.heap.size W wr) := by
    have h1 := HIW.out
    rw [Nat.sub_self, List.take_of_length_le (by rw [stepAll_len nxs x c HX.out.1, HL.out]; exact Nat.le_refl _)] at h1
    exact ⟨by simpa using h1, by rw [HT.out]; exact Nat.le_refl _, HBA.out.grown HG.out HBA.out.size (fun j e => by cases e; rw [HT.out]; exact Nat.le_refl _)⟩
   go_wp2
   go_ret
   exact ⟨T, rfl, HF.out⟩
end Go.Proofs.YtclogekfdmikpaaDoor

/- The machine of all situations: what lies in memory while expressions are followed one by one. -/
namespace Go.Proofs.YtclogekfdmikpaaDoor
open Go.RowKit Go.Shelf Go.Maps
set_option linter.unusedVariables false
set_option linter.unusedSimpArgs false

def nilV : Value := .slice none 0 0
theorem made_s (n : Nat) : (madeCells nilV.cells (n * 1)) = (List.replicate n nilV).toArray := by
 apply Array.ext'
 rw [Nat.mul_one]
 exact made_one nilV n
theorem info_spots : (Tryd.prog.info? 116).map (fun i => (i.zero, i.size, i.bytes)) = some (some nilV, 1, 24) := by kernel_rfl
theorem info_rows : (Tryd.prog.info? 97).map (fun i => (i.zero, i.size, i.bytes)) = some (some nilV, 1, 24) := by kernel_rfl
theorem make_sp (n : Nat) (hn : n ≤ 1000000) (W : World) : (Instr.makeSlice 112 (.int .i64 (n : Int)) (.int .i64 (n : Int))).run Tryd.prog W = .ok (.slice (some ⟨W.heap.size, 0, none⟩) n n) (W.alloc (.cells (List.replicate n nilV).toArray 116)) := by
 obtain ⟨i0, hi, hz0, hz1, hz2⟩ := info_parts info_spots
 have := run_make (P := Tryd.prog) W 112 116 i0 _ Tryd.underlying112 hi hz0 .i64 .i64 (n : Int) (n : Int) (by omega) (by omega) (by rw [hz2]; omega) (by omega)
 rw [show ((n : Int)).toNat = n by omega, hz1, made_s] at this
 exact this
theorem make_rw (n : Nat) (hn : n ≤ 1000000) (W : World) : (Instr.makeSlice 113 (.int .i64 (n : Int)) (.int .i64 (n : Int))).run Tryd.prog W = .ok (.slice (some ⟨W.heap.size, 0, none⟩) n n) (W.alloc (.cells (List.replicate n nilV).toArray 97)) := by
 obtain ⟨i0, hi, hz0, hz1, hz2⟩ := info_parts info_rows
 have := run_make (P := Tryd.prog) W 113 97 i0 _ Tryd.underlying113 hi hz0 .i64 .i64 (n : Int) (n : Int) (by omega) (by omega) (by rw [hz2]; omega) (by omega)
 rw [show ((n : Int)).toNat = n by omega, hz1, made_s] at this
 exact this
def SpW (w : World) (v8 : Value) (M : List (Nat × Bool)) : Prop := ∃ B, w.ownsRow B 122 8 v8 M.length (spFlat M)
theorem SpW.later {w w' : World} {v8 : Value} {M : List (Nat × Bool)} (h : SpW w v8 M) (hb : Below w.heap.size w w') : SpW w' v8 M := by
 obtain ⟨B, h1⟩ := h
 exact ⟨B, own_later5 h1 hb⟩
theorem SpW.kept {w w' : World} {g : Nat} {v8 : Value} {M : List (Nat × Bool)} {cs : Array Value} {t : TypeId} {fr : Nat × Nat} (h : SpW w v8 M) (hg : w.grownBy w' (some g)) (hc : w.heap[g]? = some (.cells cs t fr)) (h1 : t ≠ 122) : SpW w' v8 M := by
 obtain ⟨B, k1⟩ := h
 refine ⟨B, k1.kept hg (.inr fun e => ?_)⟩
 obtain ⟨_, _, cur, hcc⟩ := own_lt k1 e
 exact ne_ty hcc hc (fun e => h1 e.symm) rfl
structure SitA (w : World) (K n SB NB CB : Nat) (sv nv : List Value) (Ms : List (List (Nat × Bool))) (nxs : List (List (List Nat))) : Prop where
 sb : w.heap[SB]? = some (.cells (sv ++ List.replicate (n - Ms.length) nilV).toArray 116)
 nb : w.heap[NB]? = some (.cells (nv ++ List.replicate (n - Ms.length) nilV).toArray 97)
 cb : w.heap[CB]? = some (.cells #[.slice (some ⟨NB, 0, none⟩) n n] 113)
 ls : sv.length = Ms.length
 ln : nv.length = Ms.length
 lx : nxs.length = Ms.length
 le : Ms.length ≤ n
 sp : ∀ (i : Nat) v M, sv[i]? = some v → Ms[i]? = some M → SpW w v M
 nx : ∀ (i : Nat) v N, nv[i]? = some v → nxs[i]? = some N → NxW w K v N
theorem SitA.later {w w' : World} {K n SB NB CB : Nat} {sv nv : List Value} {Ms : List (List (Nat × Bool))} {nxs : List (List (List Nat))} (h : SitA w K n SB NB CB sv nv Ms nxs) (hb : Below w.heap.size w w') : SitA w' K n SB NB CB sv nv Ms nxs :=
 ⟨(hb.block _ (Array.getElem?_eq_some_iff.1 h.sb).1).trans h.sb, (hb.block _ (Array.getElem?_eq_some_iff.1 h.nb).1).trans h.nb, (hb.block _ (Array.getElem?_eq_some_iff.1 h.cb).1).trans h.cb, h.ls, h.ln, h.lx, h.le, fun i v M h1 h2 => (h.sp i v M h1 h2).later hb, fun i v N h1 h2 => (h.nx i v N h1 h2).later hb⟩
theorem snoc_get {α : Type} {l : List α} {x : α} {i : Nat} {y : α} (h : (l ++ [x])[i]? = some y) : (i < l.length ∧ l[i]? = some y) ∨ (i = l.length ∧ y = x) := by
 rcases Nat.lt_or_ge i l.length with hl | hl
 ·rw [List.getElem?_append_left hl] at h
  exact .inl ⟨hl, h⟩
 ·rw [List.getElem?_append_right hl] at h
  have h0 : i - l.length = 0 := by
   have := (List.getElem?_eq_some_iff.1 h).1
   simp at this
   omega
  rw [h0] at h
  simp at h
  exact .inr ⟨by omega, h.symm⟩
theorem SitA.step {w : World} {K n SB NB CB : Nat} {sv nv : List Value} {Ms : List (List (Nat × Bool))} {nxs : List (List (List Nat))} (h : SitA w K n SB NB CB sv nv Ms nxs) (hk : Ms.length < n) {v8 v9 : Value} {M : List (Nat × Bool)} {N : List (List Nat)} (h8 : SpW w v8 M) (h9 : NxW w K v9 N) :
 SitA ((w.setCell ⟨SB, Ms.length, none⟩ v8).setCell ⟨NB, Ms.length, none⟩ v9) K n SB NB CB (sv ++ [v8]) (nv ++ [v9]) (Ms ++ [M]) (nxs ++ [N]) := by
 have hSN : SB ≠ NB := ne_ty h.sb h.nb (by decide)
 have hSC : CB ≠ SB := ne_ty h.cb h.sb (by decide)
 have hNC : CB ≠ NB := ne_ty h.cb h.nb (by decide)
 have g1 := grown_cell w SB Ms.length v8
 have g2 := grown_cell (w.setCell ⟨SB, Ms.length, none⟩ v8) NB Ms.length v9
 have b1 := heap_setCell_same w SB Ms.length _ _ v8 h.sb
 have n1 := (g1.block NB (Array.getElem?_eq_some_iff.1 h.nb).1 (fun e => hSN (Option.some.inj e).symm)).trans h.nb
 have b2 := heap_setCell_same (w.setCell ⟨SB, Ms.length, none⟩ v8) NB Ms.length _ _ v9 n1
 have hset : ∀ (l : List Value) (v : Value), l.length = Ms.length → (l ++ List.replicate (n - Ms.length) nilV).toArray.setIfInBounds Ms.length v = ((l ++ [v]) ++ List.replicate (n - (Ms ++ [M]).length) nilV).toArray := fun l v hl => by
  rw [List.setIfInBounds_toArray, List.set_append_right _ _ (by omega), hl, Nat.sub_self, show n - Ms.length = (n - (Ms ++ [M]).length) + 1 by simp; omega, List.replicate_succ, List.set_cons_zero, List.append_assoc]
  rfl
 rw [hset sv v8 h.ls] at b1
 rw [hset nv v9 h.ln] at b2
 refine ⟨(g2.block SB (Array.getElem?_eq_some_iff.1 b1).1 (fun e => hSN (Option.some.inj e))).trans b1, b2, ?_, by simp [h.ls], by simp [h.ln], by simp [h.lx], by simp; omega, fun i v M' h1 h2 => ?_, fun i v N' h1 h2 => ?_⟩
 ·have c1 := (g1.block CB (Array.getElem?_eq_some_iff.1 h.cb).1 (fun e => hSC (Option.some.inj e))).trans h.cb
  exact (g2.block CB (Array.getElem?_eq_some_iff.1 c1).1 (fun e => hNC (Option.some.inj e))).trans c1
 ·have hup : SpW w v M' := by
   rcases snoc_get h1 with ⟨k1, k2⟩ | ⟨k1, rfl⟩
   ·rcases snoc_get h2 with ⟨k3, k4⟩ | ⟨k3, rfl⟩
    ·exact h.sp i v M' k2 k4
    ·have := h.ls; omega
   ·rcases snoc_get h2 with ⟨k3, k4⟩ | ⟨k3, rfl⟩
    ·have := h.ls; omega
    ·exact h8
  exact (hup.kept g1 h.sb (by decide)).kept g2 n1 (by decide)
 ·have hup : NxW w K v N' := by
   rcases snoc_get h1 with ⟨k1, k2⟩ | ⟨k1, rfl⟩
   ·rcases snoc_get h2 with ⟨k3, k4⟩ | ⟨k3, rfl⟩
    ·exact h.nx i v N' k2 k4
    ·have := h.ln; have := h.lx; omega
   ·rcases snoc_get h2 with ⟨k3, k4⟩ | ⟨k3, rfl⟩
    ·have := h.ln; have := h.lx; omega
    ·exact h9
  exact (hup.kept g1 h.sb (by decide) (by decide)).kept g2 n1 (by decide) (by decide)
theorem spot_bd {K : Nat} (n : Nd) (wh : Bool) (hr : n.right) (hc : n.cnt ≤ 400) : ∀ x, Rch K (fun x c => stepS wh (n.span []).1 (n.span []).2 x (Int.ofNat c)) (begS (n.span []).1) x → BdS x := by
 have h0 := span_ok n hr []
 have hl := (span_len n []).2
 simp only [List.length_nil, Nat.zero_add] at hl h0
 have hfi : ∀ p, (n.span []).1.fi.testBit p = true → p < 448 := fun p hp => by have := (h0.isin.fi p hp).2; omega
 have hun : ∀ S p, (unM S (n.span []).2 0).testBit p = true → p < 448 := fun S p hp => by
  rw [unM_bhP] at hp
  obtain ⟨q, _, hq⟩ := hp
  have := (h0.isin.bh q p (Nat.zero_le _) hq).2
  omega
 rintro x ⟨w, _, rfl⟩
 have : ∀ (w : List Nat) (x : Nat × Bool), BdS x → BdS (w.foldl (fun x c => stepS wh (n.span []).1 (n.span []).2 x (Int.ofNat c)) x) := by
  intro w
  induction w with
  | nil => exact fun x hx => hx
  | cons c w ih =>
    intro x hx
    refine ih _ (fun p hp => ?_)
    simp only [stepS, Nat.testBit_or, Bool.or_eq_true] at hp
    rcases hp with hp | hp
    ·split at hp
     ·simp at hp
     ·exact hfi p hp
    ·exact hun _ p hp
 exact this w _ (fun p hp => hfi p hp)
end Go.Proofs.YtclogekfdmikpaaDoor
