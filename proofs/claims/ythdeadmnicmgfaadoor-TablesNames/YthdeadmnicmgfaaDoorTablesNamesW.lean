/- The walk of TablesNames. -/
import Derived.Test.YthdeadmnicmgfaaDoorJ30
import Derived.Test.YthdeadmnicmgfaaDoorJ32
namespace Go.Proofs.YthdeadmnicmgfaaDoor
open Go.RowKit Go.Shelf Go.Maps
set_option linter.unusedVariables false
set_option linter.unusedSimpArgs false

/-- A row of strings that came in. -/
def RsN (w : World) (a : Option Addr) (n : Nat) : Prop := ∀ i, i < n → ∃ b off s, a = some ⟨b, off, none⟩ ∧ w.cell? ⟨b, off + i, none⟩ = some (.string s)
/-- Where the loop stands: names so far. -/
def NmS (w : World) (O : Nat) (R v : Value) (i : Nat) (xs : List Value) (wr : World) : Prop :=
  Below w.heap.size w wr ∧ w.heap.size ≤ O ∧ wr.heap[O]? = some (.cells #[v, R] 47) ∧ wr.ownsRow w.heap.size 9 1 v i xs
theorem NmS.later {w wr W : World} {O i : Nat} {R v : Value} {xs : List Value} (h : NmS w O R v i xs wr) (hb : Below wr.heap.size wr W) : NmS w O R v i xs W := by
  obtain ⟨h1, h2, h3, h4⟩ := h
  exact ⟨h1.trans (hb.mono h1.size), h2, (hb.block _ (Array.getElem?_eq_some_iff.1 h3).1).trans h3, own_later5 h4 hb⟩
theorem NmS.more {w wr W w1 : World} {O i cv g cp : Nat} {R : Value} {av : Option Addr} {xs : List Value} {u : Value} (h : NmS w O R (.slice av i cv) i xs wr) (hb : Below wr.heap.size wr W)
    (o1 : w1.ownsRow w.heap.size 9 1 (.slice (some ⟨g, 0, none⟩) (i + 1) cp) (i + 1) (xs ++ [u])) (gr : W.grownBy w1 (Value.slice av i cv).ownBlock) :
    (w1.cell? ⟨O, 0, none⟩ = some (.slice av i cv) ∧ w1.frozen? ⟨O, 0, none⟩ = false) ∧ NmS w O R (.slice (some ⟨g, 0, none⟩) (i + 1) cp) (i + 1) (xs ++ [u]) (w1.setCell ⟨O, 0, none⟩ (.slice (some ⟨g, 0, none⟩) (i + 1) cp)) := by
  obtain ⟨h1, h2, h3, h4⟩ := h.later hb
  have k3 : w1.heap[O]? = some (.cells #[.slice av i cv, R] 47) := (gr.block O (Array.getElem?_eq_some_iff.1 h3).1 (fun e => by
      obtain ⟨_, _, cur, hc⟩ := own_lt h4 e.symm
      exact ne_ty hc h3 (by decide) rfl)).trans h3
  have hgc := grown_cell w1 O 0 (Value.slice (some ⟨g, 0, none⟩) (i + 1) cp)
  have hb1 : Below w.heap.size w w1 := h1.grown gr h1.size (fun y hy => (own_lt h4 hy).1)
  refine ⟨⟨cell_of_row _ _ 0 _ _ _ k3, Lib.frozen_of_heap k3 0⟩, hb1.grown hgc hb1.size (fun y hy => by cases hy; exact h2), h2, heap_setCell_same _ _ 0 _ _ _ k3, ?_⟩
  refine o1.kept hgc (.inr fun e => ?_)
  obtain ⟨_, _, cur, hc⟩ := own_lt o1 e
  exact ne_ty hc k3 (by decide) rfl
set_option maxRecDepth 100000 in
set_option maxHeartbeats 8000000 in
theorem tablesNames_walk (D K : Nat) (l : List Rl) (ca ra : Option Addr) (cc rc : Nat) (na : Option Addr) (nl nc : Nat) (w : World) (hT : TabD w) (hr : RowR w D ra l.length l) (hl : l.length ≤ 140737488355328) (hK : K ≤ cc) (hK2 : K ≤ 140737488355328) (hnl : nl ≤ 9223372036854775807) (hn : RsN w na nl) :
    Calls Tryd.prog 8 #[.agg #[.slice ca K cc, .slice ra l.length rc], .slice na nl nc] w fun e w' => e = .returned (.bool true) ∧ Below w.heap.size w w' := by
  obtain ⟨m, hm⟩ : ∃ m, m = min K 30 := ⟨_, rfl⟩
  obtain ⟨RN, hRN⟩ : ∃ RN, RN = l.length := ⟨_, rfl⟩
  have HTD : Hid (TabD w) := hT
  have HRS : Hid (RsN w na nl) := hn
  have hnl' : (nl : Int) ≤ 9223372036854775807 := by omega
  obtain ⟨j0, ji, jz0, jz1, jz2⟩ := info_parts info_str
  have HJ : Hid (Tryd.prog.info? 9 = some j0 ∧ j0.zero = some (.string ⟨#[]⟩) ∧ j0.size = 1 ∧ j0.bytes = 16) := ⟨ji, jz0, jz1, jz2⟩
  clear hn hnl ji jz0 jz1 jz2
  have HSH : Hid (∀ V : World, Below w.heap.size w V → Calls Tryd.prog 16 #[] V fun e w' => e = .returned (.bool true) ∧ Below V.heap.size V w') := fun V hV => shown9_any V (hT.later hV)
  have HFE : Hid (∀ V : World, Below w.heap.size w V → Calls Tryd.prog 17 #[.agg #[.slice ca K cc, .slice ra RN rc]] V (Few9 D l ca m cc w V)) := fun V hV => by
    rw [hRN]; exact few9_any D K m l ca ra cc rc w V hV hr hl hK hK2 hm
  obtain ⟨H, hH⟩ : ∃ H, H = w.heap.size := ⟨_, rfl⟩
  have HH : Hid (H = w.heap.size) := hH
  obtain ⟨W0, hW0⟩ : ∃ W0, W0 = w.alloc (.cells #[.slice ca K cc, .slice ra RN rc] 47) := ⟨_, rfl⟩
  have HB0 : Hid (Below w.heap.size w W0) := by rw [hW0]; exact (Below.refl _ w).alloc (Nat.le_refl _) _
  have HX0 : Hid (W0.heap[H]? = some (.cells #[.slice ca K cc, .slice ra RN rc] 47)) := by show _ = _; rw [hW0, hH]; exact heap_alloc_new w _
  have hm30 : (m : Int) ≤ 30 := by omega
  rw [← hRN]
  clear hT hr hl hK hK2 hm hRN
  go_enter Tryd.func8, Tryd.ntmps8
  go_upto_region 1 with fail
  rw [← hH, ← hW0]
  clear hH hW0
  go_wp2_with fail
  refine (HSH.out W0 HB0.out).mono ?_
  rintro e w1 ⟨rfl, hb1⟩
  have HB1 : Hid (Below w.heap.size w w1) := HB0.out.trans (hb1.mono HB0.out.size)
  have HX1 : Hid (w1.heap[H]? = some (.cells #[.slice ca K cc, .slice ra RN rc] 47)) := (hb1.block H (Array.getElem?_eq_some_iff.1 HX0.out).1).trans HX0.out
  clear hb1 HX0 HB0
  obtain ⟨⟨e0, e1⟩, _⟩ := box2 HX1.out
  go_wp2_with fail
  refine (HFE.out w1 HB1.out).mono ?_
  rintro e w2 ⟨hb2, ps, a', c', rfl, h8, hkr, hown⟩
  have HB2 : Hid (Below w.heap.size w w2) := HB1.out.trans (hb2.mono HB1.out.size)
  have hx2 : w2.heap[H]? = some (.cells #[.slice ca K cc, .slice ra RN rc] 47) := (hb2.block H (Array.getElem?_eq_some_iff.1 HX1.out).1).trans HX1.out
  obtain ⟨rl, hrl⟩ : ∃ rl, rl = ps.map fun x => x.1 := ⟨_, rfl⟩
  obtain ⟨N, hN⟩ : ∃ N, N = ps.length := ⟨_, rfl⟩
  have hNr : N = rl.length := by rw [hN, hrl]; simp
  rw [← hN] at h8 ⊢
  obtain ⟨W3, hW3⟩ : ∃ W3, W3 = (w2.setCell ⟨H, 0, none⟩ (.slice ca m cc)).setCell ⟨H, 1, none⟩ (.slice a' N c') := ⟨_, rfl⟩
  have hg3 : w2.grownBy W3 (some H) := by rw [hW3]; exact grown_all (grown_cell w2 H 0 _) (grown_cell _ H 1 _)
  have HB3 : Hid (Below w.heap.size w W3) := HB2.out.grown hg3 HB2.out.size (fun k hk => by cases hk; exact Nat.le_of_eq HH.out.symm)
  have HX3 : Hid (W3.heap[H]? = some (.cells #[.slice ca m cc, .slice a' N c'] 47)) := by
    show _ = _
    rw [hW3]
    exact heap_setCell_same _ H 1 _ _ _ (heap_setCell_same _ H 0 _ _ _ hx2)
  have HKR : Hid (KeptR w D l ps) := hkr
  have HPS : Hid (rl = ps.map (fun x => x.1) ∧ N = ps.length) := ⟨hrl, hN⟩
  have HOWN : Hid (W3.ownsRow w1.heap.size 64 8 (.slice a' N c') N (flR ps)) := by
    rw [← hN] at hown; exact hown.kept hg3 (.inr (own_ne hown hx2 (by decide)))
  have hro : RowR W3 D a' rl.length rl := by
    rw [hrl]
    exact kept_row hkr HB3.out (hown.kept hg3 (.inr (own_ne hown hx2 (by decide))))
  have HRO : Hid (RowR W3 D a' rl.length rl ∧ N = rl.length) := ⟨hro, hNr⟩
  obtain ⟨⟨y0, y1⟩, y2, y3⟩ := box2 hx2
  have hN8 : (N : Int) ≤ 8 := by omega
  clear hb2 hkr hown hrl hg3 hro hNr hx2 e0 e1 hN
  go_upto_region 3 with fail
  rw [← hW3]
  clear hW3 y0 y1 y2 y3
  have HCP : Hid (Calls Tryd.prog 18 #[.agg #[.slice ca m cc, .slice a' N c']] W3 (CmpP m rl W3)) := by
    rw [HRO.out.2]; exact compile_any D m rl ca a' cc c' W3 (HTD.out.later HB3.out) HRO.out.1 (by have := HRO.out.2; omega)
  obtain ⟨⟨e0, e1⟩, _⟩ := box2 HX3.out
  go_wp2_with fail
  refine HCP.out.mono ?_
  rintro e w4 ⟨hb4, hor⟩
  have HB4 : Hid (Below w.heap.size w w4) := HB3.out.trans (hb4.mono HB3.out.size)
  rcases hor with ⟨_, rfl⟩ | ⟨hcm, ⟨rfl, _⟩ | ⟨tb, rfl, htw, hta, hnb1, hnb2⟩⟩
  · clear hb4 e0 e1
    go_wp2_with fail
    go_ret
    exact ⟨rfl, HB4.out⟩
  · clear hb4 e0 e1 hcm
    go_wp2_with fail
    go_ret
    exact ⟨rfl, HB4.out⟩
  obtain ⟨hm1, hm24, _⟩ := cm_range hcm
  have HCM : Hid (cmB (m : Int) rl = true) := hcm
  rw [Int.toNat_natCast] at hta hnb1 hnb2
  have HNB : Hid (¬ BigC m (xsL rl) ∧ ¬ BigC m (xsR rl)) := ⟨hnb1, hnb2⟩
  have HX4 : Hid (w4.heap[H]? = some (.cells #[.slice ca m cc, .slice a' N c'] 47)) := (hb4.block H (Array.getElem?_eq_some_iff.1 HX3.out).1).trans HX3.out
  have HR4 : Hid (RowR w4 D a' rl.length rl ∧ N = rl.length) := ⟨HRO.out.1.later hb4, HRO.out.2⟩
  obtain ⟨br, hbr⟩ : ∃ br, br = brkN rl := ⟨_, rfl⟩
  obtain ⟨la, lb, nxA, ouA, nxB, ouB, htb, hma, hla, _, hmb, hlb, _⟩ := hta
  rw [← hbr, ← HRO.out.2] at htb
  have HT4 : Hid (∀ V : World, Below w4.heap.size w4 V → V.heap[tb]? = some (.cells #[.pointer (some ⟨la, 0, none⟩), .pointer (some ⟨lb, 0, none⟩), .int .u64 (br : Int), .int .i64 (N : Int)] 58) ∧ MchAt V la m nxA ouA ∧ MchAt V lb m nxB ouB) := fun V hV => ⟨(hV.block tb (Array.getElem?_eq_some_iff.1 htb).1).trans htb, hma.later hV, hmb.later hV⟩
  have HLE : Hid (LeastOf m (xsL rl) nxA ouA ∧ LeastOf m (xsR rl) nxB ouB ∧ br = brkN rl) := ⟨hla, hlb, hbr⟩
  have HCC : Hid (∀ (k : Nat) (av : Option Addr) (cv : Nat) (V : World), Below w4.heap.size w4 V → Calls Tryd.prog 18 #[.agg #[.slice av k cv, .slice a' N c']] V (CmpP k rl V)) := fun k av cv V hV => by
    rw [HR4.out.2]; exact compile_any D k rl av a' cv c' V (HTD.out.later (HB4.out.trans (hV.mono HB4.out.size))) (HR4.out.1.later hV) (by have := HR4.out.2; omega)
  have HXV : Hid (∀ V : World, Below w4.heap.size w4 V → V.cell? ⟨H, 0, none⟩ = some (.slice ca m cc) ∧ V.cell? ⟨H, 1, none⟩ = some (.slice a' N c')) := fun V hV => (box2 ((hV.block H (Array.getElem?_eq_some_iff.1 HX4.out).1).trans HX4.out)).1
  have HRV : Hid (∀ V : World, Below w4.heap.size w4 V → RsN V na nl) := fun V hV i hi => by
    obtain ⟨b, off, s, q1, q2⟩ := HRS.out i hi
    exact ⟨b, off, s, q1, upC (HB4.out.trans (hV.mono HB4.out.size)) q2⟩
  clear hb4 htb hbr htw e0 e1 HCP HRO HX3 HB3 HX1 HB1 HB2 hcm hnb1 hnb2 hma hla hmb hlb HX4
  obtain ⟨e0, e1⟩ := HXV.out w4 (Below.refl _ _)
  obtain ⟨O, hO⟩ : ∃ O, O = w4.heap.size := ⟨_, rfl⟩
  obtain ⟨W5, hW5⟩ : ∃ W5, W5 = w4.alloc (.cells #[.slice none 0 0, .slice a' N c'] 47) := ⟨_, rfl⟩
  have HN5 : Hid (NmS w4 O (.slice a' N c') (.slice none 0 0) 0 [] W5) :=
    ⟨by rw [hW5]; exact (Below.refl _ w4).alloc (Nat.le_refl _) _, Nat.le_of_eq hO.symm, by rw [hW5, hO]; exact heap_alloc_new w4 _, World.ownsRow_nil _ _ _ _⟩
  go_upto_region 7 with fail
  rw [← hO, ← hW5]
  clear hO hW5 e0 e1
  go_wp2_with fail
  go_loopw [9, 10] (fun x9 x10 wr => ∃ (i cv : Nat) (av : Option Addr) (xs : List Value), i ≤ m ∧ x9 = .int .i64 (i : Int) ∧ NmS w4 O (.slice a' N c') (.slice av i cv) i xs wr) (fun x9 _ _ => m - (intOf x9).toNat)
  case atStart => exact ⟨0, 0, none, [], by omega, rfl, HN5.out⟩
  case round =>
    obtain ⟨i, cv, av, xs, hi, hx9, hns⟩ := hrel
    subst hx9
    have HNS : Hid (NmS w4 O (.slice a' N c') (.slice av i cv) i xs wr) := hns
    clear hns HN5
    obtain ⟨e0, e1⟩ := HXV.out wr HNS.out.1
    obtain ⟨⟨o0, o1⟩, _⟩ := box2 HNS.out.2.2.1
    have HMO : Hid (∀ (W w5 : World) (g cp : Nat) (u : Value), Below wr.heap.size wr W → w5.ownsRow w4.heap.size 9 1 (.slice (some ⟨g, 0, none⟩) (i + 1) cp) (i + 1) (xs ++ [u]) → W.grownBy w5 (Value.slice av i cv).ownBlock →
        (w5.cell? ⟨O, 0, none⟩ = some (.slice av i cv) ∧ w5.frozen? ⟨O, 0, none⟩ = false) ∧ NmS w4 O (.slice a' N c') (.slice (some ⟨g, 0, none⟩) (i + 1) cp) (i + 1) (xs ++ [u]) (w5.setCell ⟨O, 0, none⟩ (.slice (some ⟨g, 0, none⟩) (i + 1) cp))) := fun W w5 g cp u h1 h2 h3 => HNS.out.more h1 h2 h3
    by_cases hlt : i < m
    · have hii : (i : Int) < (m : Int) := by omega
      by_cases hin : i < nl
      · have hni : (i : Int) < (nl : Int) := by omega
        obtain ⟨b, off, s, rfl, hs⟩ := HRV.out wr HNS.out.1 i hin
        have HBA : Hid (Below wr.heap.size wr (wr.alloc (.cells #[.string s] 9))) := (Below.refl _ wr).alloc (Nat.le_refl _) _
        have HOW : Hid ((wr.alloc (.cells #[.string s] 9)).ownsRow w4.heap.size 9 1 (.slice av i cv) i xs) := own_later5 HNS.out.2.2.2 HBA.out
        go_wp2_with (at_builtin; refine wpList_append_lies _ rfl _ _ 44 rfl w4.heap.size 9 j0 _ 1 16 Tryd.underlying44 HJ.out.1 HJ.out.2.1 HJ.out.2.2.1 HJ.out.2.2.2 rfl (by decide) (.slice av i cv) i xs rfl HOW.out ⟨wr.heap.size, 0, none⟩ 1 1 [.string s] rfl rfl (World.news_of_block (cs := #[.string s]) (t := 9) (fr := (0, 0)) (heap_alloc_new wr _)) (by simp [Value.oneCell']) (by omega) (by unfold maxLen; omega) (by omega) (by have := HNS.out.1.size; simp; omega) _ rfl (fun g5 cap5 w5 q1 q2 q3 q4 => ?_); obtain ⟨⟨x1, x2⟩, hf5⟩ := HMO.out _ w5 g5 cap5 (.string s) HBA.out q1 q2; have HF5 : Hid (NmS w4 O (.slice a' N c') (.slice (some ⟨g5, 0, none⟩) (i + 1) cap5) (i + 1) (xs ++ [.string s]) (w5.setCell ⟨O, 0, none⟩ (.slice (some ⟨g5, 0, none⟩) (i + 1) cap5))) := hf5; clear q1 q2 q3 q4 hf5 e0 e1 o0 o1 hs)
        go_roundw
        case rel => exact ⟨i + 1, cap5, some ⟨g5, 0, none⟩, _, by omega, by go_num, HF5.out⟩
        case measure => simp [intOf]; omega
      · have hni : ¬ (i : Int) < (nl : Int) := by omega
        have HBA : Hid (Below wr.heap.size wr (wr.alloc (.cells #[.string ⟨#[120]⟩] 9))) := (Below.refl _ wr).alloc (Nat.le_refl _) _
        have HOW : Hid ((wr.alloc (.cells #[.string ⟨#[120]⟩] 9)).ownsRow w4.heap.size 9 1 (.slice av i cv) i xs) := own_later5 HNS.out.2.2.2 HBA.out
        go_wp2_with (at_builtin; refine wpList_append_lies _ rfl _ _ 44 rfl w4.heap.size 9 j0 _ 1 16 Tryd.underlying44 HJ.out.1 HJ.out.2.1 HJ.out.2.2.1 HJ.out.2.2.2 rfl (by decide) (.slice av i cv) i xs rfl HOW.out ⟨wr.heap.size, 0, none⟩ 1 1 [.string ⟨#[120]⟩] rfl rfl (World.news_of_block (cs := #[.string ⟨#[120]⟩]) (t := 9) (fr := (0, 0)) (heap_alloc_new wr _)) (by simp [Value.oneCell']) (by omega) (by unfold maxLen; omega) (by omega) (by have := HNS.out.1.size; simp; omega) _ rfl (fun g5 cap5 w5 q1 q2 q3 q4 => ?_); obtain ⟨⟨x1, x2⟩, hf5⟩ := HMO.out _ w5 g5 cap5 (.string ⟨#[120]⟩) HBA.out q1 q2; have HF5 : Hid (NmS w4 O (.slice a' N c') (.slice (some ⟨g5, 0, none⟩) (i + 1) cap5) (i + 1) (xs ++ [.string ⟨#[120]⟩]) (w5.setCell ⟨O, 0, none⟩ (.slice (some ⟨g5, 0, none⟩) (i + 1) cap5))) := hf5; clear q1 q2 q3 q4 hf5 e0 e1 o0 o1)
        go_roundw
        case rel => exact ⟨i + 1, cap5, some ⟨g5, 0, none⟩, _, by omega, by go_num, HF5.out⟩
        case measure => simp [intOf]; omega
    · have hii : ¬ (i : Int) < (m : Int) := by omega
      obtain rfl : i = m := by omega
      go_wp2_with fail
      refine (HCC.out i av cv wr HNS.out.1).mono ?_
      rintro e w6 ⟨hb6, hor⟩
      have HB6 : Hid (Below w4.heap.size w4 w6) := HNS.out.1.trans (hb6.mono HNS.out.1.size)
      have HN6 : Hid (NmS w4 O (.slice a' N c') (.slice av i cv) i xs w6) := HNS.out.later hb6
      rw [Int.toNat_natCast] at hor
      rcases hor with ⟨hf, _⟩ | ⟨_, ⟨_, hf | hf⟩ | ⟨t2, rfl, htw, hta, _, _⟩⟩
      · exact absurd hf (by rw [HCM.out]; decide)
      · exact absurd hf HNB.out.1
      · exact absurd hf HNB.out.2
      obtain ⟨lc, ld, nxC, ouC, nxD, ouD, htb, hmc, hlc, _, hmd, hld, _⟩ := hta
      obtain ⟨rfl, rfl⟩ := least_one HLE.out.1 hlc
      obtain ⟨rfl, rfl⟩ := least_one HLE.out.2.1 hld
      rw [← HLE.out.2.2, ← HR4.out.2] at htb
      obtain ⟨q0, q1, q2⟩ := HT4.out w6 HB6.out
      have HEQ : Hid (Calls Tryd.prog 20 #[.pointer (some ⟨tb, 0, none⟩), .pointer (some ⟨t2, 0, none⟩)] w6 fun e w' => e = .returned (.bool true) ∧ Below w6.heap.size w6 w') := by
        have h := teq_of w6 tb t2 _ _ _ _ (br : Int) (br : Int) (N : Int) (N : Int) true true q0 htb (fun V hV => ?_) (fun V hV => ?_)
        · rw [show ((N : Int) == (N : Int) && ((br : Int) == (br : Int) && (true && true))) = true by simp] at h
          exact h
        · have := equal_any V la lc i i nxA nxA ouA ouA (q1.later hV) (hmc.later hV)
          rw [show decide (i = i ∧ ouA = ouA ∧ nxA = nxA) = true by simp] at this
          exact this
        · have := equal_any V lb ld i i nxB nxB ouB ouB (q2.later hV) (hmd.later hV)
          rw [show decide (i = i ∧ ouB = ouB ∧ nxB = nxB) = true by simp] at this
          exact this
      clear hb6 htb hmc hlc hmd hld htw q0 q1 q2 e0 e1 o0 o1 HNS HMO
      go_wp2_with fail
      refine HEQ.out.mono ?_
      rintro e w7 ⟨rfl, hb7⟩
      have HB7 : Hid (Below w4.heap.size w4 w7) := HB6.out.trans (hb7.mono HB6.out.size)
      have HNS : Hid (NmS w4 O (.slice a' N c') (.slice av i cv) i xs w7) := HN6.out.later hb7
      clear hb7 HEQ HN6 HB6
      obtain ⟨⟨o0, o1⟩, _⟩ := box2 HNS.out.2.2.1
      have HMO : Hid (∀ (W w5 : World) (g cp : Nat) (u : Value), Below w7.heap.size w7 W → w5.ownsRow w4.heap.size 9 1 (.slice (some ⟨g, 0, none⟩) (i + 1) cp) (i + 1) (xs ++ [u]) → W.grownBy w5 (Value.slice av i cv).ownBlock →
          (w5.cell? ⟨O, 0, none⟩ = some (.slice av i cv) ∧ w5.frozen? ⟨O, 0, none⟩ = false) ∧ NmS w4 O (.slice a' N c') (.slice (some ⟨g, 0, none⟩) (i + 1) cp) (i + 1) (xs ++ [u]) (w5.setCell ⟨O, 0, none⟩ (.slice (some ⟨g, 0, none⟩) (i + 1) cp))) := fun W w5 g cp u h1 h2 h3 => HNS.out.more h1 h2 h3
      have HBA : Hid (Below w7.heap.size w7 (w7.alloc (.cells #[.string ⟨#[109, 111, 114, 101]⟩] 9))) := (Below.refl _ w7).alloc (Nat.le_refl _) _
      have HOW : Hid ((w7.alloc (.cells #[.string ⟨#[109, 111, 114, 101]⟩] 9)).ownsRow w4.heap.size 9 1 (.slice av i cv) i xs) := own_later5 HNS.out.2.2.2 HBA.out
      go_upto_region 18 with (at_builtin; refine wpList_append_lies _ rfl _ _ 44 rfl w4.heap.size 9 j0 _ 1 16 Tryd.underlying44 HJ.out.1 HJ.out.2.1 HJ.out.2.2.1 HJ.out.2.2.2 rfl (by decide) (.slice av i cv) i xs rfl HOW.out ⟨w7.heap.size, 0, none⟩ 1 1 [.string ⟨#[109, 111, 114, 101]⟩] rfl rfl (World.news_of_block (cs := #[.string ⟨#[109, 111, 114, 101]⟩]) (t := 9) (fr := (0, 0)) (heap_alloc_new w7 _)) (by simp [Value.oneCell']) (by omega) (by unfold maxLen; omega) (by omega) (by have := HNS.out.1.size; simp; omega) _ rfl (fun g5 cap5 w5 q1 q2 q3 q4 => ?_); obtain ⟨⟨x1, x2⟩, hf5⟩ := HMO.out _ w5 g5 cap5 (.string ⟨#[109, 111, 114, 101]⟩) HBA.out q1 q2; have HF5 : Hid (NmS w4 O (.slice a' N c') (.slice (some ⟨g5, 0, none⟩) (i + 1) cap5) (i + 1) (xs ++ [.string ⟨#[109, 111, 114, 101]⟩]) (w5.setCell ⟨O, 0, none⟩ (.slice (some ⟨g5, 0, none⟩) (i + 1) cap5))) := hf5; clear q1 q2 q3 q4 hf5 o0 o1)
      obtain ⟨W8, hW8⟩ : ∃ W8, W8 = w5.setCell ⟨O, 0, none⟩ (.slice (some ⟨g5, 0, none⟩) (i + 1) cap5) := ⟨_, rfl⟩
      rw [← hW8] at HF5 ⊢
      clear hW8 x1 x2
      obtain ⟨⟨o0, o1⟩, _⟩ := box2 HF5.out.2.2.1
      go_wp2_with fail
      refine (HCC.out (i + 1) (some ⟨g5, 0, none⟩) cap5 W8 HF5.out.1).mono ?_
      rintro e w9 ⟨hb9, hor⟩
      have HB9 : Hid (Below w4.heap.size w4 w9) := HF5.out.1.trans (hb9.mono HF5.out.1.size)
      have HBZ : Hid (Below w.heap.size w w9) := HB4.out.trans (HB9.out.mono HB4.out.size)
      obtain ⟨e0, e1⟩ := HXV.out w9 HB9.out
      rw [show ((i + 1 : Nat) : Int) = (i : Int) + 1 by omega] at hor
      clear hb9 o0 o1
      by_cases h24 : i = 24
      · have k24 : ((i : Int) == 24) = true := by rw [beq_iff_eq]; omega
        rcases hor with ⟨_, rfl⟩ | ⟨ht, _⟩
        · clear h24
          go_wp2_with fail
          go_ret
          exact ⟨rfl, HBZ.out⟩
        · exact absurd ht (by rw [h24]; rw [show ((24 : Nat) : Int) + 1 = 25 by omega, cm_25]; decide)
      have k24 : ((i : Int) == 24) = false := by rw [beq_eq_false_iff_ne]; omega
      rcases hor with ⟨hf, _⟩ | ⟨_, ⟨rfl, _⟩ | ⟨t3, rfl, htw, hta, _, _⟩⟩
      · exact absurd hf (by rw [cm_up HCM.out (by omega)]; decide)
      · clear h24
        go_wp2_with fail
        go_ret
        exact ⟨rfl, HBZ.out⟩
      obtain ⟨lc, ld, nxC, ouC, nxD, ouD, htb, hmc, hlc, _, hmd, hld, _⟩ := hta
      rw [← HLE.out.2.2, ← HR4.out.2] at htb
      rw [show ((i : Int) + 1).toNat = i + 1 by omega] at hmc hmd
      obtain ⟨q0, q1, q2⟩ := HT4.out w9 HB9.out
      obtain ⟨eB, heB⟩ : ∃ eB, eB = decide (i = i + 1 ∧ ouB = ouD ∧ nxB = nxD) := ⟨_, rfl⟩
      have HEQ : Hid (∀ V : World, Below w9.heap.size w9 V → Calls Tryd.prog 20 #[.pointer (some ⟨tb, 0, none⟩), .pointer (some ⟨t3, 0, none⟩)] V fun e w' => e = .returned (.bool false) ∧ Below V.heap.size V w') := fun U hU => by
        have h := teq_of U tb t3 _ _ _ _ (br : Int) (br : Int) (N : Int) (N : Int) false eB ((hU.block tb (Array.getElem?_eq_some_iff.1 q0).1).trans q0) ((hU.block t3 (Array.getElem?_eq_some_iff.1 htb).1).trans htb) (fun V hV => ?_) (fun V hV => ?_)
        · rw [show ((N : Int) == (N : Int) && ((br : Int) == (br : Int) && (false && eB))) = false by simp] at h
          exact h
        · have := equal_any V la lc i (i + 1) nxA nxC ouA ouC ((q1.later hU).later hV) ((hmc.later hU).later hV)
          rw [show decide (i = i + 1 ∧ ouA = ouC ∧ nxA = nxC) = false by simp] at this
          exact this
        · have := equal_any V lb ld i (i + 1) nxB nxD ouB ouD ((q2.later hU).later hV) ((hmd.later hU).later hV)
          rw [← heB] at this
          exact this
      obtain ⟨_, _, c2', c3'⟩ := box4 q0
      obtain ⟨_, _, d2', d3'⟩ := box4 htb
      have HBD : Hid (Below w9.heap.size w9 w9.drew) := (Below.refl _ w9).drew
      clear htb hmc hlc hmd hld htw q0 q1 q2 h24 heB
      go_upto_region 23 with fail
      clear e0 e1
      refine wp_region_noPanic ?_
      refine wp_region_held_drew (S := (fun w' => Below w9.heap.size w9 w')) (by kernel_rfl) HBD.out (fun hHeld => ?_)
      refine wpAnyH_take (i := 0) (v := ?_) rfl (by kernel_rfl) (by kernel_rfl) (by kernel_rfl) (fun _ _ _ h => h) (Or.inl ⟨by rfl, ?_⟩) (by assumption) ?_
      rotate_left
      · intro wS hSw; have c2 := upC hSw c2'; have c3 := upC hSw c3'; have d2 := upC hSw d2'; have d3 := upC hSw d3'; clear hSw; go_simp; try with_reducible rfl
      try simp only [Act.put, List.getElem_toArray, List.getElem_cons_succ, List.getElem_cons_zero, List.setIfInBounds_toArray, List.set_cons_zero, List.set_cons_succ]
      refine wpAnyH_take (i := 1) (v := ?_) rfl (by kernel_rfl) (by kernel_rfl) (by kernel_rfl) (fun _ _ _ h => h) (Or.inl ⟨by rfl, ?_⟩) (by assumption) ?_
      rotate_left
      · intro wS hSw; have c2 := upC hSw c2'; have c3 := upC hSw c3'; have d2 := upC hSw d2'; have d3 := upC hSw d3'; clear hSw; go_simp; try with_reducible rfl
      try simp only [Act.put, List.getElem_toArray, List.getElem_cons_succ, List.getElem_cons_zero, List.setIfInBounds_toArray, List.set_cons_zero, List.set_cons_succ]
      refine wpAnyH_take (i := 2) (v := ?_) rfl (by kernel_rfl) (by kernel_rfl) (by kernel_rfl) (fun _ _ _ h => h) (Or.inl ⟨by rfl, ?_⟩) (by assumption) ?_
      rotate_left
      · intro wS hSw; have c2 := upC hSw c2'; have c3 := upC hSw c3'; have d2 := upC hSw d2'; have d3 := upC hSw d3'; clear hSw; go_simp; try with_reducible rfl
      try simp only [Act.put, List.getElem_toArray, List.getElem_cons_succ, List.getElem_cons_zero, List.setIfInBounds_toArray, List.set_cons_zero, List.set_cons_succ]
      refine wpAnyH_take (i := 3) (v := ?_) rfl (by kernel_rfl) (by kernel_rfl) (by kernel_rfl) (fun _ _ _ h => h) (Or.inl ⟨by rfl, ?_⟩) (by assumption) ?_
      rotate_left
      · intro wS hSw; have c2 := upC hSw c2'; have c3 := upC hSw c3'; have d2 := upC hSw d2'; have d3 := upC hSw d3'; clear hSw; go_simp; try with_reducible rfl
      try simp only [Act.put, List.getElem_toArray, List.getElem_cons_succ, List.getElem_cons_zero, List.setIfInBounds_toArray, List.set_cons_zero, List.set_cons_succ]
      refine wpAnyH_take (i := 4) (v := ?_) rfl (by kernel_rfl) (by kernel_rfl) (by kernel_rfl) (fun _ _ _ h => h) (Or.inl ⟨by rfl, ?_⟩) (by assumption) ?_
      rotate_left
      · intro wS hSw; have c2 := upC hSw c2'; have c3 := upC hSw c3'; have d2 := upC hSw d2'; have d3 := upC hSw d3'; clear hSw; go_simp; try with_reducible rfl
      try simp only [Act.put, List.getElem_toArray, List.getElem_cons_succ, List.getElem_cons_zero, List.setIfInBounds_toArray, List.set_cons_zero, List.set_cons_succ]
      refine wpAnyH_take (i := 5) (v := ?_) rfl (by kernel_rfl) (by kernel_rfl) (by kernel_rfl) (fun _ _ _ h => h) (Or.inl ⟨by rfl, ?_⟩) (by assumption) ?_
      rotate_left
      · intro wS hSw; have c2 := upC hSw c2'; have c3 := upC hSw c3'; have d2 := upC hSw d2'; have d3 := upC hSw d3'; clear hSw; go_simp; try with_reducible rfl
      try simp only [Act.put, List.getElem_toArray, List.getElem_cons_succ, List.getElem_cons_zero, List.setIfInBounds_toArray, List.set_cons_zero, List.set_cons_succ]
      refine wpAnyH_take (i := 6) (v := ?_) rfl (by kernel_rfl) (by kernel_rfl) (by kernel_rfl) (fun _ _ _ h => h) (Or.inl ⟨by rfl, ?_⟩) (by assumption) ?_
      rotate_left
      · intro wS hSw; have c2 := upC hSw c2'; have c3 := upC hSw c3'; have d2 := upC hSw d2'; have d3 := upC hSw d3'; clear hSw; go_simp; try with_reducible rfl
      try simp only [Act.put, List.getElem_toArray, List.getElem_cons_succ, List.getElem_cons_zero, List.setIfInBounds_toArray, List.set_cons_zero, List.set_cons_succ]
      refine wpAnyH_take (i := 7) (v := ?_) rfl (by kernel_rfl) (by kernel_rfl) (by kernel_rfl) (fun _ _ _ h => h) (Or.inl ⟨by rfl, ?_⟩) (by assumption) ?_
      rotate_left
      · intro wS hSw; have c2 := upC hSw c2'; have c3 := upC hSw c3'; have d2 := upC hSw d2'; have d3 := upC hSw d3'; clear hSw; go_simp; try with_reducible rfl
      try simp only [Act.put, List.getElem_toArray, List.getElem_cons_succ, List.getElem_cons_zero, List.setIfInBounds_toArray, List.set_cons_zero, List.set_cons_succ]
      refine wpAnyH_take (i := 8) (v := ?_) rfl (by kernel_rfl) (by kernel_rfl) (by kernel_rfl) (fun _ _ _ h => h) (Or.inl ⟨by rfl, ?_⟩) (by assumption) ?_
      rotate_left
      · intro wS hSw; have c2 := upC hSw c2'; have c3 := upC hSw c3'; have d2 := upC hSw d2'; have d3 := upC hSw d3'; clear hSw; go_simp; try with_reducible rfl
      try simp only [Act.put, List.getElem_toArray, List.getElem_cons_succ, List.getElem_cons_zero, List.setIfInBounds_toArray, List.set_cons_zero, List.set_cons_succ]
      refine wpAnyH_take (i := 9) (v := ?_) rfl (by kernel_rfl) (by kernel_rfl) (by kernel_rfl) (fun _ _ _ h => h) (Or.inl ⟨by rfl, ?_⟩) (by assumption) ?_
      rotate_left
      · intro wS hSw; have c2 := upC hSw c2'; have c3 := upC hSw c3'; have d2 := upC hSw d2'; have d3 := upC hSw d3'; clear hSw; go_simp; try with_reducible rfl
      try simp only [Act.put, List.getElem_toArray, List.getElem_cons_succ, List.getElem_cons_zero, List.setIfInBounds_toArray, List.set_cons_zero, List.set_cons_succ]
      refine wpAnyH_take (i := 10) (v := ?_) rfl (by kernel_rfl) (by kernel_rfl) (by kernel_rfl) (fun _ _ _ h => h) (Or.inl ⟨by rfl, ?_⟩) (by assumption) ?_
      rotate_left
      · intro wS hSw; have c2 := upC hSw c2'; have c3 := upC hSw c3'; have d2 := upC hSw d2'; have d3 := upC hSw d3'; clear hSw; go_simp; try with_reducible rfl
      try simp only [Act.put, List.getElem_toArray, List.getElem_cons_succ, List.getElem_cons_zero, List.setIfInBounds_toArray, List.set_cons_zero, List.set_cons_succ]
      refine wpAnyH_take (i := 11) (v := ?_) rfl (by kernel_rfl) (by kernel_rfl) (by kernel_rfl) (fun _ _ _ h => h) (Or.inl ⟨by rfl, ?_⟩) (by assumption) ?_
      rotate_left
      · intro wS hSw; have c2 := upC hSw c2'; have c3 := upC hSw c3'; have d2 := upC hSw d2'; have d3 := upC hSw d3'; clear hSw; go_simp; try with_reducible rfl
      try simp only [Act.put, List.getElem_toArray, List.getElem_cons_succ, List.getElem_cons_zero, List.setIfInBounds_toArray, List.set_cons_zero, List.set_cons_succ]
      refine wpAnyH_ready (rs := [12]) (by kernel_rfl) (by simp) ?_
      refine AllReadyH.cons rfl (fun KK hK => ?_) AllReadyH.nil
      go_simp
      refine (HEQ.out _ HBD.out).mono ?_
      rintro e wA ⟨rfl, hbx⟩
      have HBA : Hid (Below w9.heap.size w9 wA) := HBD.out.trans (hbx.mono HBD.out.size)
      clear hbx
      go_simp
      refine hK.out _ _ HBA.out (fun hHeld => ?_)
      clear hK KK
      try simp only [Act.put, List.getElem_toArray, List.getElem_cons_succ, List.getElem_cons_zero, List.setIfInBounds_toArray, List.set_cons_zero, List.set_cons_succ]
      refine wpAnyH_take (i := 13) (v := ?_) rfl (by kernel_rfl) (by kernel_rfl) (by kernel_rfl) (fun _ _ _ h => h) (Or.inl ⟨by rfl, ?_⟩) (by assumption) ?_
      rotate_left
      · intro wS hSw; have c2 := upC hSw c2'; have c3 := upC hSw c3'; have d2 := upC hSw d2'; have d3 := upC hSw d3'; clear hSw; go_simp; try with_reducible rfl
      try simp only [Act.put, List.getElem_toArray, List.getElem_cons_succ, List.getElem_cons_zero, List.setIfInBounds_toArray, List.set_cons_zero, List.set_cons_succ]
      refine wpAnyH_take (i := 14) (v := ?_) rfl (by kernel_rfl) (by kernel_rfl) (by kernel_rfl) (fun _ _ _ h => h) (Or.inl ⟨by rfl, ?_⟩) (by assumption) ?_
      rotate_left
      · intro wS hSw; have c2 := upC hSw c2'; have c3 := upC hSw c3'; have d2 := upC hSw d2'; have d3 := upC hSw d3'; clear hSw; go_simp; try with_reducible rfl
      try simp only [Act.put, List.getElem_toArray, List.getElem_cons_succ, List.getElem_cons_zero, List.setIfInBounds_toArray, List.set_cons_zero, List.set_cons_succ]
      refine wpAnyH_take (i := 15) (v := ?_) rfl (by kernel_rfl) (by kernel_rfl) (by kernel_rfl) (fun _ _ _ h => h) (Or.inl ⟨by rfl, ?_⟩) (by assumption) ?_
      rotate_left
      · intro wS hSw; have c2 := upC hSw c2'; have c3 := upC hSw c3'; have d2 := upC hSw d2'; have d3 := upC hSw d3'; clear hSw; go_simp; try with_reducible rfl
      try simp only [Act.put, List.getElem_toArray, List.getElem_cons_succ, List.getElem_cons_zero, List.setIfInBounds_toArray, List.set_cons_zero, List.set_cons_succ]
      refine wpAnyH_take (i := 16) (v := ?_) rfl (by kernel_rfl) (by kernel_rfl) (by kernel_rfl) (fun _ _ _ h => h) (Or.inl ⟨by rfl, ?_⟩) (by assumption) ?_
      rotate_left
      · intro wS hSw; have c2 := upC hSw c2'; have c3 := upC hSw c3'; have d2 := upC hSw d2'; have d3 := upC hSw d3'; clear hSw; go_simp; try with_reducible rfl
      try simp only [Act.put, List.getElem_toArray, List.getElem_cons_succ, List.getElem_cons_zero, List.setIfInBounds_toArray, List.set_cons_zero, List.set_cons_succ]
      refine wpAnyH_take (i := 17) (v := ?_) rfl (by kernel_rfl) (by kernel_rfl) (by kernel_rfl) (fun _ _ _ h => h) (Or.inl ⟨by rfl, ?_⟩) (by assumption) ?_
      rotate_left
      · intro wS hSw; have c2 := upC hSw c2'; have c3 := upC hSw c3'; have d2 := upC hSw d2'; have d3 := upC hSw d3'; clear hSw; go_simp; try with_reducible rfl
      try simp only [Act.put, List.getElem_toArray, List.getElem_cons_succ, List.getElem_cons_zero, List.setIfInBounds_toArray, List.set_cons_zero, List.set_cons_succ]
      refine wpAnyH_take (i := 18) (v := ?_) rfl (by kernel_rfl) (by kernel_rfl) (by kernel_rfl) (fun _ _ _ h => h) (Or.inl ⟨by rfl, ?_⟩) (by assumption) ?_
      rotate_left
      · intro wS hSw; have c2 := upC hSw c2'; have c3 := upC hSw c3'; have d2 := upC hSw d2'; have d3 := upC hSw d3'; clear hSw; go_simp; try with_reducible rfl
      try simp only [Act.put, List.getElem_toArray, List.getElem_cons_succ, List.getElem_cons_zero, List.setIfInBounds_toArray, List.set_cons_zero, List.set_cons_succ]
      refine wpAnyH_take (i := 19) (v := ?_) rfl (by kernel_rfl) (by kernel_rfl) (by kernel_rfl) (fun _ _ _ h => h) (Or.inl ⟨by rfl, ?_⟩) (by assumption) ?_
      rotate_left
      · intro wS hSw; have c2 := upC hSw c2'; have c3 := upC hSw c3'; have d2 := upC hSw d2'; have d3 := upC hSw d3'; clear hSw; go_simp; try with_reducible rfl
      try simp only [Act.put, List.getElem_toArray, List.getElem_cons_succ, List.getElem_cons_zero, List.setIfInBounds_toArray, List.set_cons_zero, List.set_cons_succ]
      refine wpAnyH_take (i := 20) (v := ?_) rfl (by kernel_rfl) (by kernel_rfl) (by kernel_rfl) (fun _ _ _ h => h) (Or.inl ⟨by rfl, ?_⟩) (by assumption) ?_
      rotate_left
      · intro wS hSw; have c2 := upC hSw c2'; have c3 := upC hSw c3'; have d2 := upC hSw d2'; have d3 := upC hSw d3'; clear hSw; go_simp; try with_reducible rfl
      try simp only [Act.put, List.getElem_toArray, List.getElem_cons_succ, List.getElem_cons_zero, List.setIfInBounds_toArray, List.set_cons_zero, List.set_cons_succ]
      refine wpAnyH_take (i := 21) (v := ?_) rfl (by kernel_rfl) (by kernel_rfl) (by kernel_rfl) (fun _ _ _ h => h) (Or.inl ⟨by rfl, ?_⟩) (by assumption) ?_
      rotate_left
      · intro wS hSw; have c2 := upC hSw c2'; have c3 := upC hSw c3'; have d2 := upC hSw d2'; have d3 := upC hSw d3'; clear hSw; go_simp; try with_reducible rfl
      try simp only [Act.put, List.getElem_toArray, List.getElem_cons_succ, List.getElem_cons_zero, List.setIfInBounds_toArray, List.set_cons_zero, List.set_cons_succ]
      refine wpAnyH_take (i := 22) (v := ?_) rfl (by kernel_rfl) (by kernel_rfl) (by kernel_rfl) (fun _ _ _ h => h) (Or.inl ⟨by rfl, ?_⟩) (by assumption) ?_
      rotate_left
      · intro wS hSw; have c2 := upC hSw c2'; have c3 := upC hSw c3'; have d2 := upC hSw d2'; have d3 := upC hSw d3'; clear hSw; go_simp; try with_reducible rfl
      try simp only [Act.put, List.getElem_toArray, List.getElem_cons_succ, List.getElem_cons_zero, List.setIfInBounds_toArray, List.set_cons_zero, List.set_cons_succ]
      refine wpAnyH_take (i := 23) (v := ?_) rfl (by kernel_rfl) (by kernel_rfl) (by kernel_rfl) (fun _ _ _ h => h) (Or.inl ⟨by rfl, ?_⟩) (by assumption) ?_
      rotate_left
      · intro wS hSw; have c2 := upC hSw c2'; have c3 := upC hSw c3'; have d2 := upC hSw d2'; have d3 := upC hSw d3'; clear hSw; go_simp; try with_reducible rfl
      try simp only [Act.put, List.getElem_toArray, List.getElem_cons_succ, List.getElem_cons_zero, List.setIfInBounds_toArray, List.set_cons_zero, List.set_cons_succ]
      refine wpAnyH_take (i := 24) (v := ?_) rfl (by kernel_rfl) (by kernel_rfl) (by kernel_rfl) (fun _ _ _ h => h) (Or.inl ⟨by rfl, ?_⟩) (by assumption) ?_
      rotate_left
      · intro wS hSw; have c2 := upC hSw c2'; have c3 := upC hSw c3'; have d2 := upC hSw d2'; have d3 := upC hSw d3'; clear hSw; go_simp; try with_reducible rfl
      try simp only [Act.put, List.getElem_toArray, List.getElem_cons_succ, List.getElem_cons_zero, List.setIfInBounds_toArray, List.set_cons_zero, List.set_cons_succ]
      refine wpAnyH_take (i := 25) (v := ?_) rfl (by kernel_rfl) (by kernel_rfl) (by kernel_rfl) (fun _ _ _ h => h) (Or.inl ⟨by rfl, ?_⟩) (by assumption) ?_
      rotate_left
      · intro wS hSw; have c2 := upC hSw c2'; have c3 := upC hSw c3'; have d2 := upC hSw d2'; have d3 := upC hSw d3'; clear hSw; go_simp; try with_reducible rfl
      try simp only [Act.put, List.getElem_toArray, List.getElem_cons_succ, List.getElem_cons_zero, List.setIfInBounds_toArray, List.set_cons_zero, List.set_cons_succ]
      refine wpAnyH_take (i := 26) (v := ?_) rfl (by kernel_rfl) (by kernel_rfl) (by kernel_rfl) (fun _ _ _ h => h) (Or.inl ⟨by rfl, ?_⟩) (by assumption) ?_
      rotate_left
      · intro wS hSw; have c2 := upC hSw c2'; have c3 := upC hSw c3'; have d2 := upC hSw d2'; have d3 := upC hSw d3'; clear hSw; go_simp; try with_reducible rfl
      try simp only [Act.put, List.getElem_toArray, List.getElem_cons_succ, List.getElem_cons_zero, List.setIfInBounds_toArray, List.set_cons_zero, List.set_cons_succ]
      refine wpAnyH_take (i := 27) (v := ?_) rfl (by kernel_rfl) (by kernel_rfl) (by kernel_rfl) (fun _ _ _ h => h) (Or.inl ⟨by rfl, ?_⟩) (by assumption) ?_
      rotate_left
      · intro wS hSw; have c2 := upC hSw c2'; have c3 := upC hSw c3'; have d2 := upC hSw d2'; have d3 := upC hSw d3'; clear hSw; go_simp; try with_reducible rfl
      try simp only [Act.put, List.getElem_toArray, List.getElem_cons_succ, List.getElem_cons_zero, List.setIfInBounds_toArray, List.set_cons_zero, List.set_cons_succ]
      refine wpAnyH_take (i := 28) (v := ?_) rfl (by kernel_rfl) (by kernel_rfl) (by kernel_rfl) (fun _ _ _ h => h) (Or.inl ⟨by rfl, ?_⟩) (by assumption) ?_
      rotate_left
      · intro wS hSw; have c2 := upC hSw c2'; have c3 := upC hSw c3'; have d2 := upC hSw d2'; have d3 := upC hSw d3'; clear hSw; go_simp; try with_reducible rfl
      try simp only [Act.put, List.getElem_toArray, List.getElem_cons_succ, List.getElem_cons_zero, List.setIfInBounds_toArray, List.set_cons_zero, List.set_cons_succ]
      refine wpAnyH_take (i := 29) (v := ?_) rfl (by kernel_rfl) (by kernel_rfl) (by kernel_rfl) (fun _ _ _ h => h) (Or.inl ⟨by rfl, ?_⟩) (by assumption) ?_
      rotate_left
      · intro wS hSw; have c2 := upC hSw c2'; have c3 := upC hSw c3'; have d2 := upC hSw d2'; have d3 := upC hSw d3'; clear hSw; go_simp; try with_reducible rfl
      try simp only [Act.put, List.getElem_toArray, List.getElem_cons_succ, List.getElem_cons_zero, List.setIfInBounds_toArray, List.set_cons_zero, List.set_cons_succ]
      refine wpAnyH_take (i := 30) (v := ?_) rfl (by kernel_rfl) (by kernel_rfl) (by kernel_rfl) (fun _ _ _ h => h) (Or.inl ⟨by rfl, ?_⟩) (by assumption) ?_
      rotate_left
      · intro wS hSw; have c2 := upC hSw c2'; have c3 := upC hSw c3'; have d2 := upC hSw d2'; have d3 := upC hSw d3'; clear hSw; go_simp; try with_reducible rfl
      try simp only [Act.put, List.getElem_toArray, List.getElem_cons_succ, List.getElem_cons_zero, List.setIfInBounds_toArray, List.set_cons_zero, List.set_cons_succ]
      refine wpAnyH_take (i := 31) (v := ?_) rfl (by kernel_rfl) (by kernel_rfl) (by kernel_rfl) (fun _ _ _ h => h) (Or.inl ⟨by rfl, ?_⟩) (by assumption) ?_
      rotate_left
      · intro wS hSw; have c2 := upC hSw c2'; have c3 := upC hSw c3'; have d2 := upC hSw d2'; have d3 := upC hSw d3'; clear hSw; go_simp; try with_reducible rfl
      try simp only [Act.put, List.getElem_toArray, List.getElem_cons_succ, List.getElem_cons_zero, List.setIfInBounds_toArray, List.set_cons_zero, List.set_cons_succ]
      refine wpAnyH_take (i := 32) (v := ?_) rfl (by kernel_rfl) (by kernel_rfl) (by kernel_rfl) (fun _ _ _ h => h) (Or.inl ⟨by rfl, ?_⟩) (by assumption) ?_
      rotate_left
      · intro wS hSw; have c2 := upC hSw c2'; have c3 := upC hSw c3'; have d2 := upC hSw d2'; have d3 := upC hSw d3'; clear hSw; go_simp; try with_reducible rfl
      try simp only [Act.put, List.getElem_toArray, List.getElem_cons_succ, List.getElem_cons_zero, List.setIfInBounds_toArray, List.set_cons_zero, List.set_cons_succ]
      refine wpAnyH_take (i := 33) (v := ?_) rfl (by kernel_rfl) (by kernel_rfl) (by kernel_rfl) (fun _ _ _ h => h) (Or.inl ⟨by rfl, ?_⟩) (by assumption) ?_
      rotate_left
      · intro wS hSw; have c2 := upC hSw c2'; have c3 := upC hSw c3'; have d2 := upC hSw d2'; have d3 := upC hSw d3'; clear hSw; go_simp; try with_reducible rfl
      try simp only [Act.put, List.getElem_toArray, List.getElem_cons_succ, List.getElem_cons_zero, List.setIfInBounds_toArray, List.set_cons_zero, List.set_cons_succ]
      refine wpAnyH_take (i := 34) (v := ?_) rfl (by kernel_rfl) (by kernel_rfl) (by kernel_rfl) (fun _ _ _ h => h) (Or.inl ⟨by rfl, ?_⟩) (by assumption) ?_
      rotate_left
      · intro wS hSw; have c2 := upC hSw c2'; have c3 := upC hSw c3'; have d2 := upC hSw d2'; have d3 := upC hSw d3'; clear hSw; go_simp; try with_reducible rfl
      try simp only [Act.put, List.getElem_toArray, List.getElem_cons_succ, List.getElem_cons_zero, List.setIfInBounds_toArray, List.set_cons_zero, List.set_cons_succ]
      refine wpAnyH_take (i := 35) (v := ?_) rfl (by kernel_rfl) (by kernel_rfl) (by kernel_rfl) (fun _ _ _ h => h) (Or.inl ⟨by rfl, ?_⟩) (by assumption) ?_
      rotate_left
      · intro wS hSw; have c2 := upC hSw c2'; have c3 := upC hSw c3'; have d2 := upC hSw d2'; have d3 := upC hSw d3'; clear hSw; go_simp; try with_reducible rfl
      try simp only [Act.put, List.getElem_toArray, List.getElem_cons_succ, List.getElem_cons_zero, List.setIfInBounds_toArray, List.set_cons_zero, List.set_cons_succ]
      refine wpAnyH_take (i := 36) (v := ?_) rfl (by kernel_rfl) (by kernel_rfl) (by kernel_rfl) (fun _ _ _ h => h) (Or.inl ⟨by rfl, ?_⟩) (by assumption) ?_
      rotate_left
      · intro wS hSw; have c2 := upC hSw c2'; have c3 := upC hSw c3'; have d2 := upC hSw d2'; have d3 := upC hSw d3'; clear hSw; go_simp; try with_reducible rfl
      try simp only [Act.put, List.getElem_toArray, List.getElem_cons_succ, List.getElem_cons_zero, List.setIfInBounds_toArray, List.set_cons_zero, List.set_cons_succ]
      refine wpAnyH_ready (rs := [37]) (by kernel_rfl) (by simp) ?_
      refine AllReadyH.cons rfl (fun KK hK => ?_) AllReadyH.nil
      go_simp
      refine hK.out _ _ HBA.out (fun hHeld => ?_)
      clear hK KK
      try simp only [Act.put, List.getElem_toArray, List.getElem_cons_succ, List.getElem_cons_zero, List.setIfInBounds_toArray, List.set_cons_zero, List.set_cons_succ]
      refine wpAnyH_done (by kernel_rfl) ?_ _
      refine NoPanic.normal ?_
      go_wp2_with fail
      go_ret
      exact ⟨rfl, HBZ.out.trans (HBA.out.mono HBZ.out.size)⟩
end Go.Proofs.YthdeadmnicmgfaaDoor
