/- The walk of SegFirst. -/
import Derived.Test.YtcafffohnokjgaaDoorJ28
import Derived.Test.YtcafffohnokjgaaDoorJ27
import Derived.BigQuiet
import Derived.Deep.CutBlock
namespace Go.Proofs.YtcafffohnokjgaaDoor
open Go.RowKit Go.Shelf Go.Maps
set_option linter.unusedVariables false
set_option linter.unusedSimpArgs false

def r8v (b : Bool) : Array Value := #[.int .i64 0, .slice none 0 0, .slice none 0 0, .int .i64 0, .slice none 0 0, .slice none 0 0, .bool b, .bool false]
theorem rest_at (w : World) (D : Nat) (b : Bool) : RlAt w (D + 1) (restR b) ⟨none, 0, none, 0, none, 0, none, 0⟩ := ⟨InV.leaf w D 0 [] none 0 (rd_nil _ _) (by simp) (fun _ => rfl), InV.leaf w D 0 [] none 0 (rd_nil _ _) (by simp) (fun _ => rfl)⟩
set_option maxRecDepth 100000 in
set_option maxHeartbeats 8000000 in
theorem segFirst_walk (D K : Nat) (l : List Rl) (ca ra : Option Addr) (cc rc : Nat) (xs0 : List Int) (xa : Option Addr) (len0 xc : Nat) (is : Bool) (w : World) (hT : TabD w) (hr : RowR w D ra l.length l) (hl : l.length ≤ 140737488355328) (hK : K ≤ cc) (hK2 : K ≤ 140737488355328) (hrd : Rd .i64 w xa len0 xs0) (hcap : len0 ≤ xc) (hnone : xa = none → xc = 0) :
 Calls Tryd.prog 5 #[.agg #[.slice ca K cc, .slice ra l.length rc], .slice xa len0 xc, .bool is] w fun e w' => e = .returned (.bool true) ∧ Below w.heap.size w w' := by
 obtain ⟨m, hm⟩ : ∃ m, m = min K 30 := ⟨_, rfl⟩
 obtain ⟨RN, hRN⟩ : ∃ RN, RN = l.length := ⟨_, rfl⟩
 have HTD : Hid (TabD w) := hT
 obtain ⟨n, hn⟩ : ∃ n : Nat, (n : Int) = min (len0 : Int) 30 := ⟨min len0 30, by omega⟩
 have hmin := min_run len0 n 30 hn
 have hcut0 := cutI xa len0 xc n (by omega)
 obtain ⟨row, hrow⟩ : ∃ row, row = xs0.take n := ⟨_, rfl⟩
 have HRD : Hid (Rd .i64 w xa n row) := by rw [hrow]; exact hrd.take n (by omega)
 have HL : Hid (row.length = n) := HRD.out.1
 have hn30 : (n : Int) ≤ 30 := by omega
 have HNC : Hid (n ≤ xc ∧ (xa = none → xc = 0)) := ⟨by omega, hnone⟩
 clear hrd hcap hrow hn hnone
 obtain ⟨j0, ji, jz0, jz1, jz2⟩ := info_parts info_Rl
 have HJ : Hid (Tryd.prog.info? 48 = some j0 ∧ j0.zero = some (.agg #[.int .i64 0, .slice none 0 0, .slice none 0 0, .int .i64 0, .slice none 0 0, .slice none 0 0, .bool false, .bool false]) ∧ j0.size = 8 ∧ j0.bytes = 120) := ⟨ji, jz0, jz1, jz2⟩
 clear ji jz0 jz1 jz2
 have HSH : Hid (∀ V : World, Below w.heap.size w V → Calls Tryd.prog 10 #[] V fun e w' => e = .returned (.bool true) ∧ Below V.heap.size V w') := fun V hV => shown10_any V (hT.later hV)
 have HFE : Hid (∀ V : World, Below w.heap.size w V → Calls Tryd.prog 11 #[.agg #[.slice ca K cc, .slice ra RN rc]] V (Few9 D l ca m cc w V)) := fun V hV => by
  rw [hRN]; exact few9_any D K m l ca ra cc rc w V hV hr hl hK hK2 hm
 obtain ⟨H, hH⟩ : ∃ H, H = w.heap.size := ⟨_, rfl⟩
 have HH : Hid (H = w.heap.size) := hH
 obtain ⟨W0, hW0⟩ : ∃ W0, W0 = w.alloc (.cells #[.slice ca K cc, .slice ra RN rc] 25) := ⟨_, rfl⟩
 have HB0 : Hid (Below w.heap.size w W0) := by rw [hW0]; exact (Below.refl _ w).alloc (Nat.le_refl _) _
 have HX0 : Hid (W0.heap[H]? = some (.cells #[.slice ca K cc, .slice ra RN rc] 25)) := by show _ = _; rw [hW0, hH]; exact heap_alloc_new w _
 have hm30 : (m : Int) ≤ 30 := by omega
 rw [← hRN]
 clear hT hr hl hK hK2 hm hRN
 go_enter Tryd.func5, Tryd.ntmps5
 go_upto_region 1 with fail
 rw [← hH, ← hW0]
 clear hH hW0
 go_wp2_with fail
 refine (HSH.out W0 HB0.out).mono ?_
 rintro e w1 ⟨rfl, hb1⟩
 have HB1 : Hid (Below w.heap.size w w1) := HB0.out.trans (hb1.mono HB0.out.size)
 have HX1 : Hid (w1.heap[H]? = some (.cells #[.slice ca K cc, .slice ra RN rc] 25)) := (hb1.block H (Array.getElem?_eq_some_iff.1 HX0.out).1).trans HX0.out
 clear hb1 HX0 HB0
 obtain ⟨⟨e0, e1⟩, _⟩ := box2 HX1.out
 go_wp2_with fail
 refine (HFE.out w1 HB1.out).mono ?_
 rintro e w2 ⟨hb2, ps, a', c', rfl, h8, hkr, hown⟩
 have HB2 : Hid (Below w.heap.size w w2) := HB1.out.trans (hb2.mono HB1.out.size)
 have hx2 : w2.heap[H]? = some (.cells #[.slice ca K cc, .slice ra RN rc] 25) := (hb2.block H (Array.getElem?_eq_some_iff.1 HX1.out).1).trans HX1.out
 obtain ⟨rl, hrl⟩ : ∃ rl, rl = ps.map fun x => x.1 := ⟨_, rfl⟩
 obtain ⟨N, hN⟩ : ∃ N, N = ps.length := ⟨_, rfl⟩
 have hNr : N = rl.length := by rw [hN, hrl]; simp
 rw [← hN] at h8 ⊢
 obtain ⟨W3, hW3⟩ : ∃ W3, W3 = (w2.setCell ⟨H, 0, none⟩ (.slice ca m cc)).setCell ⟨H, 1, none⟩ (.slice a' N c') := ⟨_, rfl⟩
 have hg3 : w2.grownBy W3 (some H) := by rw [hW3]; exact grown_all (grown_cell w2 H 0 _) (grown_cell _ H 1 _)
 have HB3 : Hid (Below w.heap.size w W3) := HB2.out.grown hg3 HB2.out.size (fun k hk => by cases hk; exact Nat.le_of_eq HH.out.symm)
 have HX3 : Hid (W3.heap[H]? = some (.cells #[.slice ca m cc, .slice a' N c'] 25)) := by
  show _ = _
  rw [hW3]
  exact heap_setCell_same _ H 1 _ _ _ (heap_setCell_same _ H 0 _ _ _ hx2)
 have HKR : Hid (KeptR w D l ps) := hkr
 have HPS : Hid (rl = ps.map (fun x => x.1) ∧ N = ps.length) := ⟨hrl, hN⟩
 have HOWN : Hid (W3.ownsRow w1.heap.size 48 8 (.slice a' N c') N (flR ps)) := by
  rw [← hN] at hown; exact hown.kept hg3 (.inr (own_ne hown hx2 (by decide)))
 have hro : RowR W3 D a' rl.length rl := by
  rw [hrl]
  exact kept_row hkr HB3.out (hown.kept hg3 (.inr (own_ne hown hx2 (by decide))))
 have HRO : Hid (RowR W3 D a' rl.length rl ∧ N = rl.length) := ⟨hro, hNr⟩
 obtain ⟨⟨y0, y1⟩, y2, y3⟩ := box2 hx2
 have hN8 : (N : Int) ≤ 8 := by omega
 clear hb2 hkr hown hrl hg3 hro hNr hx2 e0 e1 hN
 go_upto_region 3 with fail
 rw [← hW3]
 clear hW3 y0 y1 y2 y3 HX1 HB1 HB2 h8 HSH HFE
 obtain ⟨fl, hfl⟩ : ∃ fl, fl = flR ps := ⟨_, rfl⟩
 rw [← hfl] at HOWN
 have HSRC : Hid (∀ V : World, Below W3.heap.size W3 V → SrcAt V a' N c' 8 fl) := fun V hV => by
  obtain ⟨ad, c, e, hs⟩ := src_own (own_later5 HOWN.out hV) (by rw [hfl]; exact flR_one ps)
  cases e
  exact hs
 have HFLR : Hid (fl = flR ps) := hfl
 obtain ⟨T1, hT1⟩ : ∃ T1, T1 = N + 1 := ⟨_, rfl⟩
 have hT1a : 1 + N = T1 := by omega
 have hT1b : N + 1 = T1 := hT1.symm
 have HT1 : Hid (T1 = N + 1) := hT1
 have hT9 : (T1 : Int) ≤ 9 := by omega
 clear hfl hT1
 obtain ⟨⟨e0', e1'⟩, _⟩ := box2 HX3.out
 go_upto_region 4 with fail
 clear hmin hcut0
 go_cut [8] (fun x8 wx => ∃ O a c, x8 = .pointer (some ⟨O, 0, none⟩) ∧ LtS W3 O (.slice ca m cc) (.slice a T1 c) T1 ([.int .i64 0, .slice none 0 0, .slice none 0 0, .int .i64 0, .slice none 0 0, .slice none 0 0, .bool is, .bool false] ++ fl) wx)
 case first =>
  refine wp_region_noPanic ?_
  have HB0 : Hid (Below W3.heap.size W3 W3.drew) := (Below.refl _ W3).drew
  refine wp_region_held_drew (S := (fun w' => Below W3.heap.size W3 w')) (by kernel_rfl) HB0.out (fun hHeld => ?_)
  obtain ⟨u0, hu0⟩ : ∃ u, u = W3.drew := ⟨_, rfl⟩
  rw [← hu0] at HB0 ⊢
  clear hu0
  refine wpAnyH_take (i := 0) (v := ?_) rfl (by kernel_rfl) (by kernel_rfl) (by kernel_rfl) (fun _ _ _ h => h) (Or.inl ⟨by rfl, ?_⟩) (by assumption) ?_
  rotate_left
  ·intro wS hSw; have e0 := upC hSw e0'; have e1 := upC hSw e1'; clear hSw; go_simp; try with_reducible rfl
  try simp only [Act.put, List.getElem_toArray, List.getElem_cons_succ, List.getElem_cons_zero, List.setIfInBounds_toArray, List.set_cons_zero, List.set_cons_succ]
  refine wpAnyH_take (i := 1) (v := ?_) rfl (by kernel_rfl) (by kernel_rfl) (by kernel_rfl) (fun _ _ _ h => h) (Or.inl ⟨by rfl, ?_⟩) (by assumption) ?_
  rotate_left
  ·intro wS hSw; have e0 := upC hSw e0'; have e1 := upC hSw e1'; clear hSw; go_simp; try with_reducible rfl
  try simp only [Act.put, List.getElem_toArray, List.getElem_cons_succ, List.getElem_cons_zero, List.setIfInBounds_toArray, List.set_cons_zero, List.set_cons_succ]
  refine wpAnyH_take (i := 2) (v := ?_) rfl (by kernel_rfl) (by kernel_rfl) (by kernel_rfl) (fun _ _ _ h => h) (Or.inl ⟨by rfl, ?_⟩) (by assumption) ?_
  rotate_left
  ·intro wS hSw; have e0 := upC hSw e0'; have e1 := upC hSw e1'; clear hSw; go_simp; try with_reducible rfl
  try simp only [Act.put, List.getElem_toArray, List.getElem_cons_succ, List.getElem_cons_zero, List.setIfInBounds_toArray, List.set_cons_zero, List.set_cons_succ]
  refine wpAnyH_take (i := 3) (v := ?_) rfl (by kernel_rfl) (by kernel_rfl) (by kernel_rfl) (fun _ _ _ h => h) (Or.inl ⟨by rfl, ?_⟩) (by assumption) ?_
  rotate_left
  ·intro wS hSw; have e0 := upC hSw e0'; have e1 := upC hSw e1'; clear hSw; go_simp; try with_reducible rfl
  try simp only [Act.put, List.getElem_toArray, List.getElem_cons_succ, List.getElem_cons_zero, List.setIfInBounds_toArray, List.set_cons_zero, List.set_cons_succ]
  refine wpAnyH_take (i := 5) (v := ?_) rfl (by kernel_rfl) (by kernel_rfl) (by kernel_rfl) (fun _ _ _ h => h) (Or.inl ⟨by rfl, ?_⟩) (by assumption) ?_
  rotate_left
  ·intro wS hSw; have e0 := upC hSw e0'; have e1 := upC hSw e1'; clear hSw; go_simp; try with_reducible rfl
  try simp only [Act.put, List.getElem_toArray, List.getElem_cons_succ, List.getElem_cons_zero, List.setIfInBounds_toArray, List.set_cons_zero, List.set_cons_succ]
  refine wpAnyH_take (i := 6) (v := ?_) rfl (by kernel_rfl) (by kernel_rfl) (by kernel_rfl) (fun _ _ _ h => h) (Or.inl ⟨by rfl, ?_⟩) (by assumption) ?_
  rotate_left
  ·intro wS hSw; have e0 := upC hSw e0'; have e1 := upC hSw e1'; clear hSw; go_simp; try with_reducible rfl
  try simp only [Act.put, List.getElem_toArray, List.getElem_cons_succ, List.getElem_cons_zero, List.setIfInBounds_toArray, List.set_cons_zero, List.set_cons_succ]
  refine wpAnyH_ready (rs := [4, 9]) (by kernel_rfl) (by simp) ?_
  refine AllReadyH.cons rfl (fun KK hK => ?_) ?_
  ·skip
   obtain ⟨u1, hu1⟩ : ∃ u, u = u0.alloc (.cells #[.int .i64 0, .slice none 0 0, .slice none 0 0, .int .i64 0, .slice none 0 0, .slice none 0 0, .bool is, .bool false] 48) := ⟨_, rfl⟩
   obtain ⟨eu1, heu1⟩ : ∃ e, e = u0.heap.size := ⟨_, rfl⟩
   have HBu1 : Hid (Below W3.heap.size W3 u1) := by rw [hu1]; exact HB0.out.alloc HB0.out.size _
   have HRu1 : Hid (u1.ownsRow W3.heap.size 48 8 (.slice (some ⟨eu1, 0, none⟩) 1 1) 1 ([.int .i64 0, .slice none 0 0, .slice none 0 0, .int .i64 0, .slice none 0 0, .slice none 0 0, .bool is, .bool false])) := by rw [hu1, heu1]; exact own_one8 u0 _ HB0.out.size _ _ _ _ _ _ _ _
   go_simp
   try rw [← heu1]
   try rw [← hu1]
   refine hK.out _ _ HBu1.out (fun hHeld => ?_)
   clear hK KK hu1 heu1
   try simp only [Act.put, List.getElem_toArray, List.getElem_cons_succ, List.getElem_cons_zero, List.setIfInBounds_toArray, List.set_cons_zero, List.set_cons_succ]
   refine wpAnyH_ready (rs := [7, 9]) (by kernel_rfl) (by simp) ?_
   refine AllReadyH.cons rfl (fun KK hK => ?_) ?_
   ·skip
    refine step_append_at (by rfl) _ _ 23 (by rfl) W3.heap.size 48 j0 _ 8 120 Tryd.underlying23 HJ.out.1 HJ.out.2.1 HJ.out.2.2.1 HJ.out.2.2.2 rfl (by decide) (.slice (some ⟨eu1, 0, none⟩) 1 1) 1 ([.int .i64 0, .slice none 0 0, .slice none 0 0, .int .i64 0, .slice none 0 0, .slice none 0 0, .bool is, .bool false]) (by rfl) HRu1.out a' N c' (fl) (by rfl) (HSRC.out _ HBu1.out) (by unfold maxLen; omega) (by omega) HBu1.out.size (fun vu2 u2 h1 h2 h3 => ?_)
    have HRu2 : Hid (u2.ownsRow W3.heap.size 48 8 vu2 T1 ([.int .i64 0, .slice none 0 0, .slice none 0 0, .int .i64 0, .slice none 0 0, .slice none 0 0, .bool is, .bool false] ++ fl)) := by
     have h := h1
     rw [hT1a] at h
     exact h
    have HBu2 : Hid (Below W3.heap.size W3 u2) := HBu1.out.grown h2 HBu1.out.size (fun k hk => (own_lt HRu1.out hk).1)
    obtain ⟨au2, cu2, rfl⟩ := own_sl1 HRu2.out
    refine hK.out _ _ HBu2.out (fun hHeld => ?_)
    clear hK KK h1 h2 h3
    try simp only [Act.put, List.getElem_toArray, List.getElem_cons_succ, List.getElem_cons_zero, List.setIfInBounds_toArray, List.set_cons_zero, List.set_cons_succ]
    refine wpAnyH_take (i := 8) (v := ?_) rfl (by kernel_rfl) (by kernel_rfl) (by kernel_rfl) (fun _ _ _ h => h) (Or.inl ⟨by rfl, ?_⟩) (by assumption) ?_
    rotate_left
    ·intro wS hSw; have e0 := upC hSw e0'; have e1 := upC hSw e1'; clear hSw; go_simp; try with_reducible rfl
    try simp only [Act.put, List.getElem_toArray, List.getElem_cons_succ, List.getElem_cons_zero, List.setIfInBounds_toArray, List.set_cons_zero, List.set_cons_succ]
    refine wpAnyH_ready (rs := [9]) (by kernel_rfl) (by simp) ?_
    refine AllReadyH.cons rfl (fun KK hK => ?_) ?_
    ·skip
     obtain ⟨u3, hu3⟩ : ∃ u, u = u2.alloc (.cells #[.slice none 0 0, .slice none 0 0] 25) := ⟨_, rfl⟩
     obtain ⟨eu3, heu3⟩ : ∃ e, e = u2.heap.size := ⟨_, rfl⟩
     have HBu3 : Hid (Below W3.heap.size W3 u3) := by rw [hu3]; exact HBu2.out.alloc HBu2.out.size _
     have HRu3 : Hid (u3.ownsRow W3.heap.size 48 8 (.slice au2 T1 cu2) T1 ([.int .i64 0, .slice none 0 0, .slice none 0 0, .int .i64 0, .slice none 0 0, .slice none 0 0, .bool is, .bool false] ++ fl)) := by rw [hu3]; exact own_later5 HRu2.out ((Below.refl _ u2).alloc (Nat.le_refl _) _)
     have HOu3 : Hid (u3.heap[eu3]? = some (.cells #[.slice none 0 0, .slice none 0 0] 25)) := by show _ = _; rw [hu3, heu3]; exact heap_alloc_new u2 _
     have HWu3 : Hid (W3.heap.size ≤ eu3) := by rw [heu3]; exact HBu2.out.size
     go_simp
     try rw [← heu3]
     try rw [← hu3]
     refine hK.out _ _ HBu3.out (fun hHeld => ?_)
     clear hK KK hu3 heu3
     try simp only [Act.put, List.getElem_toArray, List.getElem_cons_succ, List.getElem_cons_zero, List.setIfInBounds_toArray, List.set_cons_zero, List.set_cons_succ]
     refine wpAnyH_ready (rs := [10]) (by kernel_rfl) (by simp) ?_
     refine AllReadyH.cons rfl (fun KK hK => ?_) ?_
     ·skip
      have HFN : Hid (LtS W3 eu3 (.slice ca m cc) (.slice au2 T1 cu2) T1 ([.int .i64 0, .slice none 0 0, .slice none 0 0, .int .i64 0, .slice none 0 0, .slice none 0 0, .bool is, .bool false] ++ fl) ((u3.setCell ⟨eu3, 0, none⟩ (.slice ca m cc)).setCell ⟨eu3, 1, none⟩ (.slice au2 T1 cu2))) := lt_fin HBu3.out HWu3.out HOu3.out HRu3.out
      obtain ⟨⟨z0, z1⟩, z2, z3⟩ := box2 HOu3.out
      go_simp
      refine hK.out _ _ HFN.out.1 (fun hHeld => ?_)
      clear hK KK z0 z1 z2 z3
      try simp only [Act.put, List.getElem_toArray, List.getElem_cons_succ, List.getElem_cons_zero, List.setIfInBounds_toArray, List.set_cons_zero, List.set_cons_succ]
      refine wpAnyH_done (by kernel_rfl) ?_ _
      refine NoPanic.normal ?_
      clear hHeld
      go_wp2_with fail
      go_meet
      exact ⟨eu3, _, _, rfl, HFN.out⟩
     exact AllReadyH.nil
    exact AllReadyH.nil
   refine AllReadyH.cons rfl (fun KK hK => ?_) ?_
   ·skip
    obtain ⟨u5, hu5⟩ : ∃ u, u = u1.alloc (.cells #[.slice none 0 0, .slice none 0 0] 25) := ⟨_, rfl⟩
    obtain ⟨eu5, heu5⟩ : ∃ e, e = u1.heap.size := ⟨_, rfl⟩
    have HBu5 : Hid (Below W3.heap.size W3 u5) := by rw [hu5]; exact HBu1.out.alloc HBu1.out.size _
    have HRu5 : Hid (u5.ownsRow W3.heap.size 48 8 (.slice (some ⟨eu1, 0, none⟩) 1 1) 1 ([.int .i64 0, .slice none 0 0, .slice none 0 0, .int .i64 0, .slice none 0 0, .slice none 0 0, .bool is, .bool false])) := by rw [hu5]; exact own_later5 HRu1.out ((Below.refl _ u1).alloc (Nat.le_refl _) _)
    have HOu5 : Hid (u5.heap[eu5]? = some (.cells #[.slice none 0 0, .slice none 0 0] 25)) := by show _ = _; rw [hu5, heu5]; exact heap_alloc_new u1 _
    have HWu5 : Hid (W3.heap.size ≤ eu5) := by rw [heu5]; exact HBu1.out.size
    go_simp
    try rw [← heu5]
    try rw [← hu5]
    refine hK.out _ _ HBu5.out (fun hHeld => ?_)
    clear hK KK hu5 heu5
    try simp only [Act.put, List.getElem_toArray, List.getElem_cons_succ, List.getElem_cons_zero, List.setIfInBounds_toArray, List.set_cons_zero, List.set_cons_succ]
    refine wpAnyH_ready (rs := [7]) (by kernel_rfl) (by simp) ?_
    refine AllReadyH.cons rfl (fun KK hK => ?_) ?_
    ·skip
     refine step_append_at (by rfl) _ _ 23 (by rfl) W3.heap.size 48 j0 _ 8 120 Tryd.underlying23 HJ.out.1 HJ.out.2.1 HJ.out.2.2.1 HJ.out.2.2.2 rfl (by decide) (.slice (some ⟨eu1, 0, none⟩) 1 1) 1 ([.int .i64 0, .slice none 0 0, .slice none 0 0, .int .i64 0, .slice none 0 0, .slice none 0 0, .bool is, .bool false]) (by rfl) HRu5.out a' N c' (fl) (by rfl) (HSRC.out _ HBu5.out) (by unfold maxLen; omega) (by omega) HBu5.out.size (fun vu6 u6 h1 h2 h3 => ?_)
     have HRu6 : Hid (u6.ownsRow W3.heap.size 48 8 vu6 T1 ([.int .i64 0, .slice none 0 0, .slice none 0 0, .int .i64 0, .slice none 0 0, .slice none 0 0, .bool is, .bool false] ++ fl)) := by
      have h := h1
      rw [hT1a] at h
      exact h
     have HBu6 : Hid (Below W3.heap.size W3 u6) := HBu5.out.grown h2 HBu5.out.size (fun k hk => (own_lt HRu5.out hk).1)
     have HOu6 : Hid (u6.heap[eu5]? = some (.cells #[.slice none 0 0, .slice none 0 0] 25)) := (h2.block _ (Array.getElem?_eq_some_iff.1 HOu5.out).1 (fun e => by
      obtain ⟨_, _, cur, hc⟩ := own_lt HRu5.out e.symm
      exact ne_ty hc HOu5.out (by decide) rfl)).trans HOu5.out
     obtain ⟨au6, cu6, rfl⟩ := own_sl1 HRu6.out
     refine hK.out _ _ HBu6.out (fun hHeld => ?_)
     clear hK KK h1 h2 h3
     try simp only [Act.put, List.getElem_toArray, List.getElem_cons_succ, List.getElem_cons_zero, List.setIfInBounds_toArray, List.set_cons_zero, List.set_cons_succ]
     refine wpAnyH_take (i := 8) (v := ?_) rfl (by kernel_rfl) (by kernel_rfl) (by kernel_rfl) (fun _ _ _ h => h) (Or.inl ⟨by rfl, ?_⟩) (by assumption) ?_
     rotate_left
     ·intro wS hSw; have e0 := upC hSw e0'; have e1 := upC hSw e1'; clear hSw; go_simp; try with_reducible rfl
     try simp only [Act.put, List.getElem_toArray, List.getElem_cons_succ, List.getElem_cons_zero, List.setIfInBounds_toArray, List.set_cons_zero, List.set_cons_succ]
     refine wpAnyH_ready (rs := [10]) (by kernel_rfl) (by simp) ?_
     refine AllReadyH.cons rfl (fun KK hK => ?_) ?_
     ·skip
      have HFN : Hid (LtS W3 eu5 (.slice ca m cc) (.slice au6 T1 cu6) T1 ([.int .i64 0, .slice none 0 0, .slice none 0 0, .int .i64 0, .slice none 0 0, .slice none 0 0, .bool is, .bool false] ++ fl) ((u6.setCell ⟨eu5, 0, none⟩ (.slice ca m cc)).setCell ⟨eu5, 1, none⟩ (.slice au6 T1 cu6))) := lt_fin HBu6.out HWu5.out HOu6.out HRu6.out
      obtain ⟨⟨z0, z1⟩, z2, z3⟩ := box2 HOu6.out
      go_simp
      refine hK.out _ _ HFN.out.1 (fun hHeld => ?_)
      clear hK KK z0 z1 z2 z3
      try simp only [Act.put, List.getElem_toArray, List.getElem_cons_succ, List.getElem_cons_zero, List.setIfInBounds_toArray, List.set_cons_zero, List.set_cons_succ]
      refine wpAnyH_done (by kernel_rfl) ?_ _
      refine NoPanic.normal ?_
      clear hHeld
      go_wp2_with fail
      go_meet
      exact ⟨eu5, _, _, rfl, HFN.out⟩
     exact AllReadyH.nil
    exact AllReadyH.nil
   exact AllReadyH.nil
  refine AllReadyH.cons rfl (fun KK hK => ?_) ?_
  ·skip
   obtain ⟨u8, hu8⟩ : ∃ u, u = u0.alloc (.cells #[.slice none 0 0, .slice none 0 0] 25) := ⟨_, rfl⟩
   obtain ⟨eu8, heu8⟩ : ∃ e, e = u0.heap.size := ⟨_, rfl⟩
   have HBu8 : Hid (Below W3.heap.size W3 u8) := by rw [hu8]; exact HB0.out.alloc HB0.out.size _
   have HOu8 : Hid (u8.heap[eu8]? = some (.cells #[.slice none 0 0, .slice none 0 0] 25)) := by show _ = _; rw [hu8, heu8]; exact heap_alloc_new u0 _
   have HWu8 : Hid (W3.heap.size ≤ eu8) := by rw [heu8]; exact HB0.out.size
   go_simp
   try rw [← heu8]
   try rw [← hu8]
   refine hK.out _ _ HBu8.out (fun hHeld => ?_)
   clear hK KK hu8 heu8
   try simp only [Act.put, List.getElem_toArray, List.getElem_cons_succ, List.getElem_cons_zero, List.setIfInBounds_toArray, List.set_cons_zero, List.set_cons_succ]
   refine wpAnyH_ready (rs := [4]) (by kernel_rfl) (by simp) ?_
   refine AllReadyH.cons rfl (fun KK hK => ?_) ?_
   ·skip
    obtain ⟨u9, hu9⟩ : ∃ u, u = u8.alloc (.cells #[.int .i64 0, .slice none 0 0, .slice none 0 0, .int .i64 0, .slice none 0 0, .slice none 0 0, .bool is, .bool false] 48) := ⟨_, rfl⟩
    obtain ⟨eu9, heu9⟩ : ∃ e, e = u8.heap.size := ⟨_, rfl⟩
    have HBu9 : Hid (Below W3.heap.size W3 u9) := by rw [hu9]; exact HBu8.out.alloc HBu8.out.size _
    have HOu9 : Hid (u9.heap[eu8]? = some (.cells #[.slice none 0 0, .slice none 0 0] 25)) := by show _ = _; rw [hu9]; exact (((Below.refl _ u8).alloc (Nat.le_refl _) _).block _ (Array.getElem?_eq_some_iff.1 HOu8.out).1).trans HOu8.out
    have HRu9 : Hid (u9.ownsRow W3.heap.size 48 8 (.slice (some ⟨eu9, 0, none⟩) 1 1) 1 ([.int .i64 0, .slice none 0 0, .slice none 0 0, .int .i64 0, .slice none 0 0, .slice none 0 0, .bool is, .bool false])) := by rw [hu9, heu9]; exact own_one8 u8 _ HBu8.out.size _ _ _ _ _ _ _ _
    go_simp
    try rw [← heu9]
    try rw [← hu9]
    refine hK.out _ _ HBu9.out (fun hHeld => ?_)
    clear hK KK hu9 heu9
    try simp only [Act.put, List.getElem_toArray, List.getElem_cons_succ, List.getElem_cons_zero, List.setIfInBounds_toArray, List.set_cons_zero, List.set_cons_succ]
    refine wpAnyH_ready (rs := [7]) (by kernel_rfl) (by simp) ?_
    refine AllReadyH.cons rfl (fun KK hK => ?_) ?_
    ·skip
     refine step_append_at (by rfl) _ _ 23 (by rfl) W3.heap.size 48 j0 _ 8 120 Tryd.underlying23 HJ.out.1 HJ.out.2.1 HJ.out.2.2.1 HJ.out.2.2.2 rfl (by decide) (.slice (some ⟨eu9, 0, none⟩) 1 1) 1 ([.int .i64 0, .slice none 0 0, .slice none 0 0, .int .i64 0, .slice none 0 0, .slice none 0 0, .bool is, .bool false]) (by rfl) HRu9.out a' N c' (fl) (by rfl) (HSRC.out _ HBu9.out) (by unfold maxLen; omega) (by omega) HBu9.out.size (fun vu10 u10 h1 h2 h3 => ?_)
     have HRu10 : Hid (u10.ownsRow W3.heap.size 48 8 vu10 T1 ([.int .i64 0, .slice none 0 0, .slice none 0 0, .int .i64 0, .slice none 0 0, .slice none 0 0, .bool is, .bool false] ++ fl)) := by
      have h := h1
      rw [hT1a] at h
      exact h
     have HBu10 : Hid (Below W3.heap.size W3 u10) := HBu9.out.grown h2 HBu9.out.size (fun k hk => (own_lt HRu9.out hk).1)
     have HOu10 : Hid (u10.heap[eu8]? = some (.cells #[.slice none 0 0, .slice none 0 0] 25)) := (h2.block _ (Array.getElem?_eq_some_iff.1 HOu9.out).1 (fun e => by
      obtain ⟨_, _, cur, hc⟩ := own_lt HRu9.out e.symm
      exact ne_ty hc HOu9.out (by decide) rfl)).trans HOu9.out
     obtain ⟨au10, cu10, rfl⟩ := own_sl1 HRu10.out
     refine hK.out _ _ HBu10.out (fun hHeld => ?_)
     clear hK KK h1 h2 h3
     try simp only [Act.put, List.getElem_toArray, List.getElem_cons_succ, List.getElem_cons_zero, List.setIfInBounds_toArray, List.set_cons_zero, List.set_cons_succ]
     refine wpAnyH_take (i := 8) (v := ?_) rfl (by kernel_rfl) (by kernel_rfl) (by kernel_rfl) (fun _ _ _ h => h) (Or.inl ⟨by rfl, ?_⟩) (by assumption) ?_
     rotate_left
     ·intro wS hSw; have e0 := upC hSw e0'; have e1 := upC hSw e1'; clear hSw; go_simp; try with_reducible rfl
     try simp only [Act.put, List.getElem_toArray, List.getElem_cons_succ, List.getElem_cons_zero, List.setIfInBounds_toArray, List.set_cons_zero, List.set_cons_succ]
     refine wpAnyH_ready (rs := [10]) (by kernel_rfl) (by simp) ?_
     refine AllReadyH.cons rfl (fun KK hK => ?_) ?_
     ·skip
      have HFN : Hid (LtS W3 eu8 (.slice ca m cc) (.slice au10 T1 cu10) T1 ([.int .i64 0, .slice none 0 0, .slice none 0 0, .int .i64 0, .slice none 0 0, .slice none 0 0, .bool is, .bool false] ++ fl) ((u10.setCell ⟨eu8, 0, none⟩ (.slice ca m cc)).setCell ⟨eu8, 1, none⟩ (.slice au10 T1 cu10))) := lt_fin HBu10.out HWu8.out HOu10.out HRu10.out
      obtain ⟨⟨z0, z1⟩, z2, z3⟩ := box2 HOu10.out
      go_simp
      refine hK.out _ _ HFN.out.1 (fun hHeld => ?_)
      clear hK KK z0 z1 z2 z3
      try simp only [Act.put, List.getElem_toArray, List.getElem_cons_succ, List.getElem_cons_zero, List.setIfInBounds_toArray, List.set_cons_zero, List.set_cons_succ]
      refine wpAnyH_done (by kernel_rfl) ?_ _
      refine NoPanic.normal ?_
      clear hHeld
      go_wp2_with fail
      go_meet
      exact ⟨eu8, _, _, rfl, HFN.out⟩
     exact AllReadyH.nil
    exact AllReadyH.nil
   exact AllReadyH.nil
  exact AllReadyH.nil
 case rest =>
  obtain ⟨OA, aA, cA, hx8, hlt⟩ := hcut
  subst hx8
  obtain ⟨W4, hW4⟩ : ∃ W, W = wc := ⟨_, rfl⟩
  rw [← hW4] at hlt ⊢
  have HL4 : Hid (LtS W3 OA (.slice ca m cc) (.slice aA T1 cA) T1 ([.int .i64 0, .slice none 0 0, .slice none 0 0, .int .i64 0, .slice none 0 0, .slice none 0 0, .bool is, .bool false] ++ fl) W4) := hlt
  clear hW4 hlt e0' e1'
  have HX4 : Hid (W4.heap[H]? = some (.cells #[.slice ca m cc, .slice a' N c'] 25)) := (HL4.out.1.block H (Array.getElem?_eq_some_iff.1 HX3.out).1).trans HX3.out
  have HSR4 : Hid (∀ V : World, Below W4.heap.size W4 V → SrcAt V a' N c' 8 fl) := fun V hV => HSRC.out V (HL4.out.1.trans (hV.mono HL4.out.1.size))
  obtain ⟨⟨e0', e1'⟩, _⟩ := box2 HX4.out
  go_upto_region 5 with fail
  go_cut [9] (fun x9 wx => ∃ O a c, x9 = .pointer (some ⟨O, 0, none⟩) ∧ LtS W4 O (.slice ca m cc) (.slice a T1 c) T1 (fl ++ [.int .i64 0, .slice none 0 0, .slice none 0 0, .int .i64 0, .slice none 0 0, .slice none 0 0, .bool true, .bool false]) wx)
  case first =>
   refine wp_region_noPanic ?_
   have HB0 : Hid (Below W4.heap.size W4 W4.drew) := (Below.refl _ W4).drew
   refine wp_region_held_drew (S := (fun w' => Below W4.heap.size W4 w')) (by kernel_rfl) HB0.out (fun hHeld => ?_)
   obtain ⟨u0, hu0⟩ : ∃ u, u = W4.drew := ⟨_, rfl⟩
   rw [← hu0] at HB0 ⊢
   clear hu0
   refine wpAnyH_take (i := 0) (v := ?_) rfl (by kernel_rfl) (by kernel_rfl) (by kernel_rfl) (fun _ _ _ h => h) (Or.inl ⟨by rfl, ?_⟩) (by assumption) ?_
   rotate_left
   ·intro wS hSw; have e0 := upC hSw e0'; have e1 := upC hSw e1'; clear hSw; go_simp; try with_reducible rfl
   try simp only [Act.put, List.getElem_toArray, List.getElem_cons_succ, List.getElem_cons_zero, List.setIfInBounds_toArray, List.set_cons_zero, List.set_cons_succ]
   refine wpAnyH_take (i := 1) (v := ?_) rfl (by kernel_rfl) (by kernel_rfl) (by kernel_rfl) (fun _ _ _ h => h) (Or.inl ⟨by rfl, ?_⟩) (by assumption) ?_
   rotate_left
   ·intro wS hSw; have e0 := upC hSw e0'; have e1 := upC hSw e1'; clear hSw; go_simp; try with_reducible rfl
   try simp only [Act.put, List.getElem_toArray, List.getElem_cons_succ, List.getElem_cons_zero, List.setIfInBounds_toArray, List.set_cons_zero, List.set_cons_succ]
   refine wpAnyH_take (i := 3) (v := ?_) rfl (by kernel_rfl) (by kernel_rfl) (by kernel_rfl) (fun _ _ _ h => h) (Or.inl ⟨by rfl, ?_⟩) (by assumption) ?_
   rotate_left
   ·intro wS hSw; have e0 := upC hSw e0'; have e1 := upC hSw e1'; clear hSw; go_simp; try with_reducible rfl
   try simp only [Act.put, List.getElem_toArray, List.getElem_cons_succ, List.getElem_cons_zero, List.setIfInBounds_toArray, List.set_cons_zero, List.set_cons_succ]
   refine wpAnyH_take (i := 4) (v := ?_) rfl (by kernel_rfl) (by kernel_rfl) (by kernel_rfl) (fun _ _ _ h => h) (Or.inl ⟨by rfl, ?_⟩) (by assumption) ?_
   rotate_left
   ·intro wS hSw; have e0 := upC hSw e0'; have e1 := upC hSw e1'; clear hSw; go_simp; try with_reducible rfl
   try simp only [Act.put, List.getElem_toArray, List.getElem_cons_succ, List.getElem_cons_zero, List.setIfInBounds_toArray, List.set_cons_zero, List.set_cons_succ]
   refine wpAnyH_take (i := 6) (v := ?_) rfl (by kernel_rfl) (by kernel_rfl) (by kernel_rfl) (fun _ _ _ h => h) (Or.inl ⟨by rfl, ?_⟩) (by assumption) ?_
   rotate_left
   ·intro wS hSw; have e0 := upC hSw e0'; have e1 := upC hSw e1'; clear hSw; go_simp; try with_reducible rfl
   try simp only [Act.put, List.getElem_toArray, List.getElem_cons_succ, List.getElem_cons_zero, List.setIfInBounds_toArray, List.set_cons_zero, List.set_cons_succ]
   refine wpAnyH_ready (rs := [2, 7, 10]) (by kernel_rfl) (by simp) ?_
   refine AllReadyH.cons rfl (fun KK hK => ?_) ?_
   ·skip
    obtain ⟨u1, hu1⟩ : ∃ u, u = u0.alloc (.cells #[] 48) := ⟨_, rfl⟩
    obtain ⟨eu1, heu1⟩ : ∃ e, e = u0.heap.size := ⟨_, rfl⟩
    have HBu1 : Hid (Below W4.heap.size W4 u1) := by rw [hu1]; exact HB0.out.alloc HB0.out.size _
    have HRu1 : Hid (u1.ownsRow W4.heap.size 48 8 (.slice (some ⟨eu1, 0, none⟩) 0 0) 0 ([])) := by rw [hu1, heu1]; exact own_nil8 u0 _ HB0.out.size
    go_simp
    try rw [← heu1]
    try rw [← hu1]
    refine hK.out _ _ HBu1.out (fun hHeld => ?_)
    clear hK KK hu1 heu1
    try simp only [Act.put, List.getElem_toArray, List.getElem_cons_succ, List.getElem_cons_zero, List.setIfInBounds_toArray, List.set_cons_zero, List.set_cons_succ]
    refine wpAnyH_ready (rs := [5, 7, 10]) (by kernel_rfl) (by simp) ?_
    refine AllReadyH.cons rfl (fun KK hK => ?_) ?_
    ·skip
     refine step_append_at (by rfl) _ _ 23 (by rfl) W4.heap.size 48 j0 _ 8 120 Tryd.underlying23 HJ.out.1 HJ.out.2.1 HJ.out.2.2.1 HJ.out.2.2.2 rfl (by decide) (.slice (some ⟨eu1, 0, none⟩) 0 0) 0 ([]) (by rfl) HRu1.out a' N c' (fl) (by rfl) (HSR4.out _ HBu1.out) (by unfold maxLen; omega) (by omega) HBu1.out.size (fun vu2 u2 h1 h2 h3 => ?_)
     have HRu2 : Hid (u2.ownsRow W4.heap.size 48 8 vu2 N (fl)) := by
      have h := h1
      rw [Nat.zero_add, List.nil_append] at h
      exact h
     have HBu2 : Hid (Below W4.heap.size W4 u2) := HBu1.out.grown h2 HBu1.out.size (fun k hk => (own_lt HRu1.out hk).1)
     obtain ⟨au2, cu2, rfl⟩ := own_sl1 HRu2.out
     refine hK.out _ _ HBu2.out (fun hHeld => ?_)
     clear hK KK h1 h2 h3
     try simp only [Act.put, List.getElem_toArray, List.getElem_cons_succ, List.getElem_cons_zero, List.setIfInBounds_toArray, List.set_cons_zero, List.set_cons_succ]
     refine wpAnyH_ready (rs := [7, 10]) (by kernel_rfl) (by simp) ?_
     refine AllReadyH.cons rfl (fun KK hK => ?_) ?_
     ·skip
      obtain ⟨u3, hu3⟩ : ∃ u, u = u2.alloc (.cells #[.int .i64 0, .slice none 0 0, .slice none 0 0, .int .i64 0, .slice none 0 0, .slice none 0 0, .bool true, .bool false] 48) := ⟨_, rfl⟩
      obtain ⟨eu3, heu3⟩ : ∃ e, e = u2.heap.size := ⟨_, rfl⟩
      have HBu3 : Hid (Below W4.heap.size W4 u3) := by rw [hu3]; exact HBu2.out.alloc HBu2.out.size _
      have HRu3 : Hid (u3.ownsRow W4.heap.size 48 8 (.slice au2 N cu2) N (fl)) := by rw [hu3]; exact own_later5 HRu2.out ((Below.refl _ u2).alloc (Nat.le_refl _) _)
      have HFu3 : Hid (u3.heap[eu3]? = some (.cells (r8v true) 48)) := by show _ = _; rw [hu3, heu3]; exact heap_alloc_new u2 _
      have HNu3 : Hid ((Value.slice au2 N cu2).ownBlock ≠ some eu3) := fun e => by have := (own_lt HRu2.out e).2.1; omega
      go_simp
      try rw [← heu3]
      try rw [← hu3]
      refine hK.out _ _ HBu3.out (fun hHeld => ?_)
      clear hK KK hu3 heu3
      try simp only [Act.put, List.getElem_toArray, List.getElem_cons_succ, List.getElem_cons_zero, List.setIfInBounds_toArray, List.set_cons_zero, List.set_cons_succ]
      refine wpAnyH_ready (rs := [8, 10]) (by kernel_rfl) (by simp) ?_
      refine AllReadyH.cons rfl (fun KK hK => ?_) ?_
      ·skip
       refine step_append_at (by rfl) _ _ 23 (by rfl) W4.heap.size 48 j0 _ 8 120 Tryd.underlying23 HJ.out.1 HJ.out.2.1 HJ.out.2.2.1 HJ.out.2.2.2 rfl (by decide) (.slice au2 N cu2) N (fl) (by rfl) HRu3.out (some ⟨eu3, 0, none⟩) 1 1 ([.int .i64 0, .slice none 0 0, .slice none 0 0, .int .i64 0, .slice none 0 0, .slice none 0 0, .bool true, .bool false]) (by rfl) (src_one8 HFu3.out (by simp [Value.oneCell'])) (by unfold maxLen; omega) (by omega) HBu3.out.size (fun vu4 u4 h1 h2 h3 => ?_)
       have HRu4 : Hid (u4.ownsRow W4.heap.size 48 8 vu4 T1 (fl ++ [.int .i64 0, .slice none 0 0, .slice none 0 0, .int .i64 0, .slice none 0 0, .slice none 0 0, .bool true, .bool false])) := by
        have h := h1
        rw [hT1b] at h
        exact h
       have HBu4 : Hid (Below W4.heap.size W4 u4) := HBu3.out.grown h2 HBu3.out.size (fun k hk => (own_lt HRu3.out hk).1)
       have HFu4 : Hid (u4.heap[eu3]? = some (.cells (r8v true) 48)) := (h2.block _ (Array.getElem?_eq_some_iff.1 HFu3.out).1 (fun e => HNu3.out e.symm)).trans HFu3.out
       have HNu4 : Hid (vu4.ownBlock ≠ some eu3) := by
        rcases h3 with h3 | h3
        ·rw [h3]; exact HNu3.out
        ·rw [h3]; intro e; have e2 := Option.some.inj e; have := (Array.getElem?_eq_some_iff.1 HFu3.out).1; omega
       obtain ⟨au4, cu4, rfl⟩ := own_sl1 HRu4.out
       refine hK.out _ _ HBu4.out (fun hHeld => ?_)
       clear hK KK h1 h2 h3
       try simp only [Act.put, List.getElem_toArray, List.getElem_cons_succ, List.getElem_cons_zero, List.setIfInBounds_toArray, List.set_cons_zero, List.set_cons_succ]
       refine wpAnyH_take (i := 9) (v := ?_) rfl (by kernel_rfl) (by kernel_rfl) (by kernel_rfl) (fun _ _ _ h => h) (Or.inl ⟨by rfl, ?_⟩) (by assumption) ?_
       rotate_left
       ·intro wS hSw; have e0 := upC hSw e0'; have e1 := upC hSw e1'; clear hSw; go_simp; try with_reducible rfl
       try simp only [Act.put, List.getElem_toArray, List.getElem_cons_succ, List.getElem_cons_zero, List.setIfInBounds_toArray, List.set_cons_zero, List.set_cons_succ]
       refine wpAnyH_ready (rs := [10]) (by kernel_rfl) (by simp) ?_
       refine AllReadyH.cons rfl (fun KK hK => ?_) ?_
       ·skip
        obtain ⟨u5, hu5⟩ : ∃ u, u = u4.alloc (.cells #[.slice none 0 0, .slice none 0 0] 25) := ⟨_, rfl⟩
        obtain ⟨eu5, heu5⟩ : ∃ e, e = u4.heap.size := ⟨_, rfl⟩
        have HBu5 : Hid (Below W4.heap.size W4 u5) := by rw [hu5]; exact HBu4.out.alloc HBu4.out.size _
        have HRu5 : Hid (u5.ownsRow W4.heap.size 48 8 (.slice au4 T1 cu4) T1 (fl ++ [.int .i64 0, .slice none 0 0, .slice none 0 0, .int .i64 0, .slice none 0 0, .slice none 0 0, .bool true, .bool false])) := by rw [hu5]; exact own_later5 HRu4.out ((Below.refl _ u4).alloc (Nat.le_refl _) _)
        have HFu5 : Hid (u5.heap[eu3]? = some (.cells (r8v true) 48)) := by show _ = _; rw [hu5]; exact (((Below.refl _ u4).alloc (Nat.le_refl _) _).block _ (Array.getElem?_eq_some_iff.1 HFu4.out).1).trans HFu4.out
        have HOu5 : Hid (u5.heap[eu5]? = some (.cells #[.slice none 0 0, .slice none 0 0] 25)) := by show _ = _; rw [hu5, heu5]; exact heap_alloc_new u4 _
        have HWu5 : Hid (W4.heap.size ≤ eu5) := by rw [heu5]; exact HBu4.out.size
        go_simp
        try rw [← heu5]
        try rw [← hu5]
        refine hK.out _ _ HBu5.out (fun hHeld => ?_)
        clear hK KK hu5 heu5
        try simp only [Act.put, List.getElem_toArray, List.getElem_cons_succ, List.getElem_cons_zero, List.setIfInBounds_toArray, List.set_cons_zero, List.set_cons_succ]
        refine wpAnyH_ready (rs := [11]) (by kernel_rfl) (by simp) ?_
        refine AllReadyH.cons rfl (fun KK hK => ?_) ?_
        ·skip
         have HFN : Hid (LtS W4 eu5 (.slice ca m cc) (.slice au4 T1 cu4) T1 (fl ++ [.int .i64 0, .slice none 0 0, .slice none 0 0, .int .i64 0, .slice none 0 0, .slice none 0 0, .bool true, .bool false]) ((u5.setCell ⟨eu5, 0, none⟩ (.slice ca m cc)).setCell ⟨eu5, 1, none⟩ (.slice au4 T1 cu4))) := lt_fin HBu5.out HWu5.out HOu5.out HRu5.out
         obtain ⟨⟨z0, z1⟩, z2, z3⟩ := box2 HOu5.out
         go_simp
         refine hK.out _ _ HFN.out.1 (fun hHeld => ?_)
         clear hK KK z0 z1 z2 z3
         try simp only [Act.put, List.getElem_toArray, List.getElem_cons_succ, List.getElem_cons_zero, List.setIfInBounds_toArray, List.set_cons_zero, List.set_cons_succ]
         refine wpAnyH_done (by kernel_rfl) ?_ _
         refine NoPanic.normal ?_
         clear hHeld
         go_wp2_with fail
         go_meet
         exact ⟨eu5, _, _, rfl, HFN.out⟩
        exact AllReadyH.nil
       exact AllReadyH.nil
      refine AllReadyH.cons rfl (fun KK hK => ?_) ?_
      ·skip
       obtain ⟨u7, hu7⟩ : ∃ u, u = u3.alloc (.cells #[.slice none 0 0, .slice none 0 0] 25) := ⟨_, rfl⟩
       obtain ⟨eu7, heu7⟩ : ∃ e, e = u3.heap.size := ⟨_, rfl⟩
       have HBu7 : Hid (Below W4.heap.size W4 u7) := by rw [hu7]; exact HBu3.out.alloc HBu3.out.size _
       have HRu7 : Hid (u7.ownsRow W4.heap.size 48 8 (.slice au2 N cu2) N (fl)) := by rw [hu7]; exact own_later5 HRu3.out ((Below.refl _ u3).alloc (Nat.le_refl _) _)
       have HFu7 : Hid (u7.heap[eu3]? = some (.cells (r8v true) 48)) := by show _ = _; rw [hu7]; exact (((Below.refl _ u3).alloc (Nat.le_refl _) _).block _ (Array.getElem?_eq_some_iff.1 HFu3.out).1).trans HFu3.out
       have HOu7 : Hid (u7.heap[eu7]? = some (.cells #[.slice none 0 0, .slice none 0 0] 25)) := by show _ = _; rw [hu7, heu7]; exact heap_alloc_new u3 _
       have HWu7 : Hid (W4.heap.size ≤ eu7) := by rw [heu7]; exact HBu3.out.size
       go_simp
       try rw [← heu7]
       try rw [← hu7]
       refine hK.out _ _ HBu7.out (fun hHeld => ?_)
       clear hK KK hu7 heu7
       try simp only [Act.put, List.getElem_toArray, List.getElem_cons_succ, List.getElem_cons_zero, List.setIfInBounds_toArray, List.set_cons_zero, List.set_cons_succ]
       refine wpAnyH_ready (rs := [8]) (by kernel_rfl) (by simp) ?_
       refine AllReadyH.cons rfl (fun KK hK => ?_) ?_
       ·skip
        refine step_append_at (by rfl) _ _ 23 (by rfl) W4.heap.size 48 j0 _ 8 120 Tryd.underlying23 HJ.out.1 HJ.out.2.1 HJ.out.2.2.1 HJ.out.2.2.2 rfl (by decide) (.slice au2 N cu2) N (fl) (by rfl) HRu7.out (some ⟨eu3, 0, none⟩) 1 1 ([.int .i64 0, .slice none 0 0, .slice none 0 0, .int .i64 0, .slice none 0 0, .slice none 0 0, .bool true, .bool false]) (by rfl) (src_one8 HFu7.out (by simp [Value.oneCell'])) (by unfold maxLen; omega) (by omega) HBu7.out.size (fun vu8 u8 h1 h2 h3 => ?_)
        have HRu8 : Hid (u8.ownsRow W4.heap.size 48 8 vu8 T1 (fl ++ [.int .i64 0, .slice none 0 0, .slice none 0 0, .int .i64 0, .slice none 0 0, .slice none 0 0, .bool true, .bool false])) := by
         have h := h1
         rw [hT1b] at h
         exact h
        have HBu8 : Hid (Below W4.heap.size W4 u8) := HBu7.out.grown h2 HBu7.out.size (fun k hk => (own_lt HRu7.out hk).1)
        have HOu8 : Hid (u8.heap[eu7]? = some (.cells #[.slice none 0 0, .slice none 0 0] 25)) := (h2.block _ (Array.getElem?_eq_some_iff.1 HOu7.out).1 (fun e => by
         obtain ⟨_, _, cur, hc⟩ := own_lt HRu7.out e.symm
         exact ne_ty hc HOu7.out (by decide) rfl)).trans HOu7.out
        have HFu8 : Hid (u8.heap[eu3]? = some (.cells (r8v true) 48)) := (h2.block _ (Array.getElem?_eq_some_iff.1 HFu7.out).1 (fun e => HNu3.out e.symm)).trans HFu7.out
        have HNu8 : Hid (vu8.ownBlock ≠ some eu3) := by
         rcases h3 with h3 | h3
         ·rw [h3]; exact HNu3.out
         ·rw [h3]; intro e; have e2 := Option.some.inj e; have := (Array.getElem?_eq_some_iff.1 HFu7.out).1; omega
        obtain ⟨au8, cu8, rfl⟩ := own_sl1 HRu8.out
        refine hK.out _ _ HBu8.out (fun hHeld => ?_)
        clear hK KK h1 h2 h3
        try simp only [Act.put, List.getElem_toArray, List.getElem_cons_succ, List.getElem_cons_zero, List.setIfInBounds_toArray, List.set_cons_zero, List.set_cons_succ]
        refine wpAnyH_take (i := 9) (v := ?_) rfl (by kernel_rfl) (by kernel_rfl) (by kernel_rfl) (fun _ _ _ h => h) (Or.inl ⟨by rfl, ?_⟩) (by assumption) ?_
        rotate_left
        ·intro wS hSw; have e0 := upC hSw e0'; have e1 := upC hSw e1'; clear hSw; go_simp; try with_reducible rfl
        try simp only [Act.put, List.getElem_toArray, List.getElem_cons_succ, List.getElem_cons_zero, List.setIfInBounds_toArray, List.set_cons_zero, List.set_cons_succ]
        refine wpAnyH_ready (rs := [11]) (by kernel_rfl) (by simp) ?_
        refine AllReadyH.cons rfl (fun KK hK => ?_) ?_
        ·skip
         have HFN : Hid (LtS W4 eu7 (.slice ca m cc) (.slice au8 T1 cu8) T1 (fl ++ [.int .i64 0, .slice none 0 0, .slice none 0 0, .int .i64 0, .slice none 0 0, .slice none 0 0, .bool true, .bool false]) ((u8.setCell ⟨eu7, 0, none⟩ (.slice ca m cc)).setCell ⟨eu7, 1, none⟩ (.slice au8 T1 cu8))) := lt_fin HBu8.out HWu7.out HOu8.out HRu8.out
         obtain ⟨⟨z0, z1⟩, z2, z3⟩ := box2 HOu8.out
         go_simp
         refine hK.out _ _ HFN.out.1 (fun hHeld => ?_)
         clear hK KK z0 z1 z2 z3
         try simp only [Act.put, List.getElem_toArray, List.getElem_cons_succ, List.getElem_cons_zero, List.setIfInBounds_toArray, List.set_cons_zero, List.set_cons_succ]
         refine wpAnyH_done (by kernel_rfl) ?_ _
         refine NoPanic.normal ?_
         clear hHeld
         go_wp2_with fail
         go_meet
         exact ⟨eu7, _, _, rfl, HFN.out⟩
        exact AllReadyH.nil
       exact AllReadyH.nil
      exact AllReadyH.nil
     refine AllReadyH.cons rfl (fun KK hK => ?_) ?_
     ·skip
      obtain ⟨u10, hu10⟩ : ∃ u, u = u2.alloc (.cells #[.slice none 0 0, .slice none 0 0] 25) := ⟨_, rfl⟩
      obtain ⟨eu10, heu10⟩ : ∃ e, e = u2.heap.size := ⟨_, rfl⟩
      have HBu10 : Hid (Below W4.heap.size W4 u10) := by rw [hu10]; exact HBu2.out.alloc HBu2.out.size _
      have HRu10 : Hid (u10.ownsRow W4.heap.size 48 8 (.slice au2 N cu2) N (fl)) := by rw [hu10]; exact own_later5 HRu2.out ((Below.refl _ u2).alloc (Nat.le_refl _) _)
      have HOu10 : Hid (u10.heap[eu10]? = some (.cells #[.slice none 0 0, .slice none 0 0] 25)) := by show _ = _; rw [hu10, heu10]; exact heap_alloc_new u2 _
      have HWu10 : Hid (W4.heap.size ≤ eu10) := by rw [heu10]; exact HBu2.out.size
      go_simp
      try rw [← heu10]
      try rw [← hu10]
      refine hK.out _ _ HBu10.out (fun hHeld => ?_)
      clear hK KK hu10 heu10
      try simp only [Act.put, List.getElem_toArray, List.getElem_cons_succ, List.getElem_cons_zero, List.setIfInBounds_toArray, List.set_cons_zero, List.set_cons_succ]
      refine wpAnyH_ready (rs := [7]) (by kernel_rfl) (by simp) ?_
      refine AllReadyH.cons rfl (fun KK hK => ?_) ?_
      ·skip
       obtain ⟨u11, hu11⟩ : ∃ u, u = u10.alloc (.cells #[.int .i64 0, .slice none 0 0, .slice none 0 0, .int .i64 0, .slice none 0 0, .slice none 0 0, .bool true, .bool false] 48) := ⟨_, rfl⟩
       obtain ⟨eu11, heu11⟩ : ∃ e, e = u10.heap.size := ⟨_, rfl⟩
       have HBu11 : Hid (Below W4.heap.size W4 u11) := by rw [hu11]; exact HBu10.out.alloc HBu10.out.size _
       have HOu11 : Hid (u11.heap[eu10]? = some (.cells #[.slice none 0 0, .slice none 0 0] 25)) := by show _ = _; rw [hu11]; exact (((Below.refl _ u10).alloc (Nat.le_refl _) _).block _ (Array.getElem?_eq_some_iff.1 HOu10.out).1).trans HOu10.out
       have HRu11 : Hid (u11.ownsRow W4.heap.size 48 8 (.slice au2 N cu2) N (fl)) := by rw [hu11]; exact own_later5 HRu10.out ((Below.refl _ u10).alloc (Nat.le_refl _) _)
       have HFu11 : Hid (u11.heap[eu11]? = some (.cells (r8v true) 48)) := by show _ = _; rw [hu11, heu11]; exact heap_alloc_new u10 _
       have HNu11 : Hid ((Value.slice au2 N cu2).ownBlock ≠ some eu11) := fun e => by have := (own_lt HRu10.out e).2.1; omega
       go_simp
       try rw [← heu11]
       try rw [← hu11]
       refine hK.out _ _ HBu11.out (fun hHeld => ?_)
       clear hK KK hu11 heu11
       try simp only [Act.put, List.getElem_toArray, List.getElem_cons_succ, List.getElem_cons_zero, List.setIfInBounds_toArray, List.set_cons_zero, List.set_cons_succ]
       refine wpAnyH_ready (rs := [8]) (by kernel_rfl) (by simp) ?_
       refine AllReadyH.cons rfl (fun KK hK => ?_) ?_
       ·skip
        refine step_append_at (by rfl) _ _ 23 (by rfl) W4.heap.size 48 j0 _ 8 120 Tryd.underlying23 HJ.out.1 HJ.out.2.1 HJ.out.2.2.1 HJ.out.2.2.2 rfl (by decide) (.slice au2 N cu2) N (fl) (by rfl) HRu11.out (some ⟨eu11, 0, none⟩) 1 1 ([.int .i64 0, .slice none 0 0, .slice none 0 0, .int .i64 0, .slice none 0 0, .slice none 0 0, .bool true, .bool false]) (by rfl) (src_one8 HFu11.out (by simp [Value.oneCell'])) (by unfold maxLen; omega) (by omega) HBu11.out.size (fun vu12 u12 h1 h2 h3 => ?_)
        have HRu12 : Hid (u12.ownsRow W4.heap.size 48 8 vu12 T1 (fl ++ [.int .i64 0, .slice none 0 0, .slice none 0 0, .int .i64 0, .slice none 0 0, .slice none 0 0, .bool true, .bool false])) := by
         have h := h1
         rw [hT1b] at h
         exact h
        have HBu12 : Hid (Below W4.heap.size W4 u12) := HBu11.out.grown h2 HBu11.out.size (fun k hk => (own_lt HRu11.out hk).1)
        have HOu12 : Hid (u12.heap[eu10]? = some (.cells #[.slice none 0 0, .slice none 0 0] 25)) := (h2.block _ (Array.getElem?_eq_some_iff.1 HOu11.out).1 (fun e => by
         obtain ⟨_, _, cur, hc⟩ := own_lt HRu11.out e.symm
         exact ne_ty hc HOu11.out (by decide) rfl)).trans HOu11.out
        have HFu12 : Hid (u12.heap[eu11]? = some (.cells (r8v true) 48)) := (h2.block _ (Array.getElem?_eq_some_iff.1 HFu11.out).1 (fun e => HNu11.out e.symm)).trans HFu11.out
        have HNu12 : Hid (vu12.ownBlock ≠ some eu11) := by
         rcases h3 with h3 | h3
         ·rw [h3]; exact HNu11.out
         ·rw [h3]; intro e; have e2 := Option.some.inj e; have := (Array.getElem?_eq_some_iff.1 HFu11.out).1; omega
        obtain ⟨au12, cu12, rfl⟩ := own_sl1 HRu12.out
        refine hK.out _ _ HBu12.out (fun hHeld => ?_)
        clear hK KK h1 h2 h3
        try simp only [Act.put, List.getElem_toArray, List.getElem_cons_succ, List.getElem_cons_zero, List.setIfInBounds_toArray, List.set_cons_zero, List.set_cons_succ]
        refine wpAnyH_take (i := 9) (v := ?_) rfl (by kernel_rfl) (by kernel_rfl) (by kernel_rfl) (fun _ _ _ h => h) (Or.inl ⟨by rfl, ?_⟩) (by assumption) ?_
        rotate_left
        ·intro wS hSw; have e0 := upC hSw e0'; have e1 := upC hSw e1'; clear hSw; go_simp; try with_reducible rfl
        try simp only [Act.put, List.getElem_toArray, List.getElem_cons_succ, List.getElem_cons_zero, List.setIfInBounds_toArray, List.set_cons_zero, List.set_cons_succ]
        refine wpAnyH_ready (rs := [11]) (by kernel_rfl) (by simp) ?_
        refine AllReadyH.cons rfl (fun KK hK => ?_) ?_
        ·skip
         have HFN : Hid (LtS W4 eu10 (.slice ca m cc) (.slice au12 T1 cu12) T1 (fl ++ [.int .i64 0, .slice none 0 0, .slice none 0 0, .int .i64 0, .slice none 0 0, .slice none 0 0, .bool true, .bool false]) ((u12.setCell ⟨eu10, 0, none⟩ (.slice ca m cc)).setCell ⟨eu10, 1, none⟩ (.slice au12 T1 cu12))) := lt_fin HBu12.out HWu10.out HOu12.out HRu12.out
         obtain ⟨⟨z0, z1⟩, z2, z3⟩ := box2 HOu12.out
         go_simp
         refine hK.out _ _ HFN.out.1 (fun hHeld => ?_)
         clear hK KK z0 z1 z2 z3
         try simp only [Act.put, List.getElem_toArray, List.getElem_cons_succ, List.getElem_cons_zero, List.setIfInBounds_toArray, List.set_cons_zero, List.set_cons_succ]
         refine wpAnyH_done (by kernel_rfl) ?_ _
         refine NoPanic.normal ?_
         clear hHeld
         go_wp2_with fail
         go_meet
         exact ⟨eu10, _, _, rfl, HFN.out⟩
        exact AllReadyH.nil
       exact AllReadyH.nil
      exact AllReadyH.nil
     exact AllReadyH.nil
    refine AllReadyH.cons rfl (fun KK hK => ?_) ?_
    ·skip
     obtain ⟨u14, hu14⟩ : ∃ u, u = u1.alloc (.cells #[.int .i64 0, .slice none 0 0, .slice none 0 0, .int .i64 0, .slice none 0 0, .slice none 0 0, .bool true, .bool false] 48) := ⟨_, rfl⟩
     obtain ⟨eu14, heu14⟩ : ∃ e, e = u1.heap.size := ⟨_, rfl⟩
     have HBu14 : Hid (Below W4.heap.size W4 u14) := by rw [hu14]; exact HBu1.out.alloc HBu1.out.size _
     have HRu14 : Hid (u14.ownsRow W4.heap.size 48 8 (.slice (some ⟨eu1, 0, none⟩) 0 0) 0 ([])) := by rw [hu14]; exact own_later5 HRu1.out ((Below.refl _ u1).alloc (Nat.le_refl _) _)
     have HFu14 : Hid (u14.heap[eu14]? = some (.cells (r8v true) 48)) := by show _ = _; rw [hu14, heu14]; exact heap_alloc_new u1 _
     have HNu14 : Hid ((Value.slice (some ⟨eu1, 0, none⟩) 0 0).ownBlock ≠ some eu14) := fun e => by have := (own_lt HRu1.out e).2.1; omega
     go_simp
     try rw [← heu14]
     try rw [← hu14]
     refine hK.out _ _ HBu14.out (fun hHeld => ?_)
     clear hK KK hu14 heu14
     try simp only [Act.put, List.getElem_toArray, List.getElem_cons_succ, List.getElem_cons_zero, List.setIfInBounds_toArray, List.set_cons_zero, List.set_cons_succ]
     refine wpAnyH_ready (rs := [5, 10]) (by kernel_rfl) (by simp) ?_
     refine AllReadyH.cons rfl (fun KK hK => ?_) ?_
     ·skip
      refine step_append_at (by rfl) _ _ 23 (by rfl) W4.heap.size 48 j0 _ 8 120 Tryd.underlying23 HJ.out.1 HJ.out.2.1 HJ.out.2.2.1 HJ.out.2.2.2 rfl (by decide) (.slice (some ⟨eu1, 0, none⟩) 0 0) 0 ([]) (by rfl) HRu14.out a' N c' (fl) (by rfl) (HSR4.out _ HBu14.out) (by unfold maxLen; omega) (by omega) HBu14.out.size (fun vu15 u15 h1 h2 h3 => ?_)
      have HRu15 : Hid (u15.ownsRow W4.heap.size 48 8 vu15 N (fl)) := by
       have h := h1
       rw [Nat.zero_add, List.nil_append] at h
       exact h
      have HBu15 : Hid (Below W4.heap.size W4 u15) := HBu14.out.grown h2 HBu14.out.size (fun k hk => (own_lt HRu14.out hk).1)
      have HFu15 : Hid (u15.heap[eu14]? = some (.cells (r8v true) 48)) := (h2.block _ (Array.getElem?_eq_some_iff.1 HFu14.out).1 (fun e => HNu14.out e.symm)).trans HFu14.out
      have HNu15 : Hid (vu15.ownBlock ≠ some eu14) := by
       rcases h3 with h3 | h3
       ·rw [h3]; exact HNu14.out
       ·rw [h3]; intro e; have e2 := Option.some.inj e; have := (Array.getElem?_eq_some_iff.1 HFu14.out).1; omega
      obtain ⟨au15, cu15, rfl⟩ := own_sl1 HRu15.out
      refine hK.out _ _ HBu15.out (fun hHeld => ?_)
      clear hK KK h1 h2 h3
      try simp only [Act.put, List.getElem_toArray, List.getElem_cons_succ, List.getElem_cons_zero, List.setIfInBounds_toArray, List.set_cons_zero, List.set_cons_succ]
      refine wpAnyH_ready (rs := [8, 10]) (by kernel_rfl) (by simp) ?_
      refine AllReadyH.cons rfl (fun KK hK => ?_) ?_
      ·skip
       refine step_append_at (by rfl) _ _ 23 (by rfl) W4.heap.size 48 j0 _ 8 120 Tryd.underlying23 HJ.out.1 HJ.out.2.1 HJ.out.2.2.1 HJ.out.2.2.2 rfl (by decide) (.slice au15 N cu15) N (fl) (by rfl) HRu15.out (some ⟨eu14, 0, none⟩) 1 1 ([.int .i64 0, .slice none 0 0, .slice none 0 0, .int .i64 0, .slice none 0 0, .slice none 0 0, .bool true, .bool false]) (by rfl) (src_one8 HFu15.out (by simp [Value.oneCell'])) (by unfold maxLen; omega) (by omega) HBu15.out.size (fun vu16 u16 h1 h2 h3 => ?_)
       have HRu16 : Hid (u16.ownsRow W4.heap.size 48 8 vu16 T1 (fl ++ [.int .i64 0, .slice none 0 0, .slice none 0 0, .int .i64 0, .slice none 0 0, .slice none 0 0, .bool true, .bool false])) := by
        have h := h1
        rw [hT1b] at h
        exact h
       have HBu16 : Hid (Below W4.heap.size W4 u16) := HBu15.out.grown h2 HBu15.out.size (fun k hk => (own_lt HRu15.out hk).1)
       have HFu16 : Hid (u16.heap[eu14]? = some (.cells (r8v true) 48)) := (h2.block _ (Array.getElem?_eq_some_iff.1 HFu15.out).1 (fun e => HNu15.out e.symm)).trans HFu15.out
       have HNu16 : Hid (vu16.ownBlock ≠ some eu14) := by
        rcases h3 with h3 | h3
        ·rw [h3]; exact HNu15.out
        ·rw [h3]; intro e; have e2 := Option.some.inj e; have := (Array.getElem?_eq_some_iff.1 HFu15.out).1; omega
       obtain ⟨au16, cu16, rfl⟩ := own_sl1 HRu16.out
       refine hK.out _ _ HBu16.out (fun hHeld => ?_)
       clear hK KK h1 h2 h3
       try simp only [Act.put, List.getElem_toArray, List.getElem_cons_succ, List.getElem_cons_zero, List.setIfInBounds_toArray, List.set_cons_zero, List.set_cons_succ]
       refine wpAnyH_take (i := 9) (v := ?_) rfl (by kernel_rfl) (by kernel_rfl) (by kernel_rfl) (fun _ _ _ h => h) (Or.inl ⟨by rfl, ?_⟩) (by assumption) ?_
       rotate_left
       ·intro wS hSw; have e0 := upC hSw e0'; have e1 := upC hSw e1'; clear hSw; go_simp; try with_reducible rfl
       try simp only [Act.put, List.getElem_toArray, List.getElem_cons_succ, List.getElem_cons_zero, List.setIfInBounds_toArray, List.set_cons_zero, List.set_cons_succ]
       refine wpAnyH_ready (rs := [10]) (by kernel_rfl) (by simp) ?_
       refine AllReadyH.cons rfl (fun KK hK => ?_) ?_
       ·skip
        obtain ⟨u17, hu17⟩ : ∃ u, u = u16.alloc (.cells #[.slice none 0 0, .slice none 0 0] 25) := ⟨_, rfl⟩
        obtain ⟨eu17, heu17⟩ : ∃ e, e = u16.heap.size := ⟨_, rfl⟩
        have HBu17 : Hid (Below W4.heap.size W4 u17) := by rw [hu17]; exact HBu16.out.alloc HBu16.out.size _
        have HRu17 : Hid (u17.ownsRow W4.heap.size 48 8 (.slice au16 T1 cu16) T1 (fl ++ [.int .i64 0, .slice none 0 0, .slice none 0 0, .int .i64 0, .slice none 0 0, .slice none 0 0, .bool true, .bool false])) := by rw [hu17]; exact own_later5 HRu16.out ((Below.refl _ u16).alloc (Nat.le_refl _) _)
        have HFu17 : Hid (u17.heap[eu14]? = some (.cells (r8v true) 48)) := by show _ = _; rw [hu17]; exact (((Below.refl _ u16).alloc (Nat.le_refl _) _).block _ (Array.getElem?_eq_some_iff.1 HFu16.out).1).trans HFu16.out
        have HOu17 : Hid (u17.heap[eu17]? = some (.cells #[.slice none 0 0, .slice none 0 0] 25)) := by show _ = _; rw [hu17, heu17]; exact heap_alloc_new u16 _
        have HWu17 : Hid (W4.heap.size ≤ eu17) := by rw [heu17]; exact HBu16.out.size
        go_simp
        try rw [← heu17]
        try rw [← hu17]
        refine hK.out _ _ HBu17.out (fun hHeld => ?_)
        clear hK KK hu17 heu17
        try simp only [Act.put, List.getElem_toArray, List.getElem_cons_succ, List.getElem_cons_zero, List.setIfInBounds_toArray, List.set_cons_zero, List.set_cons_succ]
        refine wpAnyH_ready (rs := [11]) (by kernel_rfl) (by simp) ?_
        refine AllReadyH.cons rfl (fun KK hK => ?_) ?_
        ·skip
         have HFN : Hid (LtS W4 eu17 (.slice ca m cc) (.slice au16 T1 cu16) T1 (fl ++ [.int .i64 0, .slice none 0 0, .slice none 0 0, .int .i64 0, .slice none 0 0, .slice none 0 0, .bool true, .bool false]) ((u17.setCell ⟨eu17, 0, none⟩ (.slice ca m cc)).setCell ⟨eu17, 1, none⟩ (.slice au16 T1 cu16))) := lt_fin HBu17.out HWu17.out HOu17.out HRu17.out
         obtain ⟨⟨z0, z1⟩, z2, z3⟩ := box2 HOu17.out
         go_simp
         refine hK.out _ _ HFN.out.1 (fun hHeld => ?_)
         clear hK KK z0 z1 z2 z3
         try simp only [Act.put, List.getElem_toArray, List.getElem_cons_succ, List.getElem_cons_zero, List.setIfInBounds_toArray, List.set_cons_zero, List.set_cons_succ]
         refine wpAnyH_done (by kernel_rfl) ?_ _
         refine NoPanic.normal ?_
         clear hHeld
         go_wp2_with fail
         go_meet
         exact ⟨eu17, _, _, rfl, HFN.out⟩
        exact AllReadyH.nil
       exact AllReadyH.nil
      refine AllReadyH.cons rfl (fun KK hK => ?_) ?_
      ·skip
       obtain ⟨u19, hu19⟩ : ∃ u, u = u15.alloc (.cells #[.slice none 0 0, .slice none 0 0] 25) := ⟨_, rfl⟩
       obtain ⟨eu19, heu19⟩ : ∃ e, e = u15.heap.size := ⟨_, rfl⟩
       have HBu19 : Hid (Below W4.heap.size W4 u19) := by rw [hu19]; exact HBu15.out.alloc HBu15.out.size _
       have HRu19 : Hid (u19.ownsRow W4.heap.size 48 8 (.slice au15 N cu15) N (fl)) := by rw [hu19]; exact own_later5 HRu15.out ((Below.refl _ u15).alloc (Nat.le_refl _) _)
       have HFu19 : Hid (u19.heap[eu14]? = some (.cells (r8v true) 48)) := by show _ = _; rw [hu19]; exact (((Below.refl _ u15).alloc (Nat.le_refl _) _).block _ (Array.getElem?_eq_some_iff.1 HFu15.out).1).trans HFu15.out
       have HOu19 : Hid (u19.heap[eu19]? = some (.cells #[.slice none 0 0, .slice none 0 0] 25)) := by show _ = _; rw [hu19, heu19]; exact heap_alloc_new u15 _
       have HWu19 : Hid (W4.heap.size ≤ eu19) := by rw [heu19]; exact HBu15.out.size
       go_simp
       try rw [← heu19]
       try rw [← hu19]
       refine hK.out _ _ HBu19.out (fun hHeld => ?_)
       clear hK KK hu19 heu19
       try simp only [Act.put, List.getElem_toArray, List.getElem_cons_succ, List.getElem_cons_zero, List.setIfInBounds_toArray, List.set_cons_zero, List.set_cons_succ]
       refine wpAnyH_ready (rs := [8]) (by kernel_rfl) (by simp) ?_
       refine AllReadyH.cons rfl (fun KK hK => ?_) ?_
       ·skip
        refine step_append_at (by rfl) _ _ 23 (by rfl) W4.heap.size 48 j0 _ 8 120 Tryd.underlying23 HJ.out.1 HJ.out.2.1 HJ.out.2.2.1 HJ.out.2.2.2 rfl (by decide) (.slice au15 N cu15) N (fl) (by rfl) HRu19.out (some ⟨eu14, 0, none⟩) 1 1 ([.int .i64 0, .slice none 0 0, .slice none 0 0, .int .i64 0, .slice none 0 0, .slice none 0 0, .bool true, .bool false]) (by rfl) (src_one8 HFu19.out (by simp [Value.oneCell'])) (by unfold maxLen; omega) (by omega) HBu19.out.size (fun vu20 u20 h1 h2 h3 => ?_)
        have HRu20 : Hid (u20.ownsRow W4.heap.size 48 8 vu20 T1 (fl ++ [.int .i64 0, .slice none 0 0, .slice none 0 0, .int .i64 0, .slice none 0 0, .slice none 0 0, .bool true, .bool false])) := by
         have h := h1
         rw [hT1b] at h
         exact h
        have HBu20 : Hid (Below W4.heap.size W4 u20) := HBu19.out.grown h2 HBu19.out.size (fun k hk => (own_lt HRu19.out hk).1)
        have HOu20 : Hid (u20.heap[eu19]? = some (.cells #[.slice none 0 0, .slice none 0 0] 25)) := (h2.block _ (Array.getElem?_eq_some_iff.1 HOu19.out).1 (fun e => by
         obtain ⟨_, _, cur, hc⟩ := own_lt HRu19.out e.symm
         exact ne_ty hc HOu19.out (by decide) rfl)).trans HOu19.out
        have HFu20 : Hid (u20.heap[eu14]? = some (.cells (r8v true) 48)) := (h2.block _ (Array.getElem?_eq_some_iff.1 HFu19.out).1 (fun e => HNu15.out e.symm)).trans HFu19.out
        have HNu20 : Hid (vu20.ownBlock ≠ some eu14) := by
         rcases h3 with h3 | h3
         ·rw [h3]; exact HNu15.out
         ·rw [h3]; intro e; have e2 := Option.some.inj e; have := (Array.getElem?_eq_some_iff.1 HFu19.out).1; omega
        obtain ⟨au20, cu20, rfl⟩ := own_sl1 HRu20.out
        refine hK.out _ _ HBu20.out (fun hHeld => ?_)
        clear hK KK h1 h2 h3
        try simp only [Act.put, List.getElem_toArray, List.getElem_cons_succ, List.getElem_cons_zero, List.setIfInBounds_toArray, List.set_cons_zero, List.set_cons_succ]
        refine wpAnyH_take (i := 9) (v := ?_) rfl (by kernel_rfl) (by kernel_rfl) (by kernel_rfl) (fun _ _ _ h => h) (Or.inl ⟨by rfl, ?_⟩) (by assumption) ?_
        rotate_left
        ·intro wS hSw; have e0 := upC hSw e0'; have e1 := upC hSw e1'; clear hSw; go_simp; try with_reducible rfl
        try simp only [Act.put, List.getElem_toArray, List.getElem_cons_succ, List.getElem_cons_zero, List.setIfInBounds_toArray, List.set_cons_zero, List.set_cons_succ]
        refine wpAnyH_ready (rs := [11]) (by kernel_rfl) (by simp) ?_
        refine AllReadyH.cons rfl (fun KK hK => ?_) ?_
        ·skip
         have HFN : Hid (LtS W4 eu19 (.slice ca m cc) (.slice au20 T1 cu20) T1 (fl ++ [.int .i64 0, .slice none 0 0, .slice none 0 0, .int .i64 0, .slice none 0 0, .slice none 0 0, .bool true, .bool false]) ((u20.setCell ⟨eu19, 0, none⟩ (.slice ca m cc)).setCell ⟨eu19, 1, none⟩ (.slice au20 T1 cu20))) := lt_fin HBu20.out HWu19.out HOu20.out HRu20.out
         obtain ⟨⟨z0, z1⟩, z2, z3⟩ := box2 HOu20.out
         go_simp
         refine hK.out _ _ HFN.out.1 (fun hHeld => ?_)
         clear hK KK z0 z1 z2 z3
         try simp only [Act.put, List.getElem_toArray, List.getElem_cons_succ, List.getElem_cons_zero, List.setIfInBounds_toArray, List.set_cons_zero, List.set_cons_succ]
         refine wpAnyH_done (by kernel_rfl) ?_ _
         refine NoPanic.normal ?_
         clear hHeld
         go_wp2_with fail
         go_meet
         exact ⟨eu19, _, _, rfl, HFN.out⟩
        exact AllReadyH.nil
       exact AllReadyH.nil
      exact AllReadyH.nil
     refine AllReadyH.cons rfl (fun KK hK => ?_) ?_
     ·skip
      obtain ⟨u22, hu22⟩ : ∃ u, u = u14.alloc (.cells #[.slice none 0 0, .slice none 0 0] 25) := ⟨_, rfl⟩
      obtain ⟨eu22, heu22⟩ : ∃ e, e = u14.heap.size := ⟨_, rfl⟩
      have HBu22 : Hid (Below W4.heap.size W4 u22) := by rw [hu22]; exact HBu14.out.alloc HBu14.out.size _
      have HRu22 : Hid (u22.ownsRow W4.heap.size 48 8 (.slice (some ⟨eu1, 0, none⟩) 0 0) 0 ([])) := by rw [hu22]; exact own_later5 HRu14.out ((Below.refl _ u14).alloc (Nat.le_refl _) _)
      have HFu22 : Hid (u22.heap[eu14]? = some (.cells (r8v true) 48)) := by show _ = _; rw [hu22]; exact (((Below.refl _ u14).alloc (Nat.le_refl _) _).block _ (Array.getElem?_eq_some_iff.1 HFu14.out).1).trans HFu14.out
      have HOu22 : Hid (u22.heap[eu22]? = some (.cells #[.slice none 0 0, .slice none 0 0] 25)) := by show _ = _; rw [hu22, heu22]; exact heap_alloc_new u14 _
      have HWu22 : Hid (W4.heap.size ≤ eu22) := by rw [heu22]; exact HBu14.out.size
      go_simp
      try rw [← heu22]
      try rw [← hu22]
      refine hK.out _ _ HBu22.out (fun hHeld => ?_)
      clear hK KK hu22 heu22
      try simp only [Act.put, List.getElem_toArray, List.getElem_cons_succ, List.getElem_cons_zero, List.setIfInBounds_toArray, List.set_cons_zero, List.set_cons_succ]
      refine wpAnyH_ready (rs := [5]) (by kernel_rfl) (by simp) ?_
      refine AllReadyH.cons rfl (fun KK hK => ?_) ?_
      ·skip
       refine step_append_at (by rfl) _ _ 23 (by rfl) W4.heap.size 48 j0 _ 8 120 Tryd.underlying23 HJ.out.1 HJ.out.2.1 HJ.out.2.2.1 HJ.out.2.2.2 rfl (by decide) (.slice (some ⟨eu1, 0, none⟩) 0 0) 0 ([]) (by rfl) HRu22.out a' N c' (fl) (by rfl) (HSR4.out _ HBu22.out) (by unfold maxLen; omega) (by omega) HBu22.out.size (fun vu23 u23 h1 h2 h3 => ?_)
       have HRu23 : Hid (u23.ownsRow W4.heap.size 48 8 vu23 N (fl)) := by
        have h := h1
        rw [Nat.zero_add, List.nil_append] at h
        exact h
       have HBu23 : Hid (Below W4.heap.size W4 u23) := HBu22.out.grown h2 HBu22.out.size (fun k hk => (own_lt HRu22.out hk).1)
       have HOu23 : Hid (u23.heap[eu22]? = some (.cells #[.slice none 0 0, .slice none 0 0] 25)) := (h2.block _ (Array.getElem?_eq_some_iff.1 HOu22.out).1 (fun e => by
        obtain ⟨_, _, cur, hc⟩ := own_lt HRu22.out e.symm
        exact ne_ty hc HOu22.out (by decide) rfl)).trans HOu22.out
       have HFu23 : Hid (u23.heap[eu14]? = some (.cells (r8v true) 48)) := (h2.block _ (Array.getElem?_eq_some_iff.1 HFu22.out).1 (fun e => HNu14.out e.symm)).trans HFu22.out
       have HNu23 : Hid (vu23.ownBlock ≠ some eu14) := by
        rcases h3 with h3 | h3
        ·rw [h3]; exact HNu14.out
        ·rw [h3]; intro e; have e2 := Option.some.inj e; have := (Array.getElem?_eq_some_iff.1 HFu22.out).1; omega
       obtain ⟨au23, cu23, rfl⟩ := own_sl1 HRu23.out
       refine hK.out _ _ HBu23.out (fun hHeld => ?_)
       clear hK KK h1 h2 h3
       try simp only [Act.put, List.getElem_toArray, List.getElem_cons_succ, List.getElem_cons_zero, List.setIfInBounds_toArray, List.set_cons_zero, List.set_cons_succ]
       refine wpAnyH_ready (rs := [8]) (by kernel_rfl) (by simp) ?_
       refine AllReadyH.cons rfl (fun KK hK => ?_) ?_
       ·skip
        refine step_append_at (by rfl) _ _ 23 (by rfl) W4.heap.size 48 j0 _ 8 120 Tryd.underlying23 HJ.out.1 HJ.out.2.1 HJ.out.2.2.1 HJ.out.2.2.2 rfl (by decide) (.slice au23 N cu23) N (fl) (by rfl) HRu23.out (some ⟨eu14, 0, none⟩) 1 1 ([.int .i64 0, .slice none 0 0, .slice none 0 0, .int .i64 0, .slice none 0 0, .slice none 0 0, .bool true, .bool false]) (by rfl) (src_one8 HFu23.out (by simp [Value.oneCell'])) (by unfold maxLen; omega) (by omega) HBu23.out.size (fun vu24 u24 h1 h2 h3 => ?_)
        have HRu24 : Hid (u24.ownsRow W4.heap.size 48 8 vu24 T1 (fl ++ [.int .i64 0, .slice none 0 0, .slice none 0 0, .int .i64 0, .slice none 0 0, .slice none 0 0, .bool true, .bool false])) := by
         have h := h1
         rw [hT1b] at h
         exact h
        have HBu24 : Hid (Below W4.heap.size W4 u24) := HBu23.out.grown h2 HBu23.out.size (fun k hk => (own_lt HRu23.out hk).1)
        have HOu24 : Hid (u24.heap[eu22]? = some (.cells #[.slice none 0 0, .slice none 0 0] 25)) := (h2.block _ (Array.getElem?_eq_some_iff.1 HOu23.out).1 (fun e => by
         obtain ⟨_, _, cur, hc⟩ := own_lt HRu23.out e.symm
         exact ne_ty hc HOu23.out (by decide) rfl)).trans HOu23.out
        have HFu24 : Hid (u24.heap[eu14]? = some (.cells (r8v true) 48)) := (h2.block _ (Array.getElem?_eq_some_iff.1 HFu23.out).1 (fun e => HNu23.out e.symm)).trans HFu23.out
        have HNu24 : Hid (vu24.ownBlock ≠ some eu14) := by
         rcases h3 with h3 | h3
         ·rw [h3]; exact HNu23.out
         ·rw [h3]; intro e; have e2 := Option.some.inj e; have := (Array.getElem?_eq_some_iff.1 HFu23.out).1; omega
        obtain ⟨au24, cu24, rfl⟩ := own_sl1 HRu24.out
        refine hK.out _ _ HBu24.out (fun hHeld => ?_)
        clear hK KK h1 h2 h3
        try simp only [Act.put, List.getElem_toArray, List.getElem_cons_succ, List.getElem_cons_zero, List.setIfInBounds_toArray, List.set_cons_zero, List.set_cons_succ]
        refine wpAnyH_take (i := 9) (v := ?_) rfl (by kernel_rfl) (by kernel_rfl) (by kernel_rfl) (fun _ _ _ h => h) (Or.inl ⟨by rfl, ?_⟩) (by assumption) ?_
        rotate_left
        ·intro wS hSw; have e0 := upC hSw e0'; have e1 := upC hSw e1'; clear hSw; go_simp; try with_reducible rfl
        try simp only [Act.put, List.getElem_toArray, List.getElem_cons_succ, List.getElem_cons_zero, List.setIfInBounds_toArray, List.set_cons_zero, List.set_cons_succ]
        refine wpAnyH_ready (rs := [11]) (by kernel_rfl) (by simp) ?_
        refine AllReadyH.cons rfl (fun KK hK => ?_) ?_
        ·skip
         have HFN : Hid (LtS W4 eu22 (.slice ca m cc) (.slice au24 T1 cu24) T1 (fl ++ [.int .i64 0, .slice none 0 0, .slice none 0 0, .int .i64 0, .slice none 0 0, .slice none 0 0, .bool true, .bool false]) ((u24.setCell ⟨eu22, 0, none⟩ (.slice ca m cc)).setCell ⟨eu22, 1, none⟩ (.slice au24 T1 cu24))) := lt_fin HBu24.out HWu22.out HOu24.out HRu24.out
         obtain ⟨⟨z0, z1⟩, z2, z3⟩ := box2 HOu24.out
         go_simp
         refine hK.out _ _ HFN.out.1 (fun hHeld => ?_)
         clear hK KK z0 z1 z2 z3
         try simp only [Act.put, List.getElem_toArray, List.getElem_cons_succ, List.getElem_cons_zero, List.setIfInBounds_toArray, List.set_cons_zero, List.set_cons_succ]
         refine wpAnyH_done (by kernel_rfl) ?_ _
         refine NoPanic.normal ?_
         clear hHeld
         go_wp2_with fail
         go_meet
         exact ⟨eu22, _, _, rfl, HFN.out⟩
        exact AllReadyH.nil
       exact AllReadyH.nil
      exact AllReadyH.nil
     exact AllReadyH.nil
    refine AllReadyH.cons rfl (fun KK hK => ?_) ?_
    ·skip
     obtain ⟨u26, hu26⟩ : ∃ u, u = u1.alloc (.cells #[.slice none 0 0, .slice none 0 0] 25) := ⟨_, rfl⟩
     obtain ⟨eu26, heu26⟩ : ∃ e, e = u1.heap.size := ⟨_, rfl⟩
     have HBu26 : Hid (Below W4.heap.size W4 u26) := by rw [hu26]; exact HBu1.out.alloc HBu1.out.size _
     have HRu26 : Hid (u26.ownsRow W4.heap.size 48 8 (.slice (some ⟨eu1, 0, none⟩) 0 0) 0 ([])) := by rw [hu26]; exact own_later5 HRu1.out ((Below.refl _ u1).alloc (Nat.le_refl _) _)
     have HOu26 : Hid (u26.heap[eu26]? = some (.cells #[.slice none 0 0, .slice none 0 0] 25)) := by show _ = _; rw [hu26, heu26]; exact heap_alloc_new u1 _
     have HWu26 : Hid (W4.heap.size ≤ eu26) := by rw [heu26]; exact HBu1.out.size
     go_simp
     try rw [← heu26]
     try rw [← hu26]
     refine hK.out _ _ HBu26.out (fun hHeld => ?_)
     clear hK KK hu26 heu26
     try simp only [Act.put, List.getElem_toArray, List.getElem_cons_succ, List.getElem_cons_zero, List.setIfInBounds_toArray, List.set_cons_zero, List.set_cons_succ]
     refine wpAnyH_ready (rs := [5, 7]) (by kernel_rfl) (by simp) ?_
     refine AllReadyH.cons rfl (fun KK hK => ?_) ?_
     ·skip
      refine step_append_at (by rfl) _ _ 23 (by rfl) W4.heap.size 48 j0 _ 8 120 Tryd.underlying23 HJ.out.1 HJ.out.2.1 HJ.out.2.2.1 HJ.out.2.2.2 rfl (by decide) (.slice (some ⟨eu1, 0, none⟩) 0 0) 0 ([]) (by rfl) HRu26.out a' N c' (fl) (by rfl) (HSR4.out _ HBu26.out) (by unfold maxLen; omega) (by omega) HBu26.out.size (fun vu27 u27 h1 h2 h3 => ?_)
      have HRu27 : Hid (u27.ownsRow W4.heap.size 48 8 vu27 N (fl)) := by
       have h := h1
       rw [Nat.zero_add, List.nil_append] at h
       exact h
      have HBu27 : Hid (Below W4.heap.size W4 u27) := HBu26.out.grown h2 HBu26.out.size (fun k hk => (own_lt HRu26.out hk).1)
      have HOu27 : Hid (u27.heap[eu26]? = some (.cells #[.slice none 0 0, .slice none 0 0] 25)) := (h2.block _ (Array.getElem?_eq_some_iff.1 HOu26.out).1 (fun e => by
       obtain ⟨_, _, cur, hc⟩ := own_lt HRu26.out e.symm
       exact ne_ty hc HOu26.out (by decide) rfl)).trans HOu26.out
      obtain ⟨au27, cu27, rfl⟩ := own_sl1 HRu27.out
      refine hK.out _ _ HBu27.out (fun hHeld => ?_)
      clear hK KK h1 h2 h3
      try simp only [Act.put, List.getElem_toArray, List.getElem_cons_succ, List.getElem_cons_zero, List.setIfInBounds_toArray, List.set_cons_zero, List.set_cons_succ]
      refine wpAnyH_ready (rs := [7]) (by kernel_rfl) (by simp) ?_
      refine AllReadyH.cons rfl (fun KK hK => ?_) ?_
      ·skip
       obtain ⟨u28, hu28⟩ : ∃ u, u = u27.alloc (.cells #[.int .i64 0, .slice none 0 0, .slice none 0 0, .int .i64 0, .slice none 0 0, .slice none 0 0, .bool true, .bool false] 48) := ⟨_, rfl⟩
       obtain ⟨eu28, heu28⟩ : ∃ e, e = u27.heap.size := ⟨_, rfl⟩
       have HBu28 : Hid (Below W4.heap.size W4 u28) := by rw [hu28]; exact HBu27.out.alloc HBu27.out.size _
       have HOu28 : Hid (u28.heap[eu26]? = some (.cells #[.slice none 0 0, .slice none 0 0] 25)) := by show _ = _; rw [hu28]; exact (((Below.refl _ u27).alloc (Nat.le_refl _) _).block _ (Array.getElem?_eq_some_iff.1 HOu27.out).1).trans HOu27.out
       have HRu28 : Hid (u28.ownsRow W4.heap.size 48 8 (.slice au27 N cu27) N (fl)) := by rw [hu28]; exact own_later5 HRu27.out ((Below.refl _ u27).alloc (Nat.le_refl _) _)
       have HFu28 : Hid (u28.heap[eu28]? = some (.cells (r8v true) 48)) := by show _ = _; rw [hu28, heu28]; exact heap_alloc_new u27 _
       have HNu28 : Hid ((Value.slice au27 N cu27).ownBlock ≠ some eu28) := fun e => by have := (own_lt HRu27.out e).2.1; omega
       go_simp
       try rw [← heu28]
       try rw [← hu28]
       refine hK.out _ _ HBu28.out (fun hHeld => ?_)
       clear hK KK hu28 heu28
       try simp only [Act.put, List.getElem_toArray, List.getElem_cons_succ, List.getElem_cons_zero, List.setIfInBounds_toArray, List.set_cons_zero, List.set_cons_succ]
       refine wpAnyH_ready (rs := [8]) (by kernel_rfl) (by simp) ?_
       refine AllReadyH.cons rfl (fun KK hK => ?_) ?_
       ·skip
        refine step_append_at (by rfl) _ _ 23 (by rfl) W4.heap.size 48 j0 _ 8 120 Tryd.underlying23 HJ.out.1 HJ.out.2.1 HJ.out.2.2.1 HJ.out.2.2.2 rfl (by decide) (.slice au27 N cu27) N (fl) (by rfl) HRu28.out (some ⟨eu28, 0, none⟩) 1 1 ([.int .i64 0, .slice none 0 0, .slice none 0 0, .int .i64 0, .slice none 0 0, .slice none 0 0, .bool true, .bool false]) (by rfl) (src_one8 HFu28.out (by simp [Value.oneCell'])) (by unfold maxLen; omega) (by omega) HBu28.out.size (fun vu29 u29 h1 h2 h3 => ?_)
        have HRu29 : Hid (u29.ownsRow W4.heap.size 48 8 vu29 T1 (fl ++ [.int .i64 0, .slice none 0 0, .slice none 0 0, .int .i64 0, .slice none 0 0, .slice none 0 0, .bool true, .bool false])) := by
         have h := h1
         rw [hT1b] at h
         exact h
        have HBu29 : Hid (Below W4.heap.size W4 u29) := HBu28.out.grown h2 HBu28.out.size (fun k hk => (own_lt HRu28.out hk).1)
        have HOu29 : Hid (u29.heap[eu26]? = some (.cells #[.slice none 0 0, .slice none 0 0] 25)) := (h2.block _ (Array.getElem?_eq_some_iff.1 HOu28.out).1 (fun e => by
         obtain ⟨_, _, cur, hc⟩ := own_lt HRu28.out e.symm
         exact ne_ty hc HOu28.out (by decide) rfl)).trans HOu28.out
        have HFu29 : Hid (u29.heap[eu28]? = some (.cells (r8v true) 48)) := (h2.block _ (Array.getElem?_eq_some_iff.1 HFu28.out).1 (fun e => HNu28.out e.symm)).trans HFu28.out
        have HNu29 : Hid (vu29.ownBlock ≠ some eu28) := by
         rcases h3 with h3 | h3
         ·rw [h3]; exact HNu28.out
         ·rw [h3]; intro e; have e2 := Option.some.inj e; have := (Array.getElem?_eq_some_iff.1 HFu28.out).1; omega
        obtain ⟨au29, cu29, rfl⟩ := own_sl1 HRu29.out
        refine hK.out _ _ HBu29.out (fun hHeld => ?_)
        clear hK KK h1 h2 h3
        try simp only [Act.put, List.getElem_toArray, List.getElem_cons_succ, List.getElem_cons_zero, List.setIfInBounds_toArray, List.set_cons_zero, List.set_cons_succ]
        refine wpAnyH_take (i := 9) (v := ?_) rfl (by kernel_rfl) (by kernel_rfl) (by kernel_rfl) (fun _ _ _ h => h) (Or.inl ⟨by rfl, ?_⟩) (by assumption) ?_
        rotate_left
        ·intro wS hSw; have e0 := upC hSw e0'; have e1 := upC hSw e1'; clear hSw; go_simp; try with_reducible rfl
        try simp only [Act.put, List.getElem_toArray, List.getElem_cons_succ, List.getElem_cons_zero, List.setIfInBounds_toArray, List.set_cons_zero, List.set_cons_succ]
        refine wpAnyH_ready (rs := [11]) (by kernel_rfl) (by simp) ?_
        refine AllReadyH.cons rfl (fun KK hK => ?_) ?_
        ·skip
         have HFN : Hid (LtS W4 eu26 (.slice ca m cc) (.slice au29 T1 cu29) T1 (fl ++ [.int .i64 0, .slice none 0 0, .slice none 0 0, .int .i64 0, .slice none 0 0, .slice none 0 0, .bool true, .bool false]) ((u29.setCell ⟨eu26, 0, none⟩ (.slice ca m cc)).setCell ⟨eu26, 1, none⟩ (.slice au29 T1 cu29))) := lt_fin HBu29.out HWu26.out HOu29.out HRu29.out
         obtain ⟨⟨z0, z1⟩, z2, z3⟩ := box2 HOu29.out
         go_simp
         refine hK.out _ _ HFN.out.1 (fun hHeld => ?_)
         clear hK KK z0 z1 z2 z3
         try simp only [Act.put, List.getElem_toArray, List.getElem_cons_succ, List.getElem_cons_zero, List.setIfInBounds_toArray, List.set_cons_zero, List.set_cons_succ]
         refine wpAnyH_done (by kernel_rfl) ?_ _
         refine NoPanic.normal ?_
         clear hHeld
         go_wp2_with fail
         go_meet
         exact ⟨eu26, _, _, rfl, HFN.out⟩
        exact AllReadyH.nil
       exact AllReadyH.nil
      exact AllReadyH.nil
     refine AllReadyH.cons rfl (fun KK hK => ?_) ?_
     ·skip
      obtain ⟨u31, hu31⟩ : ∃ u, u = u26.alloc (.cells #[.int .i64 0, .slice none 0 0, .slice none 0 0, .int .i64 0, .slice none 0 0, .slice none 0 0, .bool true, .bool false] 48) := ⟨_, rfl⟩
      obtain ⟨eu31, heu31⟩ : ∃ e, e = u26.heap.size := ⟨_, rfl⟩
      have HBu31 : Hid (Below W4.heap.size W4 u31) := by rw [hu31]; exact HBu26.out.alloc HBu26.out.size _
      have HOu31 : Hid (u31.heap[eu26]? = some (.cells #[.slice none 0 0, .slice none 0 0] 25)) := by show _ = _; rw [hu31]; exact (((Below.refl _ u26).alloc (Nat.le_refl _) _).block _ (Array.getElem?_eq_some_iff.1 HOu26.out).1).trans HOu26.out
      have HRu31 : Hid (u31.ownsRow W4.heap.size 48 8 (.slice (some ⟨eu1, 0, none⟩) 0 0) 0 ([])) := by rw [hu31]; exact own_later5 HRu26.out ((Below.refl _ u26).alloc (Nat.le_refl _) _)
      have HFu31 : Hid (u31.heap[eu31]? = some (.cells (r8v true) 48)) := by show _ = _; rw [hu31, heu31]; exact heap_alloc_new u26 _
      have HNu31 : Hid ((Value.slice (some ⟨eu1, 0, none⟩) 0 0).ownBlock ≠ some eu31) := fun e => by have := (own_lt HRu26.out e).2.1; omega
      go_simp
      try rw [← heu31]
      try rw [← hu31]
      refine hK.out _ _ HBu31.out (fun hHeld => ?_)
      clear hK KK hu31 heu31
      try simp only [Act.put, List.getElem_toArray, List.getElem_cons_succ, List.getElem_cons_zero, List.setIfInBounds_toArray, List.set_cons_zero, List.set_cons_succ]
      refine wpAnyH_ready (rs := [5]) (by kernel_rfl) (by simp) ?_
      refine AllReadyH.cons rfl (fun KK hK => ?_) ?_
      ·skip
       refine step_append_at (by rfl) _ _ 23 (by rfl) W4.heap.size 48 j0 _ 8 120 Tryd.underlying23 HJ.out.1 HJ.out.2.1 HJ.out.2.2.1 HJ.out.2.2.2 rfl (by decide) (.slice (some ⟨eu1, 0, none⟩) 0 0) 0 ([]) (by rfl) HRu31.out a' N c' (fl) (by rfl) (HSR4.out _ HBu31.out) (by unfold maxLen; omega) (by omega) HBu31.out.size (fun vu32 u32 h1 h2 h3 => ?_)
       have HRu32 : Hid (u32.ownsRow W4.heap.size 48 8 vu32 N (fl)) := by
        have h := h1
        rw [Nat.zero_add, List.nil_append] at h
        exact h
       have HBu32 : Hid (Below W4.heap.size W4 u32) := HBu31.out.grown h2 HBu31.out.size (fun k hk => (own_lt HRu31.out hk).1)
       have HOu32 : Hid (u32.heap[eu26]? = some (.cells #[.slice none 0 0, .slice none 0 0] 25)) := (h2.block _ (Array.getElem?_eq_some_iff.1 HOu31.out).1 (fun e => by
        obtain ⟨_, _, cur, hc⟩ := own_lt HRu31.out e.symm
        exact ne_ty hc HOu31.out (by decide) rfl)).trans HOu31.out
       have HFu32 : Hid (u32.heap[eu31]? = some (.cells (r8v true) 48)) := (h2.block _ (Array.getElem?_eq_some_iff.1 HFu31.out).1 (fun e => HNu31.out e.symm)).trans HFu31.out
       have HNu32 : Hid (vu32.ownBlock ≠ some eu31) := by
        rcases h3 with h3 | h3
        ·rw [h3]; exact HNu31.out
        ·rw [h3]; intro e; have e2 := Option.some.inj e; have := (Array.getElem?_eq_some_iff.1 HFu31.out).1; omega
       obtain ⟨au32, cu32, rfl⟩ := own_sl1 HRu32.out
       refine hK.out _ _ HBu32.out (fun hHeld => ?_)
       clear hK KK h1 h2 h3
       try simp only [Act.put, List.getElem_toArray, List.getElem_cons_succ, List.getElem_cons_zero, List.setIfInBounds_toArray, List.set_cons_zero, List.set_cons_succ]
       refine wpAnyH_ready (rs := [8]) (by kernel_rfl) (by simp) ?_
       refine AllReadyH.cons rfl (fun KK hK => ?_) ?_
       ·skip
        refine step_append_at (by rfl) _ _ 23 (by rfl) W4.heap.size 48 j0 _ 8 120 Tryd.underlying23 HJ.out.1 HJ.out.2.1 HJ.out.2.2.1 HJ.out.2.2.2 rfl (by decide) (.slice au32 N cu32) N (fl) (by rfl) HRu32.out (some ⟨eu31, 0, none⟩) 1 1 ([.int .i64 0, .slice none 0 0, .slice none 0 0, .int .i64 0, .slice none 0 0, .slice none 0 0, .bool true, .bool false]) (by rfl) (src_one8 HFu32.out (by simp [Value.oneCell'])) (by unfold maxLen; omega) (by omega) HBu32.out.size (fun vu33 u33 h1 h2 h3 => ?_)
        have HRu33 : Hid (u33.ownsRow W4.heap.size 48 8 vu33 T1 (fl ++ [.int .i64 0, .slice none 0 0, .slice none 0 0, .int .i64 0, .slice none 0 0, .slice none 0 0, .bool true, .bool false])) := by
         have h := h1
         rw [hT1b] at h
         exact h
        have HBu33 : Hid (Below W4.heap.size W4 u33) := HBu32.out.grown h2 HBu32.out.size (fun k hk => (own_lt HRu32.out hk).1)
        have HOu33 : Hid (u33.heap[eu26]? = some (.cells #[.slice none 0 0, .slice none 0 0] 25)) := (h2.block _ (Array.getElem?_eq_some_iff.1 HOu32.out).1 (fun e => by
         obtain ⟨_, _, cur, hc⟩ := own_lt HRu32.out e.symm
         exact ne_ty hc HOu32.out (by decide) rfl)).trans HOu32.out
        have HFu33 : Hid (u33.heap[eu31]? = some (.cells (r8v true) 48)) := (h2.block _ (Array.getElem?_eq_some_iff.1 HFu32.out).1 (fun e => HNu32.out e.symm)).trans HFu32.out
        have HNu33 : Hid (vu33.ownBlock ≠ some eu31) := by
         rcases h3 with h3 | h3
         ·rw [h3]; exact HNu32.out
         ·rw [h3]; intro e; have e2 := Option.some.inj e; have := (Array.getElem?_eq_some_iff.1 HFu32.out).1; omega
        obtain ⟨au33, cu33, rfl⟩ := own_sl1 HRu33.out
        refine hK.out _ _ HBu33.out (fun hHeld => ?_)
        clear hK KK h1 h2 h3
        try simp only [Act.put, List.getElem_toArray, List.getElem_cons_succ, List.getElem_cons_zero, List.setIfInBounds_toArray, List.set_cons_zero, List.set_cons_succ]
        refine wpAnyH_take (i := 9) (v := ?_) rfl (by kernel_rfl) (by kernel_rfl) (by kernel_rfl) (fun _ _ _ h => h) (Or.inl ⟨by rfl, ?_⟩) (by assumption) ?_
        rotate_left
        ·intro wS hSw; have e0 := upC hSw e0'; have e1 := upC hSw e1'; clear hSw; go_simp; try with_reducible rfl
        try simp only [Act.put, List.getElem_toArray, List.getElem_cons_succ, List.getElem_cons_zero, List.setIfInBounds_toArray, List.set_cons_zero, List.set_cons_succ]
        refine wpAnyH_ready (rs := [11]) (by kernel_rfl) (by simp) ?_
        refine AllReadyH.cons rfl (fun KK hK => ?_) ?_
        ·skip
         have HFN : Hid (LtS W4 eu26 (.slice ca m cc) (.slice au33 T1 cu33) T1 (fl ++ [.int .i64 0, .slice none 0 0, .slice none 0 0, .int .i64 0, .slice none 0 0, .slice none 0 0, .bool true, .bool false]) ((u33.setCell ⟨eu26, 0, none⟩ (.slice ca m cc)).setCell ⟨eu26, 1, none⟩ (.slice au33 T1 cu33))) := lt_fin HBu33.out HWu26.out HOu33.out HRu33.out
         obtain ⟨⟨z0, z1⟩, z2, z3⟩ := box2 HOu33.out
         go_simp
         refine hK.out _ _ HFN.out.1 (fun hHeld => ?_)
         clear hK KK z0 z1 z2 z3
         try simp only [Act.put, List.getElem_toArray, List.getElem_cons_succ, List.getElem_cons_zero, List.setIfInBounds_toArray, List.set_cons_zero, List.set_cons_succ]
         refine wpAnyH_done (by kernel_rfl) ?_ _
         refine NoPanic.normal ?_
         clear hHeld
         go_wp2_with fail
         go_meet
         exact ⟨eu26, _, _, rfl, HFN.out⟩
        exact AllReadyH.nil
       exact AllReadyH.nil
      exact AllReadyH.nil
     exact AllReadyH.nil
    exact AllReadyH.nil
   refine AllReadyH.cons rfl (fun KK hK => ?_) ?_
   ·skip
    obtain ⟨u35, hu35⟩ : ∃ u, u = u0.alloc (.cells #[.int .i64 0, .slice none 0 0, .slice none 0 0, .int .i64 0, .slice none 0 0, .slice none 0 0, .bool true, .bool false] 48) := ⟨_, rfl⟩
    obtain ⟨eu35, heu35⟩ : ∃ e, e = u0.heap.size := ⟨_, rfl⟩
    have HBu35 : Hid (Below W4.heap.size W4 u35) := by rw [hu35]; exact HB0.out.alloc HB0.out.size _
    have HFu35 : Hid (u35.heap[eu35]? = some (.cells (r8v true) 48)) := by show _ = _; rw [hu35, heu35]; exact heap_alloc_new u0 _
    go_simp
    try rw [← heu35]
    try rw [← hu35]
    refine hK.out _ _ HBu35.out (fun hHeld => ?_)
    clear hK KK hu35 heu35
    try simp only [Act.put, List.getElem_toArray, List.getElem_cons_succ, List.getElem_cons_zero, List.setIfInBounds_toArray, List.set_cons_zero, List.set_cons_succ]
    refine wpAnyH_ready (rs := [2, 10]) (by kernel_rfl) (by simp) ?_
    refine AllReadyH.cons rfl (fun KK hK => ?_) ?_
    ·skip
     obtain ⟨u36, hu36⟩ : ∃ u, u = u35.alloc (.cells #[] 48) := ⟨_, rfl⟩
     obtain ⟨eu36, heu36⟩ : ∃ e, e = u35.heap.size := ⟨_, rfl⟩
     have HBu36 : Hid (Below W4.heap.size W4 u36) := by rw [hu36]; exact HBu35.out.alloc HBu35.out.size _
     have HFu36 : Hid (u36.heap[eu35]? = some (.cells (r8v true) 48)) := by show _ = _; rw [hu36]; exact (((Below.refl _ u35).alloc (Nat.le_refl _) _).block _ (Array.getElem?_eq_some_iff.1 HFu35.out).1).trans HFu35.out
     have HRu36 : Hid (u36.ownsRow W4.heap.size 48 8 (.slice (some ⟨eu36, 0, none⟩) 0 0) 0 ([])) := by rw [hu36, heu36]; exact own_nil8 u35 _ HBu35.out.size
     have HNu36 : Hid ((Value.slice (some ⟨eu36, 0, none⟩) 0 0).ownBlock ≠ some eu35) := fun e => by have e2 : eu36 = eu35 := Option.some.inj e; have := (Array.getElem?_eq_some_iff.1 HFu35.out).1; omega
     go_simp
     try rw [← heu36]
     try rw [← hu36]
     refine hK.out _ _ HBu36.out (fun hHeld => ?_)
     clear hK KK hu36 heu36
     try simp only [Act.put, List.getElem_toArray, List.getElem_cons_succ, List.getElem_cons_zero, List.setIfInBounds_toArray, List.set_cons_zero, List.set_cons_succ]
     refine wpAnyH_ready (rs := [5, 10]) (by kernel_rfl) (by simp) ?_
     refine AllReadyH.cons rfl (fun KK hK => ?_) ?_
     ·skip
      refine step_append_at (by rfl) _ _ 23 (by rfl) W4.heap.size 48 j0 _ 8 120 Tryd.underlying23 HJ.out.1 HJ.out.2.1 HJ.out.2.2.1 HJ.out.2.2.2 rfl (by decide) (.slice (some ⟨eu36, 0, none⟩) 0 0) 0 ([]) (by rfl) HRu36.out a' N c' (fl) (by rfl) (HSR4.out _ HBu36.out) (by unfold maxLen; omega) (by omega) HBu36.out.size (fun vu37 u37 h1 h2 h3 => ?_)
      have HRu37 : Hid (u37.ownsRow W4.heap.size 48 8 vu37 N (fl)) := by
       have h := h1
       rw [Nat.zero_add, List.nil_append] at h
       exact h
      have HBu37 : Hid (Below W4.heap.size W4 u37) := HBu36.out.grown h2 HBu36.out.size (fun k hk => (own_lt HRu36.out hk).1)
      have HFu37 : Hid (u37.heap[eu35]? = some (.cells (r8v true) 48)) := (h2.block _ (Array.getElem?_eq_some_iff.1 HFu36.out).1 (fun e => HNu36.out e.symm)).trans HFu36.out
      have HNu37 : Hid (vu37.ownBlock ≠ some eu35) := by
       rcases h3 with h3 | h3
       ·rw [h3]; exact HNu36.out
       ·rw [h3]; intro e; have e2 := Option.some.inj e; have := (Array.getElem?_eq_some_iff.1 HFu36.out).1; omega
      obtain ⟨au37, cu37, rfl⟩ := own_sl1 HRu37.out
      refine hK.out _ _ HBu37.out (fun hHeld => ?_)
      clear hK KK h1 h2 h3
      try simp only [Act.put, List.getElem_toArray, List.getElem_cons_succ, List.getElem_cons_zero, List.setIfInBounds_toArray, List.set_cons_zero, List.set_cons_succ]
      refine wpAnyH_ready (rs := [8, 10]) (by kernel_rfl) (by simp) ?_
      refine AllReadyH.cons rfl (fun KK hK => ?_) ?_
      ·skip
       refine step_append_at (by rfl) _ _ 23 (by rfl) W4.heap.size 48 j0 _ 8 120 Tryd.underlying23 HJ.out.1 HJ.out.2.1 HJ.out.2.2.1 HJ.out.2.2.2 rfl (by decide) (.slice au37 N cu37) N (fl) (by rfl) HRu37.out (some ⟨eu35, 0, none⟩) 1 1 ([.int .i64 0, .slice none 0 0, .slice none 0 0, .int .i64 0, .slice none 0 0, .slice none 0 0, .bool true, .bool false]) (by rfl) (src_one8 HFu37.out (by simp [Value.oneCell'])) (by unfold maxLen; omega) (by omega) HBu37.out.size (fun vu38 u38 h1 h2 h3 => ?_)
       have HRu38 : Hid (u38.ownsRow W4.heap.size 48 8 vu38 T1 (fl ++ [.int .i64 0, .slice none 0 0, .slice none 0 0, .int .i64 0, .slice none 0 0, .slice none 0 0, .bool true, .bool false])) := by
        have h := h1
        rw [hT1b] at h
        exact h
       have HBu38 : Hid (Below W4.heap.size W4 u38) := HBu37.out.grown h2 HBu37.out.size (fun k hk => (own_lt HRu37.out hk).1)
       have HFu38 : Hid (u38.heap[eu35]? = some (.cells (r8v true) 48)) := (h2.block _ (Array.getElem?_eq_some_iff.1 HFu37.out).1 (fun e => HNu37.out e.symm)).trans HFu37.out
       have HNu38 : Hid (vu38.ownBlock ≠ some eu35) := by
        rcases h3 with h3 | h3
        ·rw [h3]; exact HNu37.out
        ·rw [h3]; intro e; have e2 := Option.some.inj e; have := (Array.getElem?_eq_some_iff.1 HFu37.out).1; omega
       obtain ⟨au38, cu38, rfl⟩ := own_sl1 HRu38.out
       refine hK.out _ _ HBu38.out (fun hHeld => ?_)
       clear hK KK h1 h2 h3
       try simp only [Act.put, List.getElem_toArray, List.getElem_cons_succ, List.getElem_cons_zero, List.setIfInBounds_toArray, List.set_cons_zero, List.set_cons_succ]
       refine wpAnyH_take (i := 9) (v := ?_) rfl (by kernel_rfl) (by kernel_rfl) (by kernel_rfl) (fun _ _ _ h => h) (Or.inl ⟨by rfl, ?_⟩) (by assumption) ?_
       rotate_left
       ·intro wS hSw; have e0 := upC hSw e0'; have e1 := upC hSw e1'; clear hSw; go_simp; try with_reducible rfl
       try simp only [Act.put, List.getElem_toArray, List.getElem_cons_succ, List.getElem_cons_zero, List.setIfInBounds_toArray, List.set_cons_zero, List.set_cons_succ]
       refine wpAnyH_ready (rs := [10]) (by kernel_rfl) (by simp) ?_
       refine AllReadyH.cons rfl (fun KK hK => ?_) ?_
       ·skip
        obtain ⟨u39, hu39⟩ : ∃ u, u = u38.alloc (.cells #[.slice none 0 0, .slice none 0 0] 25) := ⟨_, rfl⟩
        obtain ⟨eu39, heu39⟩ : ∃ e, e = u38.heap.size := ⟨_, rfl⟩
        have HBu39 : Hid (Below W4.heap.size W4 u39) := by rw [hu39]; exact HBu38.out.alloc HBu38.out.size _
        have HRu39 : Hid (u39.ownsRow W4.heap.size 48 8 (.slice au38 T1 cu38) T1 (fl ++ [.int .i64 0, .slice none 0 0, .slice none 0 0, .int .i64 0, .slice none 0 0, .slice none 0 0, .bool true, .bool false])) := by rw [hu39]; exact own_later5 HRu38.out ((Below.refl _ u38).alloc (Nat.le_refl _) _)
        have HFu39 : Hid (u39.heap[eu35]? = some (.cells (r8v true) 48)) := by show _ = _; rw [hu39]; exact (((Below.refl _ u38).alloc (Nat.le_refl _) _).block _ (Array.getElem?_eq_some_iff.1 HFu38.out).1).trans HFu38.out
        have HOu39 : Hid (u39.heap[eu39]? = some (.cells #[.slice none 0 0, .slice none 0 0] 25)) := by show _ = _; rw [hu39, heu39]; exact heap_alloc_new u38 _
        have HWu39 : Hid (W4.heap.size ≤ eu39) := by rw [heu39]; exact HBu38.out.size
        go_simp
        try rw [← heu39]
        try rw [← hu39]
        refine hK.out _ _ HBu39.out (fun hHeld => ?_)
        clear hK KK hu39 heu39
        try simp only [Act.put, List.getElem_toArray, List.getElem_cons_succ, List.getElem_cons_zero, List.setIfInBounds_toArray, List.set_cons_zero, List.set_cons_succ]
        refine wpAnyH_ready (rs := [11]) (by kernel_rfl) (by simp) ?_
        refine AllReadyH.cons rfl (fun KK hK => ?_) ?_
        ·skip
         have HFN : Hid (LtS W4 eu39 (.slice ca m cc) (.slice au38 T1 cu38) T1 (fl ++ [.int .i64 0, .slice none 0 0, .slice none 0 0, .int .i64 0, .slice none 0 0, .slice none 0 0, .bool true, .bool false]) ((u39.setCell ⟨eu39, 0, none⟩ (.slice ca m cc)).setCell ⟨eu39, 1, none⟩ (.slice au38 T1 cu38))) := lt_fin HBu39.out HWu39.out HOu39.out HRu39.out
         obtain ⟨⟨z0, z1⟩, z2, z3⟩ := box2 HOu39.out
         go_simp
         refine hK.out _ _ HFN.out.1 (fun hHeld => ?_)
         clear hK KK z0 z1 z2 z3
         try simp only [Act.put, List.getElem_toArray, List.getElem_cons_succ, List.getElem_cons_zero, List.setIfInBounds_toArray, List.set_cons_zero, List.set_cons_succ]
         refine wpAnyH_done (by kernel_rfl) ?_ _
         refine NoPanic.normal ?_
         clear hHeld
         go_wp2_with fail
         go_meet
         exact ⟨eu39, _, _, rfl, HFN.out⟩
        exact AllReadyH.nil
       exact AllReadyH.nil
      refine AllReadyH.cons rfl (fun KK hK => ?_) ?_
      ·skip
       obtain ⟨u41, hu41⟩ : ∃ u, u = u37.alloc (.cells #[.slice none 0 0, .slice none 0 0] 25) := ⟨_, rfl⟩
       obtain ⟨eu41, heu41⟩ : ∃ e, e = u37.heap.size := ⟨_, rfl⟩
       have HBu41 : Hid (Below W4.heap.size W4 u41) := by rw [hu41]; exact HBu37.out.alloc HBu37.out.size _
       have HRu41 : Hid (u41.ownsRow W4.heap.size 48 8 (.slice au37 N cu37) N (fl)) := by rw [hu41]; exact own_later5 HRu37.out ((Below.refl _ u37).alloc (Nat.le_refl _) _)
       have HFu41 : Hid (u41.heap[eu35]? = some (.cells (r8v true) 48)) := by show _ = _; rw [hu41]; exact (((Below.refl _ u37).alloc (Nat.le_refl _) _).block _ (Array.getElem?_eq_some_iff.1 HFu37.out).1).trans HFu37.out
       have HOu41 : Hid (u41.heap[eu41]? = some (.cells #[.slice none 0 0, .slice none 0 0] 25)) := by show _ = _; rw [hu41, heu41]; exact heap_alloc_new u37 _
       have HWu41 : Hid (W4.heap.size ≤ eu41) := by rw [heu41]; exact HBu37.out.size
       go_simp
       try rw [← heu41]
       try rw [← hu41]
       refine hK.out _ _ HBu41.out (fun hHeld => ?_)
       clear hK KK hu41 heu41
       try simp only [Act.put, List.getElem_toArray, List.getElem_cons_succ, List.getElem_cons_zero, List.setIfInBounds_toArray, List.set_cons_zero, List.set_cons_succ]
       refine wpAnyH_ready (rs := [8]) (by kernel_rfl) (by simp) ?_
       refine AllReadyH.cons rfl (fun KK hK => ?_) ?_
       ·skip
        refine step_append_at (by rfl) _ _ 23 (by rfl) W4.heap.size 48 j0 _ 8 120 Tryd.underlying23 HJ.out.1 HJ.out.2.1 HJ.out.2.2.1 HJ.out.2.2.2 rfl (by decide) (.slice au37 N cu37) N (fl) (by rfl) HRu41.out (some ⟨eu35, 0, none⟩) 1 1 ([.int .i64 0, .slice none 0 0, .slice none 0 0, .int .i64 0, .slice none 0 0, .slice none 0 0, .bool true, .bool false]) (by rfl) (src_one8 HFu41.out (by simp [Value.oneCell'])) (by unfold maxLen; omega) (by omega) HBu41.out.size (fun vu42 u42 h1 h2 h3 => ?_)
        have HRu42 : Hid (u42.ownsRow W4.heap.size 48 8 vu42 T1 (fl ++ [.int .i64 0, .slice none 0 0, .slice none 0 0, .int .i64 0, .slice none 0 0, .slice none 0 0, .bool true, .bool false])) := by
         have h := h1
         rw [hT1b] at h
         exact h
        have HBu42 : Hid (Below W4.heap.size W4 u42) := HBu41.out.grown h2 HBu41.out.size (fun k hk => (own_lt HRu41.out hk).1)
        have HOu42 : Hid (u42.heap[eu41]? = some (.cells #[.slice none 0 0, .slice none 0 0] 25)) := (h2.block _ (Array.getElem?_eq_some_iff.1 HOu41.out).1 (fun e => by
         obtain ⟨_, _, cur, hc⟩ := own_lt HRu41.out e.symm
         exact ne_ty hc HOu41.out (by decide) rfl)).trans HOu41.out
        have HFu42 : Hid (u42.heap[eu35]? = some (.cells (r8v true) 48)) := (h2.block _ (Array.getElem?_eq_some_iff.1 HFu41.out).1 (fun e => HNu37.out e.symm)).trans HFu41.out
        have HNu42 : Hid (vu42.ownBlock ≠ some eu35) := by
         rcases h3 with h3 | h3
         ·rw [h3]; exact HNu37.out
         ·rw [h3]; intro e; have e2 := Option.some.inj e; have := (Array.getElem?_eq_some_iff.1 HFu41.out).1; omega
        obtain ⟨au42, cu42, rfl⟩ := own_sl1 HRu42.out
        refine hK.out _ _ HBu42.out (fun hHeld => ?_)
        clear hK KK h1 h2 h3
        try simp only [Act.put, List.getElem_toArray, List.getElem_cons_succ, List.getElem_cons_zero, List.setIfInBounds_toArray, List.set_cons_zero, List.set_cons_succ]
        refine wpAnyH_take (i := 9) (v := ?_) rfl (by kernel_rfl) (by kernel_rfl) (by kernel_rfl) (fun _ _ _ h => h) (Or.inl ⟨by rfl, ?_⟩) (by assumption) ?_
        rotate_left
        ·intro wS hSw; have e0 := upC hSw e0'; have e1 := upC hSw e1'; clear hSw; go_simp; try with_reducible rfl
        try simp only [Act.put, List.getElem_toArray, List.getElem_cons_succ, List.getElem_cons_zero, List.setIfInBounds_toArray, List.set_cons_zero, List.set_cons_succ]
        refine wpAnyH_ready (rs := [11]) (by kernel_rfl) (by simp) ?_
        refine AllReadyH.cons rfl (fun KK hK => ?_) ?_
        ·skip
         have HFN : Hid (LtS W4 eu41 (.slice ca m cc) (.slice au42 T1 cu42) T1 (fl ++ [.int .i64 0, .slice none 0 0, .slice none 0 0, .int .i64 0, .slice none 0 0, .slice none 0 0, .bool true, .bool false]) ((u42.setCell ⟨eu41, 0, none⟩ (.slice ca m cc)).setCell ⟨eu41, 1, none⟩ (.slice au42 T1 cu42))) := lt_fin HBu42.out HWu41.out HOu42.out HRu42.out
         obtain ⟨⟨z0, z1⟩, z2, z3⟩ := box2 HOu42.out
         go_simp
         refine hK.out _ _ HFN.out.1 (fun hHeld => ?_)
         clear hK KK z0 z1 z2 z3
         try simp only [Act.put, List.getElem_toArray, List.getElem_cons_succ, List.getElem_cons_zero, List.setIfInBounds_toArray, List.set_cons_zero, List.set_cons_succ]
         refine wpAnyH_done (by kernel_rfl) ?_ _
         refine NoPanic.normal ?_
         clear hHeld
         go_wp2_with fail
         go_meet
         exact ⟨eu41, _, _, rfl, HFN.out⟩
        exact AllReadyH.nil
       exact AllReadyH.nil
      exact AllReadyH.nil
     refine AllReadyH.cons rfl (fun KK hK => ?_) ?_
     ·skip
      obtain ⟨u44, hu44⟩ : ∃ u, u = u36.alloc (.cells #[.slice none 0 0, .slice none 0 0] 25) := ⟨_, rfl⟩
      obtain ⟨eu44, heu44⟩ : ∃ e, e = u36.heap.size := ⟨_, rfl⟩
      have HBu44 : Hid (Below W4.heap.size W4 u44) := by rw [hu44]; exact HBu36.out.alloc HBu36.out.size _
      have HRu44 : Hid (u44.ownsRow W4.heap.size 48 8 (.slice (some ⟨eu36, 0, none⟩) 0 0) 0 ([])) := by rw [hu44]; exact own_later5 HRu36.out ((Below.refl _ u36).alloc (Nat.le_refl _) _)
      have HFu44 : Hid (u44.heap[eu35]? = some (.cells (r8v true) 48)) := by show _ = _; rw [hu44]; exact (((Below.refl _ u36).alloc (Nat.le_refl _) _).block _ (Array.getElem?_eq_some_iff.1 HFu36.out).1).trans HFu36.out
      have HOu44 : Hid (u44.heap[eu44]? = some (.cells #[.slice none 0 0, .slice none 0 0] 25)) := by show _ = _; rw [hu44, heu44]; exact heap_alloc_new u36 _
      have HWu44 : Hid (W4.heap.size ≤ eu44) := by rw [heu44]; exact HBu36.out.size
      go_simp
      try rw [← heu44]
      try rw [← hu44]
      refine hK.out _ _ HBu44.out (fun hHeld => ?_)
      clear hK KK hu44 heu44
      try simp only [Act.put, List.getElem_toArray, List.getElem_cons_succ, List.getElem_cons_zero, List.setIfInBounds_toArray, List.set_cons_zero, List.set_cons_succ]
      refine wpAnyH_ready (rs := [5]) (by kernel_rfl) (by simp) ?_
      refine AllReadyH.cons rfl (fun KK hK => ?_) ?_
      ·skip
       refine step_append_at (by rfl) _ _ 23 (by rfl) W4.heap.size 48 j0 _ 8 120 Tryd.underlying23 HJ.out.1 HJ.out.2.1 HJ.out.2.2.1 HJ.out.2.2.2 rfl (by decide) (.slice (some ⟨eu36, 0, none⟩) 0 0) 0 ([]) (by rfl) HRu44.out a' N c' (fl) (by rfl) (HSR4.out _ HBu44.out) (by unfold maxLen; omega) (by omega) HBu44.out.size (fun vu45 u45 h1 h2 h3 => ?_)
       have HRu45 : Hid (u45.ownsRow W4.heap.size 48 8 vu45 N (fl)) := by
        have h := h1
        rw [Nat.zero_add, List.nil_append] at h
        exact h
       have HBu45 : Hid (Below W4.heap.size W4 u45) := HBu44.out.grown h2 HBu44.out.size (fun k hk => (own_lt HRu44.out hk).1)
       have HOu45 : Hid (u45.heap[eu44]? = some (.cells #[.slice none 0 0, .slice none 0 0] 25)) := (h2.block _ (Array.getElem?_eq_some_iff.1 HOu44.out).1 (fun e => by
        obtain ⟨_, _, cur, hc⟩ := own_lt HRu44.out e.symm
        exact ne_ty hc HOu44.out (by decide) rfl)).trans HOu44.out
       have HFu45 : Hid (u45.heap[eu35]? = some (.cells (r8v true) 48)) := (h2.block _ (Array.getElem?_eq_some_iff.1 HFu44.out).1 (fun e => HNu36.out e.symm)).trans HFu44.out
       have HNu45 : Hid (vu45.ownBlock ≠ some eu35) := by
        rcases h3 with h3 | h3
        ·rw [h3]; exact HNu36.out
        ·rw [h3]; intro e; have e2 := Option.some.inj e; have := (Array.getElem?_eq_some_iff.1 HFu44.out).1; omega
       obtain ⟨au45, cu45, rfl⟩ := own_sl1 HRu45.out
       refine hK.out _ _ HBu45.out (fun hHeld => ?_)
       clear hK KK h1 h2 h3
       try simp only [Act.put, List.getElem_toArray, List.getElem_cons_succ, List.getElem_cons_zero, List.setIfInBounds_toArray, List.set_cons_zero, List.set_cons_succ]
       refine wpAnyH_ready (rs := [8]) (by kernel_rfl) (by simp) ?_
       refine AllReadyH.cons rfl (fun KK hK => ?_) ?_
       ·skip
        refine step_append_at (by rfl) _ _ 23 (by rfl) W4.heap.size 48 j0 _ 8 120 Tryd.underlying23 HJ.out.1 HJ.out.2.1 HJ.out.2.2.1 HJ.out.2.2.2 rfl (by decide) (.slice au45 N cu45) N (fl) (by rfl) HRu45.out (some ⟨eu35, 0, none⟩) 1 1 ([.int .i64 0, .slice none 0 0, .slice none 0 0, .int .i64 0, .slice none 0 0, .slice none 0 0, .bool true, .bool false]) (by rfl) (src_one8 HFu45.out (by simp [Value.oneCell'])) (by unfold maxLen; omega) (by omega) HBu45.out.size (fun vu46 u46 h1 h2 h3 => ?_)
        have HRu46 : Hid (u46.ownsRow W4.heap.size 48 8 vu46 T1 (fl ++ [.int .i64 0, .slice none 0 0, .slice none 0 0, .int .i64 0, .slice none 0 0, .slice none 0 0, .bool true, .bool false])) := by
         have h := h1
         rw [hT1b] at h
         exact h
        have HBu46 : Hid (Below W4.heap.size W4 u46) := HBu45.out.grown h2 HBu45.out.size (fun k hk => (own_lt HRu45.out hk).1)
        have HOu46 : Hid (u46.heap[eu44]? = some (.cells #[.slice none 0 0, .slice none 0 0] 25)) := (h2.block _ (Array.getElem?_eq_some_iff.1 HOu45.out).1 (fun e => by
         obtain ⟨_, _, cur, hc⟩ := own_lt HRu45.out e.symm
         exact ne_ty hc HOu45.out (by decide) rfl)).trans HOu45.out
        have HFu46 : Hid (u46.heap[eu35]? = some (.cells (r8v true) 48)) := (h2.block _ (Array.getElem?_eq_some_iff.1 HFu45.out).1 (fun e => HNu45.out e.symm)).trans HFu45.out
        have HNu46 : Hid (vu46.ownBlock ≠ some eu35) := by
         rcases h3 with h3 | h3
         ·rw [h3]; exact HNu45.out
         ·rw [h3]; intro e; have e2 := Option.some.inj e; have := (Array.getElem?_eq_some_iff.1 HFu45.out).1; omega
        obtain ⟨au46, cu46, rfl⟩ := own_sl1 HRu46.out
        refine hK.out _ _ HBu46.out (fun hHeld => ?_)
        clear hK KK h1 h2 h3
        try simp only [Act.put, List.getElem_toArray, List.getElem_cons_succ, List.getElem_cons_zero, List.setIfInBounds_toArray, List.set_cons_zero, List.set_cons_succ]
        refine wpAnyH_take (i := 9) (v := ?_) rfl (by kernel_rfl) (by kernel_rfl) (by kernel_rfl) (fun _ _ _ h => h) (Or.inl ⟨by rfl, ?_⟩) (by assumption) ?_
        rotate_left
        ·intro wS hSw; have e0 := upC hSw e0'; have e1 := upC hSw e1'; clear hSw; go_simp; try with_reducible rfl
        try simp only [Act.put, List.getElem_toArray, List.getElem_cons_succ, List.getElem_cons_zero, List.setIfInBounds_toArray, List.set_cons_zero, List.set_cons_succ]
        refine wpAnyH_ready (rs := [11]) (by kernel_rfl) (by simp) ?_
        refine AllReadyH.cons rfl (fun KK hK => ?_) ?_
        ·skip
         have HFN : Hid (LtS W4 eu44 (.slice ca m cc) (.slice au46 T1 cu46) T1 (fl ++ [.int .i64 0, .slice none 0 0, .slice none 0 0, .int .i64 0, .slice none 0 0, .slice none 0 0, .bool true, .bool false]) ((u46.setCell ⟨eu44, 0, none⟩ (.slice ca m cc)).setCell ⟨eu44, 1, none⟩ (.slice au46 T1 cu46))) := lt_fin HBu46.out HWu44.out HOu46.out HRu46.out
         obtain ⟨⟨z0, z1⟩, z2, z3⟩ := box2 HOu46.out
         go_simp
         refine hK.out _ _ HFN.out.1 (fun hHeld => ?_)
         clear hK KK z0 z1 z2 z3
         try simp only [Act.put, List.getElem_toArray, List.getElem_cons_succ, List.getElem_cons_zero, List.setIfInBounds_toArray, List.set_cons_zero, List.set_cons_succ]
         refine wpAnyH_done (by kernel_rfl) ?_ _
         refine NoPanic.normal ?_
         clear hHeld
         go_wp2_with fail
         go_meet
         exact ⟨eu44, _, _, rfl, HFN.out⟩
        exact AllReadyH.nil
       exact AllReadyH.nil
      exact AllReadyH.nil
     exact AllReadyH.nil
    refine AllReadyH.cons rfl (fun KK hK => ?_) ?_
    ·skip
     obtain ⟨u48, hu48⟩ : ∃ u, u = u35.alloc (.cells #[.slice none 0 0, .slice none 0 0] 25) := ⟨_, rfl⟩
     obtain ⟨eu48, heu48⟩ : ∃ e, e = u35.heap.size := ⟨_, rfl⟩
     have HBu48 : Hid (Below W4.heap.size W4 u48) := by rw [hu48]; exact HBu35.out.alloc HBu35.out.size _
     have HFu48 : Hid (u48.heap[eu35]? = some (.cells (r8v true) 48)) := by show _ = _; rw [hu48]; exact (((Below.refl _ u35).alloc (Nat.le_refl _) _).block _ (Array.getElem?_eq_some_iff.1 HFu35.out).1).trans HFu35.out
     have HOu48 : Hid (u48.heap[eu48]? = some (.cells #[.slice none 0 0, .slice none 0 0] 25)) := by show _ = _; rw [hu48, heu48]; exact heap_alloc_new u35 _
     have HWu48 : Hid (W4.heap.size ≤ eu48) := by rw [heu48]; exact HBu35.out.size
     go_simp
     try rw [← heu48]
     try rw [← hu48]
     refine hK.out _ _ HBu48.out (fun hHeld => ?_)
     clear hK KK hu48 heu48
     try simp only [Act.put, List.getElem_toArray, List.getElem_cons_succ, List.getElem_cons_zero, List.setIfInBounds_toArray, List.set_cons_zero, List.set_cons_succ]
     refine wpAnyH_ready (rs := [2]) (by kernel_rfl) (by simp) ?_
     refine AllReadyH.cons rfl (fun KK hK => ?_) ?_
     ·skip
      obtain ⟨u49, hu49⟩ : ∃ u, u = u48.alloc (.cells #[] 48) := ⟨_, rfl⟩
      obtain ⟨eu49, heu49⟩ : ∃ e, e = u48.heap.size := ⟨_, rfl⟩
      have HBu49 : Hid (Below W4.heap.size W4 u49) := by rw [hu49]; exact HBu48.out.alloc HBu48.out.size _
      have HOu49 : Hid (u49.heap[eu48]? = some (.cells #[.slice none 0 0, .slice none 0 0] 25)) := by show _ = _; rw [hu49]; exact (((Below.refl _ u48).alloc (Nat.le_refl _) _).block _ (Array.getElem?_eq_some_iff.1 HOu48.out).1).trans HOu48.out
      have HFu49 : Hid (u49.heap[eu35]? = some (.cells (r8v true) 48)) := by show _ = _; rw [hu49]; exact (((Below.refl _ u48).alloc (Nat.le_refl _) _).block _ (Array.getElem?_eq_some_iff.1 HFu48.out).1).trans HFu48.out
      have HRu49 : Hid (u49.ownsRow W4.heap.size 48 8 (.slice (some ⟨eu49, 0, none⟩) 0 0) 0 ([])) := by rw [hu49, heu49]; exact own_nil8 u48 _ HBu48.out.size
      have HNu49 : Hid ((Value.slice (some ⟨eu49, 0, none⟩) 0 0).ownBlock ≠ some eu35) := fun e => by have e2 : eu49 = eu35 := Option.some.inj e; have := (Array.getElem?_eq_some_iff.1 HFu48.out).1; omega
      go_simp
      try rw [← heu49]
      try rw [← hu49]
      refine hK.out _ _ HBu49.out (fun hHeld => ?_)
      clear hK KK hu49 heu49
      try simp only [Act.put, List.getElem_toArray, List.getElem_cons_succ, List.getElem_cons_zero, List.setIfInBounds_toArray, List.set_cons_zero, List.set_cons_succ]
      refine wpAnyH_ready (rs := [5]) (by kernel_rfl) (by simp) ?_
      refine AllReadyH.cons rfl (fun KK hK => ?_) ?_
      ·skip
       refine step_append_at (by rfl) _ _ 23 (by rfl) W4.heap.size 48 j0 _ 8 120 Tryd.underlying23 HJ.out.1 HJ.out.2.1 HJ.out.2.2.1 HJ.out.2.2.2 rfl (by decide) (.slice (some ⟨eu49, 0, none⟩) 0 0) 0 ([]) (by rfl) HRu49.out a' N c' (fl) (by rfl) (HSR4.out _ HBu49.out) (by unfold maxLen; omega) (by omega) HBu49.out.size (fun vu50 u50 h1 h2 h3 => ?_)
       have HRu50 : Hid (u50.ownsRow W4.heap.size 48 8 vu50 N (fl)) := by
        have h := h1
        rw [Nat.zero_add, List.nil_append] at h
        exact h
       have HBu50 : Hid (Below W4.heap.size W4 u50) := HBu49.out.grown h2 HBu49.out.size (fun k hk => (own_lt HRu49.out hk).1)
       have HOu50 : Hid (u50.heap[eu48]? = some (.cells #[.slice none 0 0, .slice none 0 0] 25)) := (h2.block _ (Array.getElem?_eq_some_iff.1 HOu49.out).1 (fun e => by
        obtain ⟨_, _, cur, hc⟩ := own_lt HRu49.out e.symm
        exact ne_ty hc HOu49.out (by decide) rfl)).trans HOu49.out
       have HFu50 : Hid (u50.heap[eu35]? = some (.cells (r8v true) 48)) := (h2.block _ (Array.getElem?_eq_some_iff.1 HFu49.out).1 (fun e => HNu49.out e.symm)).trans HFu49.out
       have HNu50 : Hid (vu50.ownBlock ≠ some eu35) := by
        rcases h3 with h3 | h3
        ·rw [h3]; exact HNu49.out
        ·rw [h3]; intro e; have e2 := Option.some.inj e; have := (Array.getElem?_eq_some_iff.1 HFu49.out).1; omega
       obtain ⟨au50, cu50, rfl⟩ := own_sl1 HRu50.out
       refine hK.out _ _ HBu50.out (fun hHeld => ?_)
       clear hK KK h1 h2 h3
       try simp only [Act.put, List.getElem_toArray, List.getElem_cons_succ, List.getElem_cons_zero, List.setIfInBounds_toArray, List.set_cons_zero, List.set_cons_succ]
       refine wpAnyH_ready (rs := [8]) (by kernel_rfl) (by simp) ?_
       refine AllReadyH.cons rfl (fun KK hK => ?_) ?_
       ·skip
        refine step_append_at (by rfl) _ _ 23 (by rfl) W4.heap.size 48 j0 _ 8 120 Tryd.underlying23 HJ.out.1 HJ.out.2.1 HJ.out.2.2.1 HJ.out.2.2.2 rfl (by decide) (.slice au50 N cu50) N (fl) (by rfl) HRu50.out (some ⟨eu35, 0, none⟩) 1 1 ([.int .i64 0, .slice none 0 0, .slice none 0 0, .int .i64 0, .slice none 0 0, .slice none 0 0, .bool true, .bool false]) (by rfl) (src_one8 HFu50.out (by simp [Value.oneCell'])) (by unfold maxLen; omega) (by omega) HBu50.out.size (fun vu51 u51 h1 h2 h3 => ?_)
        have HRu51 : Hid (u51.ownsRow W4.heap.size 48 8 vu51 T1 (fl ++ [.int .i64 0, .slice none 0 0, .slice none 0 0, .int .i64 0, .slice none 0 0, .slice none 0 0, .bool true, .bool false])) := by
         have h := h1
         rw [hT1b] at h
         exact h
        have HBu51 : Hid (Below W4.heap.size W4 u51) := HBu50.out.grown h2 HBu50.out.size (fun k hk => (own_lt HRu50.out hk).1)
        have HOu51 : Hid (u51.heap[eu48]? = some (.cells #[.slice none 0 0, .slice none 0 0] 25)) := (h2.block _ (Array.getElem?_eq_some_iff.1 HOu50.out).1 (fun e => by
         obtain ⟨_, _, cur, hc⟩ := own_lt HRu50.out e.symm
         exact ne_ty hc HOu50.out (by decide) rfl)).trans HOu50.out
        have HFu51 : Hid (u51.heap[eu35]? = some (.cells (r8v true) 48)) := (h2.block _ (Array.getElem?_eq_some_iff.1 HFu50.out).1 (fun e => HNu50.out e.symm)).trans HFu50.out
        have HNu51 : Hid (vu51.ownBlock ≠ some eu35) := by
         rcases h3 with h3 | h3
         ·rw [h3]; exact HNu50.out
         ·rw [h3]; intro e; have e2 := Option.some.inj e; have := (Array.getElem?_eq_some_iff.1 HFu50.out).1; omega
        obtain ⟨au51, cu51, rfl⟩ := own_sl1 HRu51.out
        refine hK.out _ _ HBu51.out (fun hHeld => ?_)
        clear hK KK h1 h2 h3
        try simp only [Act.put, List.getElem_toArray, List.getElem_cons_succ, List.getElem_cons_zero, List.setIfInBounds_toArray, List.set_cons_zero, List.set_cons_succ]
        refine wpAnyH_take (i := 9) (v := ?_) rfl (by kernel_rfl) (by kernel_rfl) (by kernel_rfl) (fun _ _ _ h => h) (Or.inl ⟨by rfl, ?_⟩) (by assumption) ?_
        rotate_left
        ·intro wS hSw; have e0 := upC hSw e0'; have e1 := upC hSw e1'; clear hSw; go_simp; try with_reducible rfl
        try simp only [Act.put, List.getElem_toArray, List.getElem_cons_succ, List.getElem_cons_zero, List.setIfInBounds_toArray, List.set_cons_zero, List.set_cons_succ]
        refine wpAnyH_ready (rs := [11]) (by kernel_rfl) (by simp) ?_
        refine AllReadyH.cons rfl (fun KK hK => ?_) ?_
        ·skip
         have HFN : Hid (LtS W4 eu48 (.slice ca m cc) (.slice au51 T1 cu51) T1 (fl ++ [.int .i64 0, .slice none 0 0, .slice none 0 0, .int .i64 0, .slice none 0 0, .slice none 0 0, .bool true, .bool false]) ((u51.setCell ⟨eu48, 0, none⟩ (.slice ca m cc)).setCell ⟨eu48, 1, none⟩ (.slice au51 T1 cu51))) := lt_fin HBu51.out HWu48.out HOu51.out HRu51.out
         obtain ⟨⟨z0, z1⟩, z2, z3⟩ := box2 HOu51.out
         go_simp
         refine hK.out _ _ HFN.out.1 (fun hHeld => ?_)
         clear hK KK z0 z1 z2 z3
         try simp only [Act.put, List.getElem_toArray, List.getElem_cons_succ, List.getElem_cons_zero, List.setIfInBounds_toArray, List.set_cons_zero, List.set_cons_succ]
         refine wpAnyH_done (by kernel_rfl) ?_ _
         refine NoPanic.normal ?_
         clear hHeld
         go_wp2_with fail
         go_meet
         exact ⟨eu48, _, _, rfl, HFN.out⟩
        exact AllReadyH.nil
       exact AllReadyH.nil
      exact AllReadyH.nil
     exact AllReadyH.nil
    exact AllReadyH.nil
   refine AllReadyH.cons rfl (fun KK hK => ?_) ?_
   ·skip
    obtain ⟨u53, hu53⟩ : ∃ u, u = u0.alloc (.cells #[.slice none 0 0, .slice none 0 0] 25) := ⟨_, rfl⟩
    obtain ⟨eu53, heu53⟩ : ∃ e, e = u0.heap.size := ⟨_, rfl⟩
    have HBu53 : Hid (Below W4.heap.size W4 u53) := by rw [hu53]; exact HB0.out.alloc HB0.out.size _
    have HOu53 : Hid (u53.heap[eu53]? = some (.cells #[.slice none 0 0, .slice none 0 0] 25)) := by show _ = _; rw [hu53, heu53]; exact heap_alloc_new u0 _
    have HWu53 : Hid (W4.heap.size ≤ eu53) := by rw [heu53]; exact HB0.out.size
    go_simp
    try rw [← heu53]
    try rw [← hu53]
    refine hK.out _ _ HBu53.out (fun hHeld => ?_)
    clear hK KK hu53 heu53
    try simp only [Act.put, List.getElem_toArray, List.getElem_cons_succ, List.getElem_cons_zero, List.setIfInBounds_toArray, List.set_cons_zero, List.set_cons_succ]
    refine wpAnyH_ready (rs := [2, 7]) (by kernel_rfl) (by simp) ?_
    refine AllReadyH.cons rfl (fun KK hK => ?_) ?_
    ·skip
     obtain ⟨u54, hu54⟩ : ∃ u, u = u53.alloc (.cells #[] 48) := ⟨_, rfl⟩
     obtain ⟨eu54, heu54⟩ : ∃ e, e = u53.heap.size := ⟨_, rfl⟩
     have HBu54 : Hid (Below W4.heap.size W4 u54) := by rw [hu54]; exact HBu53.out.alloc HBu53.out.size _
     have HOu54 : Hid (u54.heap[eu53]? = some (.cells #[.slice none 0 0, .slice none 0 0] 25)) := by show _ = _; rw [hu54]; exact (((Below.refl _ u53).alloc (Nat.le_refl _) _).block _ (Array.getElem?_eq_some_iff.1 HOu53.out).1).trans HOu53.out
     have HRu54 : Hid (u54.ownsRow W4.heap.size 48 8 (.slice (some ⟨eu54, 0, none⟩) 0 0) 0 ([])) := by rw [hu54, heu54]; exact own_nil8 u53 _ HBu53.out.size
     go_simp
     try rw [← heu54]
     try rw [← hu54]
     refine hK.out _ _ HBu54.out (fun hHeld => ?_)
     clear hK KK hu54 heu54
     try simp only [Act.put, List.getElem_toArray, List.getElem_cons_succ, List.getElem_cons_zero, List.setIfInBounds_toArray, List.set_cons_zero, List.set_cons_succ]
     refine wpAnyH_ready (rs := [5, 7]) (by kernel_rfl) (by simp) ?_
     refine AllReadyH.cons rfl (fun KK hK => ?_) ?_
     ·skip
      refine step_append_at (by rfl) _ _ 23 (by rfl) W4.heap.size 48 j0 _ 8 120 Tryd.underlying23 HJ.out.1 HJ.out.2.1 HJ.out.2.2.1 HJ.out.2.2.2 rfl (by decide) (.slice (some ⟨eu54, 0, none⟩) 0 0) 0 ([]) (by rfl) HRu54.out a' N c' (fl) (by rfl) (HSR4.out _ HBu54.out) (by unfold maxLen; omega) (by omega) HBu54.out.size (fun vu55 u55 h1 h2 h3 => ?_)
      have HRu55 : Hid (u55.ownsRow W4.heap.size 48 8 vu55 N (fl)) := by
       have h := h1
       rw [Nat.zero_add, List.nil_append] at h
       exact h
      have HBu55 : Hid (Below W4.heap.size W4 u55) := HBu54.out.grown h2 HBu54.out.size (fun k hk => (own_lt HRu54.out hk).1)
      have HOu55 : Hid (u55.heap[eu53]? = some (.cells #[.slice none 0 0, .slice none 0 0] 25)) := (h2.block _ (Array.getElem?_eq_some_iff.1 HOu54.out).1 (fun e => by
       obtain ⟨_, _, cur, hc⟩ := own_lt HRu54.out e.symm
       exact ne_ty hc HOu54.out (by decide) rfl)).trans HOu54.out
      obtain ⟨au55, cu55, rfl⟩ := own_sl1 HRu55.out
      refine hK.out _ _ HBu55.out (fun hHeld => ?_)
      clear hK KK h1 h2 h3
      try simp only [Act.put, List.getElem_toArray, List.getElem_cons_succ, List.getElem_cons_zero, List.setIfInBounds_toArray, List.set_cons_zero, List.set_cons_succ]
      refine wpAnyH_ready (rs := [7]) (by kernel_rfl) (by simp) ?_
      refine AllReadyH.cons rfl (fun KK hK => ?_) ?_
      ·skip
       obtain ⟨u56, hu56⟩ : ∃ u, u = u55.alloc (.cells #[.int .i64 0, .slice none 0 0, .slice none 0 0, .int .i64 0, .slice none 0 0, .slice none 0 0, .bool true, .bool false] 48) := ⟨_, rfl⟩
       obtain ⟨eu56, heu56⟩ : ∃ e, e = u55.heap.size := ⟨_, rfl⟩
       have HBu56 : Hid (Below W4.heap.size W4 u56) := by rw [hu56]; exact HBu55.out.alloc HBu55.out.size _
       have HOu56 : Hid (u56.heap[eu53]? = some (.cells #[.slice none 0 0, .slice none 0 0] 25)) := by show _ = _; rw [hu56]; exact (((Below.refl _ u55).alloc (Nat.le_refl _) _).block _ (Array.getElem?_eq_some_iff.1 HOu55.out).1).trans HOu55.out
       have HRu56 : Hid (u56.ownsRow W4.heap.size 48 8 (.slice au55 N cu55) N (fl)) := by rw [hu56]; exact own_later5 HRu55.out ((Below.refl _ u55).alloc (Nat.le_refl _) _)
       have HFu56 : Hid (u56.heap[eu56]? = some (.cells (r8v true) 48)) := by show _ = _; rw [hu56, heu56]; exact heap_alloc_new u55 _
       have HNu56 : Hid ((Value.slice au55 N cu55).ownBlock ≠ some eu56) := fun e => by have := (own_lt HRu55.out e).2.1; omega
       go_simp
       try rw [← heu56]
       try rw [← hu56]
       refine hK.out _ _ HBu56.out (fun hHeld => ?_)
       clear hK KK hu56 heu56
       try simp only [Act.put, List.getElem_toArray, List.getElem_cons_succ, List.getElem_cons_zero, List.setIfInBounds_toArray, List.set_cons_zero, List.set_cons_succ]
       refine wpAnyH_ready (rs := [8]) (by kernel_rfl) (by simp) ?_
       refine AllReadyH.cons rfl (fun KK hK => ?_) ?_
       ·skip
        refine step_append_at (by rfl) _ _ 23 (by rfl) W4.heap.size 48 j0 _ 8 120 Tryd.underlying23 HJ.out.1 HJ.out.2.1 HJ.out.2.2.1 HJ.out.2.2.2 rfl (by decide) (.slice au55 N cu55) N (fl) (by rfl) HRu56.out (some ⟨eu56, 0, none⟩) 1 1 ([.int .i64 0, .slice none 0 0, .slice none 0 0, .int .i64 0, .slice none 0 0, .slice none 0 0, .bool true, .bool false]) (by rfl) (src_one8 HFu56.out (by simp [Value.oneCell'])) (by unfold maxLen; omega) (by omega) HBu56.out.size (fun vu57 u57 h1 h2 h3 => ?_)
        have HRu57 : Hid (u57.ownsRow W4.heap.size 48 8 vu57 T1 (fl ++ [.int .i64 0, .slice none 0 0, .slice none 0 0, .int .i64 0, .slice none 0 0, .slice none 0 0, .bool true, .bool false])) := by
         have h := h1
         rw [hT1b] at h
         exact h
        have HBu57 : Hid (Below W4.heap.size W4 u57) := HBu56.out.grown h2 HBu56.out.size (fun k hk => (own_lt HRu56.out hk).1)
        have HOu57 : Hid (u57.heap[eu53]? = some (.cells #[.slice none 0 0, .slice none 0 0] 25)) := (h2.block _ (Array.getElem?_eq_some_iff.1 HOu56.out).1 (fun e => by
         obtain ⟨_, _, cur, hc⟩ := own_lt HRu56.out e.symm
         exact ne_ty hc HOu56.out (by decide) rfl)).trans HOu56.out
        have HFu57 : Hid (u57.heap[eu56]? = some (.cells (r8v true) 48)) := (h2.block _ (Array.getElem?_eq_some_iff.1 HFu56.out).1 (fun e => HNu56.out e.symm)).trans HFu56.out
        have HNu57 : Hid (vu57.ownBlock ≠ some eu56) := by
         rcases h3 with h3 | h3
         ·rw [h3]; exact HNu56.out
         ·rw [h3]; intro e; have e2 := Option.some.inj e; have := (Array.getElem?_eq_some_iff.1 HFu56.out).1; omega
        obtain ⟨au57, cu57, rfl⟩ := own_sl1 HRu57.out
        refine hK.out _ _ HBu57.out (fun hHeld => ?_)
        clear hK KK h1 h2 h3
        try simp only [Act.put, List.getElem_toArray, List.getElem_cons_succ, List.getElem_cons_zero, List.setIfInBounds_toArray, List.set_cons_zero, List.set_cons_succ]
        refine wpAnyH_take (i := 9) (v := ?_) rfl (by kernel_rfl) (by kernel_rfl) (by kernel_rfl) (fun _ _ _ h => h) (Or.inl ⟨by rfl, ?_⟩) (by assumption) ?_
        rotate_left
        ·intro wS hSw; have e0 := upC hSw e0'; have e1 := upC hSw e1'; clear hSw; go_simp; try with_reducible rfl
        try simp only [Act.put, List.getElem_toArray, List.getElem_cons_succ, List.getElem_cons_zero, List.setIfInBounds_toArray, List.set_cons_zero, List.set_cons_succ]
        refine wpAnyH_ready (rs := [11]) (by kernel_rfl) (by simp) ?_
        refine AllReadyH.cons rfl (fun KK hK => ?_) ?_
        ·skip
         have HFN : Hid (LtS W4 eu53 (.slice ca m cc) (.slice au57 T1 cu57) T1 (fl ++ [.int .i64 0, .slice none 0 0, .slice none 0 0, .int .i64 0, .slice none 0 0, .slice none 0 0, .bool true, .bool false]) ((u57.setCell ⟨eu53, 0, none⟩ (.slice ca m cc)).setCell ⟨eu53, 1, none⟩ (.slice au57 T1 cu57))) := lt_fin HBu57.out HWu53.out HOu57.out HRu57.out
         obtain ⟨⟨z0, z1⟩, z2, z3⟩ := box2 HOu57.out
         go_simp
         refine hK.out _ _ HFN.out.1 (fun hHeld => ?_)
         clear hK KK z0 z1 z2 z3
         try simp only [Act.put, List.getElem_toArray, List.getElem_cons_succ, List.getElem_cons_zero, List.setIfInBounds_toArray, List.set_cons_zero, List.set_cons_succ]
         refine wpAnyH_done (by kernel_rfl) ?_ _
         refine NoPanic.normal ?_
         clear hHeld
         go_wp2_with fail
         go_meet
         exact ⟨eu53, _, _, rfl, HFN.out⟩
        exact AllReadyH.nil
       exact AllReadyH.nil
      exact AllReadyH.nil
     refine AllReadyH.cons rfl (fun KK hK => ?_) ?_
     ·skip
      obtain ⟨u59, hu59⟩ : ∃ u, u = u54.alloc (.cells #[.int .i64 0, .slice none 0 0, .slice none 0 0, .int .i64 0, .slice none 0 0, .slice none 0 0, .bool true, .bool false] 48) := ⟨_, rfl⟩
      obtain ⟨eu59, heu59⟩ : ∃ e, e = u54.heap.size := ⟨_, rfl⟩
      have HBu59 : Hid (Below W4.heap.size W4 u59) := by rw [hu59]; exact HBu54.out.alloc HBu54.out.size _
      have HOu59 : Hid (u59.heap[eu53]? = some (.cells #[.slice none 0 0, .slice none 0 0] 25)) := by show _ = _; rw [hu59]; exact (((Below.refl _ u54).alloc (Nat.le_refl _) _).block _ (Array.getElem?_eq_some_iff.1 HOu54.out).1).trans HOu54.out
      have HRu59 : Hid (u59.ownsRow W4.heap.size 48 8 (.slice (some ⟨eu54, 0, none⟩) 0 0) 0 ([])) := by rw [hu59]; exact own_later5 HRu54.out ((Below.refl _ u54).alloc (Nat.le_refl _) _)
      have HFu59 : Hid (u59.heap[eu59]? = some (.cells (r8v true) 48)) := by show _ = _; rw [hu59, heu59]; exact heap_alloc_new u54 _
      have HNu59 : Hid ((Value.slice (some ⟨eu54, 0, none⟩) 0 0).ownBlock ≠ some eu59) := fun e => by have := (own_lt HRu54.out e).2.1; omega
      go_simp
      try rw [← heu59]
      try rw [← hu59]
      refine hK.out _ _ HBu59.out (fun hHeld => ?_)
      clear hK KK hu59 heu59
      try simp only [Act.put, List.getElem_toArray, List.getElem_cons_succ, List.getElem_cons_zero, List.setIfInBounds_toArray, List.set_cons_zero, List.set_cons_succ]
      refine wpAnyH_ready (rs := [5]) (by kernel_rfl) (by simp) ?_
      refine AllReadyH.cons rfl (fun KK hK => ?_) ?_
      ·skip
       refine step_append_at (by rfl) _ _ 23 (by rfl) W4.heap.size 48 j0 _ 8 120 Tryd.underlying23 HJ.out.1 HJ.out.2.1 HJ.out.2.2.1 HJ.out.2.2.2 rfl (by decide) (.slice (some ⟨eu54, 0, none⟩) 0 0) 0 ([]) (by rfl) HRu59.out a' N c' (fl) (by rfl) (HSR4.out _ HBu59.out) (by unfold maxLen; omega) (by omega) HBu59.out.size (fun vu60 u60 h1 h2 h3 => ?_)
       have HRu60 : Hid (u60.ownsRow W4.heap.size 48 8 vu60 N (fl)) := by
        have h := h1
        rw [Nat.zero_add, List.nil_append] at h
        exact h
       have HBu60 : Hid (Below W4.heap.size W4 u60) := HBu59.out.grown h2 HBu59.out.size (fun k hk => (own_lt HRu59.out hk).1)
       have HOu60 : Hid (u60.heap[eu53]? = some (.cells #[.slice none 0 0, .slice none 0 0] 25)) := (h2.block _ (Array.getElem?_eq_some_iff.1 HOu59.out).1 (fun e => by
        obtain ⟨_, _, cur, hc⟩ := own_lt HRu59.out e.symm
        exact ne_ty hc HOu59.out (by decide) rfl)).trans HOu59.out
       have HFu60 : Hid (u60.heap[eu59]? = some (.cells (r8v true) 48)) := (h2.block _ (Array.getElem?_eq_some_iff.1 HFu59.out).1 (fun e => HNu59.out e.symm)).trans HFu59.out
       have HNu60 : Hid (vu60.ownBlock ≠ some eu59) := by
        rcases h3 with h3 | h3
        ·rw [h3]; exact HNu59.out
        ·rw [h3]; intro e; have e2 := Option.some.inj e; have := (Array.getElem?_eq_some_iff.1 HFu59.out).1; omega
       obtain ⟨au60, cu60, rfl⟩ := own_sl1 HRu60.out
       refine hK.out _ _ HBu60.out (fun hHeld => ?_)
       clear hK KK h1 h2 h3
       try simp only [Act.put, List.getElem_toArray, List.getElem_cons_succ, List.getElem_cons_zero, List.setIfInBounds_toArray, List.set_cons_zero, List.set_cons_succ]
       refine wpAnyH_ready (rs := [8]) (by kernel_rfl) (by simp) ?_
       refine AllReadyH.cons rfl (fun KK hK => ?_) ?_
       ·skip
        refine step_append_at (by rfl) _ _ 23 (by rfl) W4.heap.size 48 j0 _ 8 120 Tryd.underlying23 HJ.out.1 HJ.out.2.1 HJ.out.2.2.1 HJ.out.2.2.2 rfl (by decide) (.slice au60 N cu60) N (fl) (by rfl) HRu60.out (some ⟨eu59, 0, none⟩) 1 1 ([.int .i64 0, .slice none 0 0, .slice none 0 0, .int .i64 0, .slice none 0 0, .slice none 0 0, .bool true, .bool false]) (by rfl) (src_one8 HFu60.out (by simp [Value.oneCell'])) (by unfold maxLen; omega) (by omega) HBu60.out.size (fun vu61 u61 h1 h2 h3 => ?_)
        have HRu61 : Hid (u61.ownsRow W4.heap.size 48 8 vu61 T1 (fl ++ [.int .i64 0, .slice none 0 0, .slice none 0 0, .int .i64 0, .slice none 0 0, .slice none 0 0, .bool true, .bool false])) := by
         have h := h1
         rw [hT1b] at h
         exact h
        have HBu61 : Hid (Below W4.heap.size W4 u61) := HBu60.out.grown h2 HBu60.out.size (fun k hk => (own_lt HRu60.out hk).1)
        have HOu61 : Hid (u61.heap[eu53]? = some (.cells #[.slice none 0 0, .slice none 0 0] 25)) := (h2.block _ (Array.getElem?_eq_some_iff.1 HOu60.out).1 (fun e => by
         obtain ⟨_, _, cur, hc⟩ := own_lt HRu60.out e.symm
         exact ne_ty hc HOu60.out (by decide) rfl)).trans HOu60.out
        have HFu61 : Hid (u61.heap[eu59]? = some (.cells (r8v true) 48)) := (h2.block _ (Array.getElem?_eq_some_iff.1 HFu60.out).1 (fun e => HNu60.out e.symm)).trans HFu60.out
        have HNu61 : Hid (vu61.ownBlock ≠ some eu59) := by
         rcases h3 with h3 | h3
         ·rw [h3]; exact HNu60.out
         ·rw [h3]; intro e; have e2 := Option.some.inj e; have := (Array.getElem?_eq_some_iff.1 HFu60.out).1; omega
        obtain ⟨au61, cu61, rfl⟩ := own_sl1 HRu61.out
        refine hK.out _ _ HBu61.out (fun hHeld => ?_)
        clear hK KK h1 h2 h3
        try simp only [Act.put, List.getElem_toArray, List.getElem_cons_succ, List.getElem_cons_zero, List.setIfInBounds_toArray, List.set_cons_zero, List.set_cons_succ]
        refine wpAnyH_take (i := 9) (v := ?_) rfl (by kernel_rfl) (by kernel_rfl) (by kernel_rfl) (fun _ _ _ h => h) (Or.inl ⟨by rfl, ?_⟩) (by assumption) ?_
        rotate_left
        ·intro wS hSw; have e0 := upC hSw e0'; have e1 := upC hSw e1'; clear hSw; go_simp; try with_reducible rfl
        try simp only [Act.put, List.getElem_toArray, List.getElem_cons_succ, List.getElem_cons_zero, List.setIfInBounds_toArray, List.set_cons_zero, List.set_cons_succ]
        refine wpAnyH_ready (rs := [11]) (by kernel_rfl) (by simp) ?_
        refine AllReadyH.cons rfl (fun KK hK => ?_) ?_
        ·skip
         have HFN : Hid (LtS W4 eu53 (.slice ca m cc) (.slice au61 T1 cu61) T1 (fl ++ [.int .i64 0, .slice none 0 0, .slice none 0 0, .int .i64 0, .slice none 0 0, .slice none 0 0, .bool true, .bool false]) ((u61.setCell ⟨eu53, 0, none⟩ (.slice ca m cc)).setCell ⟨eu53, 1, none⟩ (.slice au61 T1 cu61))) := lt_fin HBu61.out HWu53.out HOu61.out HRu61.out
         obtain ⟨⟨z0, z1⟩, z2, z3⟩ := box2 HOu61.out
         go_simp
         refine hK.out _ _ HFN.out.1 (fun hHeld => ?_)
         clear hK KK z0 z1 z2 z3
         try simp only [Act.put, List.getElem_toArray, List.getElem_cons_succ, List.getElem_cons_zero, List.setIfInBounds_toArray, List.set_cons_zero, List.set_cons_succ]
         refine wpAnyH_done (by kernel_rfl) ?_ _
         refine NoPanic.normal ?_
         clear hHeld
         go_wp2_with fail
         go_meet
         exact ⟨eu53, _, _, rfl, HFN.out⟩
        exact AllReadyH.nil
       exact AllReadyH.nil
      exact AllReadyH.nil
     exact AllReadyH.nil
    refine AllReadyH.cons rfl (fun KK hK => ?_) ?_
    ·skip
     obtain ⟨u63, hu63⟩ : ∃ u, u = u53.alloc (.cells #[.int .i64 0, .slice none 0 0, .slice none 0 0, .int .i64 0, .slice none 0 0, .slice none 0 0, .bool true, .bool false] 48) := ⟨_, rfl⟩
     obtain ⟨eu63, heu63⟩ : ∃ e, e = u53.heap.size := ⟨_, rfl⟩
     have HBu63 : Hid (Below W4.heap.size W4 u63) := by rw [hu63]; exact HBu53.out.alloc HBu53.out.size _
     have HOu63 : Hid (u63.heap[eu53]? = some (.cells #[.slice none 0 0, .slice none 0 0] 25)) := by show _ = _; rw [hu63]; exact (((Below.refl _ u53).alloc (Nat.le_refl _) _).block _ (Array.getElem?_eq_some_iff.1 HOu53.out).1).trans HOu53.out
     have HFu63 : Hid (u63.heap[eu63]? = some (.cells (r8v true) 48)) := by show _ = _; rw [hu63, heu63]; exact heap_alloc_new u53 _
     go_simp
     try rw [← heu63]
     try rw [← hu63]
     refine hK.out _ _ HBu63.out (fun hHeld => ?_)
     clear hK KK hu63 heu63
     try simp only [Act.put, List.getElem_toArray, List.getElem_cons_succ, List.getElem_cons_zero, List.setIfInBounds_toArray, List.set_cons_zero, List.set_cons_succ]
     refine wpAnyH_ready (rs := [2]) (by kernel_rfl) (by simp) ?_
     refine AllReadyH.cons rfl (fun KK hK => ?_) ?_
     ·skip
      obtain ⟨u64, hu64⟩ : ∃ u, u = u63.alloc (.cells #[] 48) := ⟨_, rfl⟩
      obtain ⟨eu64, heu64⟩ : ∃ e, e = u63.heap.size := ⟨_, rfl⟩
      have HBu64 : Hid (Below W4.heap.size W4 u64) := by rw [hu64]; exact HBu63.out.alloc HBu63.out.size _
      have HOu64 : Hid (u64.heap[eu53]? = some (.cells #[.slice none 0 0, .slice none 0 0] 25)) := by show _ = _; rw [hu64]; exact (((Below.refl _ u63).alloc (Nat.le_refl _) _).block _ (Array.getElem?_eq_some_iff.1 HOu63.out).1).trans HOu63.out
      have HFu64 : Hid (u64.heap[eu63]? = some (.cells (r8v true) 48)) := by show _ = _; rw [hu64]; exact (((Below.refl _ u63).alloc (Nat.le_refl _) _).block _ (Array.getElem?_eq_some_iff.1 HFu63.out).1).trans HFu63.out
      have HRu64 : Hid (u64.ownsRow W4.heap.size 48 8 (.slice (some ⟨eu64, 0, none⟩) 0 0) 0 ([])) := by rw [hu64, heu64]; exact own_nil8 u63 _ HBu63.out.size
      have HNu64 : Hid ((Value.slice (some ⟨eu64, 0, none⟩) 0 0).ownBlock ≠ some eu63) := fun e => by have e2 : eu64 = eu63 := Option.some.inj e; have := (Array.getElem?_eq_some_iff.1 HFu63.out).1; omega
      go_simp
      try rw [← heu64]
      try rw [← hu64]
      refine hK.out _ _ HBu64.out (fun hHeld => ?_)
      clear hK KK hu64 heu64
      try simp only [Act.put, List.getElem_toArray, List.getElem_cons_succ, List.getElem_cons_zero, List.setIfInBounds_toArray, List.set_cons_zero, List.set_cons_succ]
      refine wpAnyH_ready (rs := [5]) (by kernel_rfl) (by simp) ?_
      refine AllReadyH.cons rfl (fun KK hK => ?_) ?_
      ·skip
       refine step_append_at (by rfl) _ _ 23 (by rfl) W4.heap.size 48 j0 _ 8 120 Tryd.underlying23 HJ.out.1 HJ.out.2.1 HJ.out.2.2.1 HJ.out.2.2.2 rfl (by decide) (.slice (some ⟨eu64, 0, none⟩) 0 0) 0 ([]) (by rfl) HRu64.out a' N c' (fl) (by rfl) (HSR4.out _ HBu64.out) (by unfold maxLen; omega) (by omega) HBu64.out.size (fun vu65 u65 h1 h2 h3 => ?_)
       have HRu65 : Hid (u65.ownsRow W4.heap.size 48 8 vu65 N (fl)) := by
        have h := h1
        rw [Nat.zero_add, List.nil_append] at h
        exact h
       have HBu65 : Hid (Below W4.heap.size W4 u65) := HBu64.out.grown h2 HBu64.out.size (fun k hk => (own_lt HRu64.out hk).1)
       have HOu65 : Hid (u65.heap[eu53]? = some (.cells #[.slice none 0 0, .slice none 0 0] 25)) := (h2.block _ (Array.getElem?_eq_some_iff.1 HOu64.out).1 (fun e => by
        obtain ⟨_, _, cur, hc⟩ := own_lt HRu64.out e.symm
        exact ne_ty hc HOu64.out (by decide) rfl)).trans HOu64.out
       have HFu65 : Hid (u65.heap[eu63]? = some (.cells (r8v true) 48)) := (h2.block _ (Array.getElem?_eq_some_iff.1 HFu64.out).1 (fun e => HNu64.out e.symm)).trans HFu64.out
       have HNu65 : Hid (vu65.ownBlock ≠ some eu63) := by
        rcases h3 with h3 | h3
        ·rw [h3]; exact HNu64.out
        ·rw [h3]; intro e; have e2 := Option.some.inj e; have := (Array.getElem?_eq_some_iff.1 HFu64.out).1; omega
       obtain ⟨au65, cu65, rfl⟩ := own_sl1 HRu65.out
       refine hK.out _ _ HBu65.out (fun hHeld => ?_)
       clear hK KK h1 h2 h3
       try simp only [Act.put, List.getElem_toArray, List.getElem_cons_succ, List.getElem_cons_zero, List.setIfInBounds_toArray, List.set_cons_zero, List.set_cons_succ]
       refine wpAnyH_ready (rs := [8]) (by kernel_rfl) (by simp) ?_
       refine AllReadyH.cons rfl (fun KK hK => ?_) ?_
       ·skip
        refine step_append_at (by rfl) _ _ 23 (by rfl) W4.heap.size 48 j0 _ 8 120 Tryd.underlying23 HJ.out.1 HJ.out.2.1 HJ.out.2.2.1 HJ.out.2.2.2 rfl (by decide) (.slice au65 N cu65) N (fl) (by rfl) HRu65.out (some ⟨eu63, 0, none⟩) 1 1 ([.int .i64 0, .slice none 0 0, .slice none 0 0, .int .i64 0, .slice none 0 0, .slice none 0 0, .bool true, .bool false]) (by rfl) (src_one8 HFu65.out (by simp [Value.oneCell'])) (by unfold maxLen; omega) (by omega) HBu65.out.size (fun vu66 u66 h1 h2 h3 => ?_)
        have HRu66 : Hid (u66.ownsRow W4.heap.size 48 8 vu66 T1 (fl ++ [.int .i64 0, .slice none 0 0, .slice none 0 0, .int .i64 0, .slice none 0 0, .slice none 0 0, .bool true, .bool false])) := by
         have h := h1
         rw [hT1b] at h
         exact h
        have HBu66 : Hid (Below W4.heap.size W4 u66) := HBu65.out.grown h2 HBu65.out.size (fun k hk => (own_lt HRu65.out hk).1)
        have HOu66 : Hid (u66.heap[eu53]? = some (.cells #[.slice none 0 0, .slice none 0 0] 25)) := (h2.block _ (Array.getElem?_eq_some_iff.1 HOu65.out).1 (fun e => by
         obtain ⟨_, _, cur, hc⟩ := own_lt HRu65.out e.symm
         exact ne_ty hc HOu65.out (by decide) rfl)).trans HOu65.out
        have HFu66 : Hid (u66.heap[eu63]? = some (.cells (r8v true) 48)) := (h2.block _ (Array.getElem?_eq_some_iff.1 HFu65.out).1 (fun e => HNu65.out e.symm)).trans HFu65.out
        have HNu66 : Hid (vu66.ownBlock ≠ some eu63) := by
         rcases h3 with h3 | h3
         ·rw [h3]; exact HNu65.out
         ·rw [h3]; intro e; have e2 := Option.some.inj e; have := (Array.getElem?_eq_some_iff.1 HFu65.out).1; omega
        obtain ⟨au66, cu66, rfl⟩ := own_sl1 HRu66.out
        refine hK.out _ _ HBu66.out (fun hHeld => ?_)
        clear hK KK h1 h2 h3
        try simp only [Act.put, List.getElem_toArray, List.getElem_cons_succ, List.getElem_cons_zero, List.setIfInBounds_toArray, List.set_cons_zero, List.set_cons_succ]
        refine wpAnyH_take (i := 9) (v := ?_) rfl (by kernel_rfl) (by kernel_rfl) (by kernel_rfl) (fun _ _ _ h => h) (Or.inl ⟨by rfl, ?_⟩) (by assumption) ?_
        rotate_left
        ·intro wS hSw; have e0 := upC hSw e0'; have e1 := upC hSw e1'; clear hSw; go_simp; try with_reducible rfl
        try simp only [Act.put, List.getElem_toArray, List.getElem_cons_succ, List.getElem_cons_zero, List.setIfInBounds_toArray, List.set_cons_zero, List.set_cons_succ]
        refine wpAnyH_ready (rs := [11]) (by kernel_rfl) (by simp) ?_
        refine AllReadyH.cons rfl (fun KK hK => ?_) ?_
        ·skip
         have HFN : Hid (LtS W4 eu53 (.slice ca m cc) (.slice au66 T1 cu66) T1 (fl ++ [.int .i64 0, .slice none 0 0, .slice none 0 0, .int .i64 0, .slice none 0 0, .slice none 0 0, .bool true, .bool false]) ((u66.setCell ⟨eu53, 0, none⟩ (.slice ca m cc)).setCell ⟨eu53, 1, none⟩ (.slice au66 T1 cu66))) := lt_fin HBu66.out HWu53.out HOu66.out HRu66.out
         obtain ⟨⟨z0, z1⟩, z2, z3⟩ := box2 HOu66.out
         go_simp
         refine hK.out _ _ HFN.out.1 (fun hHeld => ?_)
         clear hK KK z0 z1 z2 z3
         try simp only [Act.put, List.getElem_toArray, List.getElem_cons_succ, List.getElem_cons_zero, List.setIfInBounds_toArray, List.set_cons_zero, List.set_cons_succ]
         refine wpAnyH_done (by kernel_rfl) ?_ _
         refine NoPanic.normal ?_
         clear hHeld
         go_wp2_with fail
         go_meet
         exact ⟨eu53, _, _, rfl, HFN.out⟩
        exact AllReadyH.nil
       exact AllReadyH.nil
      exact AllReadyH.nil
     exact AllReadyH.nil
    exact AllReadyH.nil
   exact AllReadyH.nil
  case rest =>
   obtain ⟨OB, aB, cB, hx9, hlt⟩ := hcut
   subst hx9
   obtain ⟨W5, hW5⟩ : ∃ W, W = wc := ⟨_, rfl⟩
   rw [← hW5] at hlt ⊢
   have HL5 : Hid (LtS W4 OB (.slice ca m cc) (.slice aB T1 cB) T1 (fl ++ [.int .i64 0, .slice none 0 0, .slice none 0 0, .int .i64 0, .slice none 0 0, .slice none 0 0, .bool true, .bool false]) W5) := hlt
   clear hW5 hlt e0' e1'
   have HB35 : Hid (Below W3.heap.size W3 W5) := HL4.out.1.trans (HL5.out.1.mono HL4.out.1.size)
   obtain ⟨zs, hzs⟩ : ∃ zs : List (Rl × RlP), zs.map (fun x => x.1) = rl ∧ flR zs = fl ∧ (∀ x, x ∈ zs → RlAt W3 D x.1 x.2) := ⟨ps, HPS.out.1.symm, HFLR.out.symm, fun x hx => (HKR.out x hx).1.later HB3.out⟩
   obtain ⟨q0, hq0⟩ : ∃ q : RlP, q = ⟨none, 0, none, 0, none, 0, none, 0⟩ := ⟨_, rfl⟩
   have HZA : Hid (∀ V : World, Below W5.heap.size W5 V → RowR V (D + 1) aA (restR is :: rl).length (restR is :: rl) ∧ RowR V (D + 1) aB (rl ++ [restR true]).length (rl ++ [restR true]) ∧ RowR V D a' rl.length rl) := fun V hV => by
    have hB := HB35.out.trans (hV.mono HB35.out.size)
    have h4 := (HL4.out.later (HL5.out.1)).later hV
    have h5 := HL5.out.later hV
    have zl : zs.length = N := by have := congrArg List.length hzs.1; rw [List.length_map] at this; rw [this]; exact HRO.out.2.symm
    have hup : ∀ x, x ∈ zs → RlAt W3 (D + 1) x.1 x.2 := fun x hx => ⟨(hzs.2.2 x hx).1.deep D, (hzs.2.2 x hx).2.deep D⟩
    refine ⟨?_, ?_, HRO.out.1.later hB⟩
    ·have e : (((restR is, q0) :: zs).map fun x => x.1) = restR is :: rl := by rw [List.map_cons, hzs.1]
     have e2 : flR ((restR is, q0) :: zs) = [.int .i64 0, .slice none 0 0, .slice none 0 0, .int .i64 0, .slice none 0 0, .slice none 0 0, .bool is, .bool false] ++ fl := by rw [← hzs.2.1, hq0]; rfl
     rw [← e]
     refine own_row (w := W3) (B := W3.heap.size) (c := cA) (fun x hx => ?_) hB ?_
     ·rcases List.mem_cons.1 hx with rfl | hx
      ·rw [hq0]; exact rest_at W3 D is
      ·exact hup x hx
     ·have h := h4.2.2.2
      rw [e2, List.length_cons, zl, ← HT1.out]
      exact h
    ·have e : ((zs ++ [(restR true, q0)]).map fun x => x.1) = rl ++ [restR true] := by rw [List.map_append, hzs.1]; rfl
     have e2 : flR (zs ++ [(restR true, q0)]) = fl ++ [.int .i64 0, .slice none 0 0, .slice none 0 0, .int .i64 0, .slice none 0 0, .slice none 0 0, .bool true, .bool false] := by rw [← hzs.2.1, hq0]; unfold flR; rw [List.flatMap_append]; rfl
     rw [← e]
     refine own_row (w := W3) (B := W4.heap.size) (c := cB) (fun x hx => ?_) hB ?_
     ·rcases List.mem_append.1 hx with hx | hx
      ·exact hup x hx
      ·rw [List.mem_singleton.1 hx, hq0]; exact rest_at W3 D true
     ·have h := h5.2.2.2
      rw [e2, List.length_append, List.length_singleton, zl, ← HT1.out]
      exact h
   have HKL : Hid (N = rl.length ∧ (restR is :: rl).length = T1 ∧ (rl ++ [restR true]).length = T1) := by
    have := HRO.out.2
    have := HT1.out
    refine ⟨HRO.out.2, by rw [List.length_cons]; omega, by rw [List.length_append, List.length_singleton]; omega⟩
   have HBG : Hid (∀ V : World, Below W5.heap.size W5 V → (V.cell? ⟨OA, 0, none⟩ = some (.slice ca m cc) ∧ V.cell? ⟨OA, 1, none⟩ = some (.slice aA T1 cA)) ∧ (V.cell? ⟨OB, 0, none⟩ = some (.slice ca m cc) ∧ V.cell? ⟨OB, 1, none⟩ = some (.slice aB T1 cB)) ∧ V.cell? ⟨H, 0, none⟩ = some (.slice ca m cc) ∧ V.cell? ⟨H, 1, none⟩ = some (.slice a' N c')) := fun V hV => by
    have hB := HB35.out.trans (hV.mono HB35.out.size)
    exact ⟨(box2 ((HL4.out.later HL5.out.1).later hV).2.2.1).1, (box2 (HL5.out.later hV).2.2.1).1, (box2 ((hB.block H (Array.getElem?_eq_some_iff.1 HX3.out).1).trans HX3.out)).1⟩
   have HBw : Hid (∀ V : World, Below W5.heap.size W5 V → Below w.heap.size w V) := fun V hV => HB3.out.trans ((HB35.out.trans (hV.mono HB35.out.size)).mono HB3.out.size)
   have HC1 : Hid (∀ V : World, Below W5.heap.size W5 V → Calls Tryd.prog 12 #[.agg #[.slice ca m cc, .slice aA T1 cA]] V (CmpP m (restR is :: rl) V)) := fun V hV => by
    have h := compile_any (D + 1) m (restR is :: rl) ca aA cc cA V (HTD.out.later (HBw.out V hV)) (HZA.out V hV).1 (by have := HKL.out; omega)
    rw [HKL.out.2.1] at h; exact h
   have HC2 : Hid (∀ V : World, Below W5.heap.size W5 V → Calls Tryd.prog 12 #[.agg #[.slice ca m cc, .slice aB T1 cB]] V (CmpP m (rl ++ [restR true]) V)) := fun V hV => by
    have h := compile_any (D + 1) m (rl ++ [restR true]) ca aB cc cB V (HTD.out.later (HBw.out V hV)) (HZA.out V hV).2.1 (by have := HKL.out; omega)
    rw [HKL.out.2.2] at h; exact h
   have HC3 : Hid (∀ V : World, Below W5.heap.size W5 V → Calls Tryd.prog 12 #[.agg #[.slice ca m cc, .slice a' N c']] V (CmpP m rl V)) := fun V hV => by
    have h := compile_any D m rl ca a' cc c' V (HTD.out.later (HBw.out V hV)) (HZA.out V hV).2.2 (by have := HKL.out; omega)
    rw [← HKL.out.1] at h; exact h
   clear HZA HTD HRO HOWN HPS HKR HX3 HX4 HSR4 HSRC HFLR hzs hq0 hT1a hT1b HL4 HL5
   obtain ⟨_, _, d0, d1⟩ := HBG.out W5 (Below.refl _ _)
   go_wp2_with fail
   refine (HC3.out W5 (Below.refl _ _)).mono ?_
   intro e wa hor
   obtain ⟨hbx, hor⟩ := cmp_two hor
   have HXwa : Hid (Below W5.heap.size W5 wa) := hbx
   have HBwa : Hid (Below W5.heap.size W5 wa) := hbx
   clear hbx d0 d1
   rcases hor with ⟨er0, rfl⟩ | ⟨t1, rfl, ht0⟩
   ·obtain ⟨⟨d0, d1⟩, _, _⟩ := HBG.out wa HBwa.out
    go_wp2_with fail
    refine (HC1.out wa HBwa.out).mono ?_
    intro e wb hor
    obtain ⟨hbx, hor⟩ := cmp_two hor
    have HXwb : Hid (Below wa.heap.size wa wb) := hbx
    have HBwb : Hid (Below W5.heap.size W5 wb) := HBwa.out.trans (hbx.mono HBwa.out.size)
    clear hbx d0 d1
    rcases hor with ⟨er1, rfl⟩ | ⟨t2, rfl, _⟩
    ·obtain ⟨_, ⟨d0, d1⟩, _⟩ := HBG.out wb HBwb.out
     go_wp2_with fail
     refine (HC2.out wb HBwb.out).mono ?_
     intro e wd hor
     obtain ⟨hbx, hor⟩ := cmp_two hor
     have HXwd : Hid (Below wb.heap.size wb wd) := hbx
     have HBwd : Hid (Below W5.heap.size W5 wd) := HBwb.out.trans (hbx.mono HBwb.out.size)
     clear hbx d0 d1
     rcases hor with ⟨er2, rfl⟩ | ⟨t3, rfl, _⟩
     ·go_wp2_with fail
      go_ret
      exact ⟨rfl, HBw.out wd HBwd.out⟩
     ·go_wp2_with fail
      go_ret
      exact ⟨rfl, HBw.out wd HBwd.out⟩
    ·obtain ⟨_, ⟨d0, d1⟩, _⟩ := HBG.out wb HBwb.out
     go_wp2_with fail
     refine (HC2.out wb HBwb.out).mono ?_
     intro e wd hor
     obtain ⟨hbx, hor⟩ := cmp_two hor
     have HXwd : Hid (Below wb.heap.size wb wd) := hbx
     have HBwd : Hid (Below W5.heap.size W5 wd) := HBwb.out.trans (hbx.mono HBwb.out.size)
     clear hbx d0 d1
     rcases hor with ⟨er2, rfl⟩ | ⟨t3, rfl, _⟩
     ·go_wp2_with fail
      go_ret
      exact ⟨rfl, HBw.out wd HBwd.out⟩
     ·go_wp2_with fail
      go_ret
      exact ⟨rfl, HBw.out wd HBwd.out⟩
   have HT0 : Hid (∀ V : World, Below wa.heap.size wa V → TabAt V m rl t1) := fun V hV => ht0.later hV
   clear ht0
   obtain ⟨⟨d0, d1⟩, _, _⟩ := HBG.out wa HBwa.out
   go_wp2_with fail
   refine (HC1.out wa HBwa.out).mono ?_
   intro e wb hor
   obtain ⟨hbx, hor⟩ := cmp_two hor
   have HXwb : Hid (Below wa.heap.size wa wb) := hbx
   have HBwb : Hid (Below W5.heap.size W5 wb) := HBwa.out.trans (hbx.mono HBwa.out.size)
   clear hbx d0 d1
   rcases hor with ⟨er1, rfl⟩ | ⟨t2, rfl, ht1⟩
   ·obtain ⟨_, ⟨d0, d1⟩, _⟩ := HBG.out wb HBwb.out
    go_wp2_with fail
    refine (HC2.out wb HBwb.out).mono ?_
    intro e wd hor
    obtain ⟨hbx, hor⟩ := cmp_two hor
    have HXwd : Hid (Below wb.heap.size wb wd) := hbx
    have HBwd : Hid (Below W5.heap.size W5 wd) := HBwb.out.trans (hbx.mono HBwb.out.size)
    clear hbx d0 d1
    rcases hor with ⟨er2, rfl⟩ | ⟨t3, rfl, _⟩
    ·go_wp2_with fail
     go_ret
     exact ⟨rfl, HBw.out wd HBwd.out⟩
    ·go_wp2_with fail
     go_ret
     exact ⟨rfl, HBw.out wd HBwd.out⟩
   have HT1' : Hid (∀ V : World, Below wb.heap.size wb V → TabAt V m (restR is :: rl) t2) := fun V hV => ht1.later hV
   clear ht1
   obtain ⟨_, ⟨d0, d1⟩, _⟩ := HBG.out wb HBwb.out
   go_wp2_with fail
   refine (HC2.out wb HBwb.out).mono ?_
   intro e wd hor
   obtain ⟨hbx, hor⟩ := cmp_two hor
   have HXwd : Hid (Below wb.heap.size wb wd) := hbx
   have HBwd : Hid (Below W5.heap.size W5 wd) := HBwb.out.trans (hbx.mono HBwb.out.size)
   clear hbx d0 d1
   rcases hor with ⟨er2, rfl⟩ | ⟨t3, rfl, ht2⟩
   ·go_wp2_with fail
    go_ret
    exact ⟨rfl, HBw.out wd HBwd.out⟩
   have HT2 : Hid (∀ V : World, Below wd.heap.size wd V → TabAt V m (rl ++ [restR true]) t3) := fun V hV => ht2.later hV
   clear ht2
   clear HC1 HC2 HC3 HBG
   have HS : Hid (∀ V : World, Below wd.heap.size wd V → Calls Tryd.prog 18 #[.pointer (some ⟨t1, 0, none⟩), .slice xa n xc] V (BdsQ m rl n row V) ∧ Calls Tryd.prog 18 #[.pointer (some ⟨t2, 0, none⟩), .slice xa n xc] V (BdsQ m (restR is :: rl) n row V) ∧ Calls Tryd.prog 18 #[.pointer (some ⟨t3, 0, none⟩), .slice xa n xc] V (BdsQ m (rl ++ [restR true]) n row V)) := fun V hV => by
    have h2 := HXwd.out.trans (hV.mono HXwd.out.size)
    have h1 := HXwb.out.trans (h2.mono HXwb.out.size)
    have hr := HRD.out.later (HBw.out V (HBwd.out.trans (hV.mono HBwd.out.size)))
    have hl := HKL.out
    exact ⟨segBnd_any m t1 n xc rl row xa V (HT0.out V h1) (by omega) hr HNC.out.2 (by omega), segBnd_any m t2 n xc (restR is :: rl) row xa V (HT1'.out V h2) (by omega) hr HNC.out.2 (by omega), segBnd_any m t3 n xc (rl ++ [restR true]) row xa V (HT2.out V hV) (by omega) hr HNC.out.2 (by omega)⟩
   have HBW : Hid (∀ V : World, Below wd.heap.size wd V → Below w.heap.size w V) := fun V hV => HBw.out V (HBwd.out.trans (hV.mono HBwd.out.size))
   go_wp2_with fail
   refine (HS.out wd (Below.refl _ _)).1.mono ?_
   rintro e we ⟨hbe, hor⟩
   have HBe : Hid (Below wd.heap.size wd we) := hbe
   rcases hor with ⟨hnc, rfl⟩ | ⟨hcl, L1, g1, rfl, hg1, hb1⟩
   ·have HNCL : Hid (¬ Cls m row) := hnc
    clear hnc hbe
    go_wp2_with fail
    refine (HS.out we HBe.out).2.1.mono ?_
    rintro e wf ⟨hbf, hor⟩
    have HBf : Hid (Below wd.heap.size wd wf) := HBe.out.trans (hbf.mono HBe.out.size)
    obtain rfl : e = .returned (.tuple #[.slice none 0 0, .int .i64 1]) := by
     rcases hor with ⟨_, h⟩ | ⟨h, _⟩
     ·exact h
     ·exact absurd h HNCL.out
    clear hbf hor
    go_wp2_with fail
    refine (HS.out wf HBf.out).2.2.mono ?_
    rintro e wg ⟨hbg, hor⟩
    have HBg : Hid (Below w.heap.size w wg) := HBW.out wg (HBf.out.trans (hbg.mono HBf.out.size))
    obtain rfl : e = .returned (.tuple #[.slice none 0 0, .int .i64 1]) := by
     rcases hor with ⟨_, h⟩ | ⟨h, _⟩
     ·exact h
     ·exact absurd h HNCL.out
    clear hbg hor
    go_wp2_with fail
    go_ret
    exact ⟨rfl, HBg.out⟩
   have HCL : Hid (Cls m row) := hcl
   have HL1 : Hid (IsBd m rl n row L1) := hb1
   have HG1 : Hid (∀ V : World, Below we.heap.size we V → V.heap[g1]? = some (.cells (bFun n (fun q => decide (q ∈ L1))) 4)) := fun V hV => (hV.block g1 (Array.getElem?_eq_some_iff.1 hg1).1).trans hg1
   clear hcl hb1 hg1 hbe
   go_wp2_with fail
   refine (HS.out we HBe.out).2.1.mono ?_
   rintro e wf ⟨hbf, hor⟩
   have HBef : Hid (Below we.heap.size we wf) := hbf
   have HBf : Hid (Below wd.heap.size wd wf) := HBe.out.trans (hbf.mono HBe.out.size)
   rcases hor with ⟨h, _⟩ | ⟨_, L2, g2, rfl, hg2, hb2⟩
   ·exact absurd HCL.out h
   have HL2 : Hid (∀ k, 0 < k → k < n → decide (k ∈ L2) = is) := fun k h0 hk => hb2.first HCL.out h0 hk
   have HG2 : Hid (∀ V : World, Below wf.heap.size wf V → V.heap[g2]? = some (.cells (bFun n (fun q => decide (q ∈ L2))) 4)) := fun V hV => (hV.block g2 (Array.getElem?_eq_some_iff.1 hg2).1).trans hg2
   clear hb2 hg2 hbf
   go_wp2_with fail
   refine (HS.out wf HBf.out).2.2.mono ?_
   rintro e wg ⟨hbg, hor⟩
   have HBfg : Hid (Below wf.heap.size wf wg) := hbg
   have HBg : Hid (Below w.heap.size w wg) := HBW.out wg (HBf.out.trans (hbg.mono HBf.out.size))
   rcases hor with ⟨h, _⟩ | ⟨_, L3, g3, rfl, hg3, hb3⟩
   ·exact absurd HCL.out h
   obtain rfl : L3 = L1 := hb3.last HCL.out HL1.out
   have HGC : Hid (∀ k, 0 < k → k < n → wg.cell? ⟨g2, k, none⟩ = some (.bool is)) := fun k h0 hk => by
    rw [cell_of_row _ g2 k _ _ _ (HG2.out wg HBfg.out), bFun_get n _ (by omega), HL2.out k h0 hk]
   have HSA : Hid (Calls Tryd.prog 19 #[.slice (some ⟨g1, 0, none⟩) (n + 1) (n + 1), .slice (some ⟨g3, 0, none⟩) (n + 1) (n + 1)] wg fun e w' => e = .returned (.bool true) ∧ Below wg.heap.size wg w') := by
    have h := sameL_any ((List.range (n + 1)).map fun q => decide (q ∈ L3)) ((List.range (n + 1)).map fun q => decide (q ∈ L3)) (some ⟨g1, 0, none⟩) (some ⟨g3, 0, none⟩) (n + 1) (n + 1) (n + 1) wg (rdT_fun (HG1.out wg (HBef.out.trans (HBfg.out.mono HBef.out.size)))) (rdT_fun hg3) (by omega)
    rw [decide_eq_true rfl] at h
    exact h
   have hbb : (is != is) = false := by simp
   clear hb3 hg3 hbg HL1 HL2 HG1 HG2 HS HBw HT0 HT1' HT2
   go_wp2_with fail
   go_loopw [22] (fun x22 wz => ∃ i : Nat, 0 < i ∧ x22 = .int .i64 (i : Int) ∧ wz = wg) (fun x22 _ => n - (intOf x22).toNat)
   case atStart => exact ⟨1, by omega, rfl, rfl⟩
   case round =>
    obtain ⟨i, hin, hx, hwr⟩ := hrel
    subst hx
    obtain rfl : wg = wr := hwr.symm
    by_cases hi : i < n
    ·have hii : (i : Int) < (n : Int) := by omega
     have hi1 : (i : Int) < (n : Int) + 1 := by omega
     have hi0 : (0 : Int) ≤ (i : Int) := by omega
     have c1 := HGC.out i hin hi
     go_wp2_with fail
     go_roundw
     case rel => exact ⟨i + 1, by omega, by go_num, trivial⟩
     case measure => simp [intOf]; omega
    ·have hii : ¬ (i : Int) < (n : Int) := by omega
     go_wp2_with fail
     refine HSA.out.mono ?_
     rintro e wh ⟨rfl, hbh⟩
     have HBh : Hid (Below w.heap.size w wh) := HBg.out.trans (hbh.mono HBg.out.size)
     clear hbh
     go_wp2_with fail
     go_ret
     exact ⟨rfl, HBh.out⟩
end Go.Proofs.YtcafffohnokjgaaDoor
