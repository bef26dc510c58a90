/- The walk of Splice where all is in range. Written by mksplice.py. -/
import Derived.Test.YtclogekfdmikpaaDoorJ35
import Derived.Deep.RegionWith
import Derived.BigRegion
namespace Go.Proofs.YtclogekfdmikpaaDoor
open Go.RowKit
set_option linter.unusedVariables false
set_option linter.unusedSimpArgs false

def TabQ (w : World) (K : Nat) (l : List Rl) (tb la lb : Nat) (nxA : List (List Nat)) (ouA : List Nat) (nxB : List (List Nat)) (ouB : List Nat) : Prop := w.heap[tb]? = some (.cells #[.pointer (some ⟨la, 0, none⟩), .pointer (some ⟨lb, 0, none⟩), .int .u64 (brkN l : Int), .int .i64 (l.length : Int)] 66) ∧
 MchAt w la K nxA ouA ∧ LeastOf K (xsL l) nxA ouA ∧ nxA.length ≤ 400 ∧ MchAt w lb K nxB ouB ∧ LeastOf K (xsR l) nxB ouB ∧ nxB.length ≤ 400
theorem TabQ.at {w : World} {K : Nat} {l : List Rl} {tb la lb : Nat} {nxA : List (List Nat)} {ouA : List Nat} {nxB : List (List Nat)} {ouB : List Nat} (h : TabQ w K l tb la lb nxA ouA nxB ouB) : TabAt w K l tb := ⟨la, lb, nxA, ouA, nxB, ouB, h⟩
theorem fr_none {K : Nat} {cls : List Int} (h : Cls K cls) : cls.any (frC K) = false := by
 rw [List.any_eq_false]
 intro x hx
 have := h x hx
 unfold frC
 simp
 omega
theorem spl_cls {K : Nat} {xs cls : List Int} (h1 : Cls K xs) (h2 : Cls K cls) (p gone : Nat) : Cls K (spl xs p gone cls) := by
 intro c hc
 unfold spl at hc
 rcases List.mem_append.1 hc with hc | hc
 ·rcases List.mem_append.1 hc with hc | hc
  ·exact h1 c (List.mem_of_mem_take hc)
  ·exact h2 c hc
 ·exact h1 c (List.mem_of_mem_drop hc)
def SplQ (nxA nxB : List (List Nat)) (xs cls : List Int) (p gone P tb B : Nat) (tv av bv : Value) (w : World) (e : Ending) (w' : World) : Prop :=
 e = .returned (.int .i64 0) ∧ ∃ (tv' av' bv' : Value) (r1 r2 : Nat), WinX w' P tb B (spl xs p gone cls) tv' av' bv' ((spl xs p gone cls).length + 1) (stI nxA (spl xs p gone cls)) ((spl xs p gone cls).length + 1) (stI nxB (spl xs p gone cls).reverse) (2 * (cls.length : Int) + (r1 : Int) + (r2 : Int)) ∧
   RdN nxA xs cls p gone r1 ∧ RdN nxB xs.reverse cls.reverse (xs.length - p - gone) gone r2 ∧ ChgW w w' (OwnW P tv av bv) ∧ AtB w tv.ownBlock tv' ∧ AtB w av.ownBlock av' ∧ AtB w bv.ownBlock bv'
set_option maxHeartbeats 8000000 in
set_option maxRecDepth 100000 in
theorem splice_ok (K : Nat) (l : List Rl) (P tb la lb B : Nat) (nxA : List (List Nat)) (ouA : List Nat) (nxB : List (List Nat)) (ouB : List Nat) (xs cls : List Int) (p gone come n : Nat) (tv av bv : Value) (tc : Int) (va : Option Addr) (vc : Nat) (w : World)
 (hx : WinX w P tb B xs tv av bv (n + 1) (stI nxA xs) (n + 1) (stI nxB xs.reverse) tc) (hT : ∀ W, ChgW w W (OwnW P tv av bv) → TabQ W K l tb la lb nxA ouA nxB ouB) (hn : xs.length = n) (hp : p + gone ≤ n) (hc : cls.length = come) (hxs : Cls K xs) (hcl : Cls K cls) (hr : Rd .i64 w va come cls) (hvn : va = none → vc = 0)
 (hne : ∀ b off, va = some ⟨b, off, none⟩ → tv.ownBlock ≠ some b) (hl : n + come ≤ 100000) (hltA : ∀ row i, stR nxA row i < nxA.length) (hwdA : ∀ s, s < nxA.length → (nxA.getD s []).length = K) (hltB : ∀ row i, stR nxB row i < nxB.length) (hwdB : ∀ s, s < nxB.length → (nxB.getD s []).length = K) :
 Calls Tryd.prog 13 #[.pointer (some ⟨P, 0, none⟩), .int .i64 (p : Int), .int .i64 (gone : Int), .slice va come vc] w (SplQ nxA nxB xs cls p gone P tb B tv av bv w) := by
 have hPl : P < w.heap.size := (Array.getElem?_eq_some_iff.1 hx.1).1
 have hBw : B ≤ w.heap.size := by have := hx.2.2.2.2.2; omega
 obtain ⟨N0, hN0⟩ : ∃ N0, N0 = w.heap.size := ⟨_, rfl⟩
 obtain ⟨W1, hW1⟩ : ∃ W1, W1 = w.alloc (.cells #[.pointer (some ⟨P, 0, none⟩)] 34) := ⟨_, rfl⟩
 have hb1 : Below w.heap.size w W1 := by rw [hW1]; exact (Below.refl _ w).alloc (Nat.le_refl _) _
 have hsz1 : W1.heap.size = N0 + 1 := by rw [hW1, hN0]; simp
 have hN1 : W1.heap[N0]? = some (.cells #[.pointer (some ⟨P, 0, none⟩)] 34) := by rw [hN0, hW1]; exact heap_alloc_new w _
 obtain ⟨ta, tcap, rfl, htc, htm, hrt, htn⟩ := own_rdI hx.2.1
 have hnoQ : ∀ k, OwnW P (.slice ta xs.length tcap) av bv k → k < w.heap.size := by
  rintro k (rfl | h | h | h)
  ·exact hPl
  ·exact own_lt' hx.2.1 k h
  ·exact own_lt' hx.2.2.1 k h
  ·exact own_lt' hx.2.2.2.1 k h
 rw [hn] at hx hnoQ hT hne
 -- what every later world keeps of the box
 have HBOX : Hid (∀ W, Below W1.heap.size W1 W → W.heap[N0]? = some (.cells #[.pointer (some ⟨P, 0, none⟩)] 34) ∧ WinX W P tb B xs (.slice ta n tcap) av bv (n + 1) (stI nxA xs) (n + 1) (stI nxB xs.reverse) tc ∧ ChgW w W (OwnW P (.slice ta n tcap) av bv)) := fun W hW => by
  have hbw : Below w.heap.size w W := ⟨hW.os.trans hb1.os, hW.tape.trans hb1.tape, hW.output.trans hb1.output, Nat.le_trans hb1.size hW.size, fun k hk => (hW.block k (Nat.lt_of_lt_of_le hk hb1.size)).trans (hb1.block k hk)⟩
  refine ⟨(hW.block N0 (by omega)).trans hN1, ?_, chg_below hbw _⟩
  exact WinX.keep hx (chg_below hbw (fun _ => False)) (fun _ _ h => h)
 have h1w := HBOX.out W1 (Below.refl _ _)
 obtain ⟨k0, k1, k2, k3, k4, kf⟩ := win_cells h1w.2.1.1
 have n0 : W1.cell? ⟨N0, 0, none⟩ = some (.pointer (some ⟨P, 0, none⟩)) := cell_of_row W1 N0 0 _ _ _ hN1
 have HHAS : Hid (Calls Tryd.prog 26 #[.pointer (some ⟨P, 0, none⟩), .int .i64 (p : Int)] W1 fun e w' => e = .returned (.bool true) ∧ w' = W1) := by
  have := has_any W1 P tb n tcap ta av bv tc (p : Int) h1w.2.1.1
  rw [show hasB n (p : Int) = true by unfold hasB; simp; omega] at this
  exact this
 have HFOR : Hid (Calls Tryd.prog 27 #[.pointer (some ⟨tb, 0, none⟩), .slice va come vc] W1 fun e w' => e = .returned (.bool false) ∧ Below W1.heap.size W1 w') := by
  have := foreign_any K tb come vc l cls va W1 (hT W1 h1w.2.2).at (hr.later hb1) (by omega)
  rw [fr_none hcl] at this
  exact this
 obtain ⟨np, hnp⟩ : ∃ np, np = n - p := ⟨_, rfl⟩
 obtain ⟨nb, hnb⟩ : ∃ nb, nb = n - p - gone := ⟨_, rfl⟩
 obtain ⟨pg, hpg⟩ : ∃ pg, pg = p + gone := ⟨_, rfl⟩
 have hs1 : IntKind.i64.wrap ((n : Int) - (p : Int)) = (np : Int) := by rw [IntKind.wrap_i64]; omega
 have hs1' : (n : Int) - (p : Int) = (np : Int) := by omega
 have hs2 : (np : Int) - (gone : Int) = (nb : Int) := by omega
 have hs3 : (p : Int) + (gone : Int) = (pg : Int) := by omega
 have hng : ¬ ((np : Int) < (gone : Int)) := by omega
 have hg0 : ¬ ((gone : Int) < 0) := by omega
 have hwnp : IntKind.i64.wrap (np : Int) = (np : Int) := by rw [IntKind.wrap_i64]; omega
 have hwnb : IntKind.i64.wrap (nb : Int) = (nb : Int) := by rw [IntKind.wrap_i64]; omega
 have hwpg : IntKind.i64.wrap (pg : Int) = (pg : Int) := by rw [IntKind.wrap_i64]; omega
 have hnbl : nb ≤ 100000 := by omega
 have hnpl : np ≤ 100000 := by omega
 have hpgl : pg ≤ 100000 := by omega
 have hcol : come ≤ 100000 := by omega
 have HPG : Hid (pg = p + gone ∧ nb = n - p - gone ∧ p + gone ≤ n ∧ xs.length = n ∧ cls.length = come ∧ N0 = w.heap.size ∧ P < w.heap.size ∧ B ≤ w.heap.size ∧ B ≤ P ∧ n + come ≤ 100000) := ⟨hpg, hnb, hp, hn, hc, hN0, hPl, hBw, hx.2.2.2.2.2, hl⟩
 have HX : Hid (WinX w P tb B xs (.slice ta n tcap) av bv (n + 1) (stI nxA xs) (n + 1) (stI nxB xs.reverse) tc) := hx
 have HT : Hid (∀ W, ChgW w W (OwnW P (.slice ta n tcap) av bv) → TabQ W K l tb la lb nxA ouA nxB ouB) := hT
 have HCL : Hid (Cls K (spl xs p gone cls)) := spl_cls hxs hcl p gone
 have HR : Hid (Rd .i64 w va come cls ∧ (va = none → vc = 0) ∧ (∀ b off, va = some ⟨b, off, none⟩ → (Value.slice ta n tcap).ownBlock ≠ some b)) := ⟨hr, hvn, hne⟩
 have HMA : Hid ((∀ row i, stR nxA row i < nxA.length) ∧ (∀ s, s < nxA.length → (nxA.getD s []).length = K) ∧ (∀ row i, stR nxB row i < nxB.length) ∧ (∀ s, s < nxB.length → (nxB.getD s []).length = K)) := ⟨hltA, hwdA, hltB, hwdB⟩
 have HNQ : Hid (∀ k, OwnW P (.slice ta n tcap) av bv k → k < w.heap.size) := hnoQ
 have HB1 : Hid (Below w.heap.size w W1 ∧ W1.heap.size = N0 + 1) := ⟨hb1, hsz1⟩
 clear hx hT hxs hcl hr hvn hne hltA hwdA hltB hwdB hnoQ hb1 hsz1 hN1 hrt htn htc htm h1w hnp hnb hpg hp hc hn hPl hBw hl
 go_enter Tryd.func13, Tryd.ntmps13
 go_upto_region 1 with fail
 rw [← hN0, ← hW1]
 clear hN0 hW1
 go_upto_region 3 with (first | (go_at_call 26; refine HHAS.out.mono ?_; rintro e w2 ⟨rfl, hw2⟩; obtain rfl := hw2.symm; clear hw2))
 clear HHAS
 go_upto_region 5 with (first | (go_at_call 27; refine HFOR.out.mono ?_; rintro e W2 ⟨rfl, hw2⟩; have HB2 : Hid (Below W1.heap.size W1 W2) := hw2; clear hw2))
 clear HFOR n0 k0 k1 k2 k3 k4 kf
 obtain ⟨N2, hN2⟩ : ∃ N2, N2 = W2.heap.size := ⟨_, rfl⟩
 have hB2 := HBOX.out W2 HB2.out
 obtain ⟨k0, k1, k2, k3, k4, kf⟩ := win_cells hB2.2.1.1
 have n0 : W2.cell? ⟨N0, 0, none⟩ = some (.pointer (some ⟨P, 0, none⟩)) := cell_of_row W2 N0 0 _ _ _ hB2.1
 have hN0l : N0 < N2 := by rw [hN2]; exact (Array.getElem?_eq_some_iff.1 hB2.1).1
 have hPl : P < N2 := by rw [hN2]; exact (Array.getElem?_eq_some_iff.1 hB2.2.1.1).1
 have HUP : Hid (∀ W, Below N2 W2 W → W.cell? ⟨N0, 0, none⟩ = some (.pointer (some ⟨P, 0, none⟩)) ∧ W.cell? ⟨P, 1, none⟩ = some (.slice ta n tcap)) := fun W hW => ⟨cell_of_row W N0 0 _ _ _ ((hW.block N0 (by omega)).trans hB2.1), cell_of_row W P 1 _ _ _ ((hW.block P (by omega)).trans hB2.2.1.1)⟩
 clear hB2 n0 k0 k1 k2 k3 k4 kf
 go_upto_region 6 with fail
 have HZ1 : Hid (Below N2 W2 (W2.drew.alloc (.cells #[.int .i64 0, .int .i64 0, .int .i64 0] 75))) := (Below.refl _ W2).drew.alloc (Nat.le_of_eq hN2) _
 have HZ2 : Hid (Below N2 W2 ((W2.drew.alloc (.cells #[.int .i64 0, .int .i64 0, .int .i64 0] 75)).alloc (.cells #[.int .i64 0, .int .i64 0, .int .i64 0] 75))) := HZ1.out.alloc (by rw [hN2]; exact HZ1.out.size) _
 have HZ3 : Hid (∀ WA, WA = ((W2.alloc (.cells #[.int .i64 0, .int .i64 0, .int .i64 0] 75)).alloc (.cells #[.int .i64 0, .int .i64 0, .int .i64 0] 75)).drew → WA.heap[N2]? = some (.cells #[.int .i64 0, .int .i64 0, .int .i64 0] 75) ∧ WA.heap[N2 + 1]? = some (.cells #[.int .i64 0, .int .i64 0, .int .i64 0] 75)) := fun WA h => by
  subst h
  rw [hN2]
  refine ⟨(Below.heap_alloc _ _ _ (by simp)).trans (heap_alloc_new W2 _), ?_⟩
  have h := heap_alloc_new (W2.alloc (.cells #[.int .i64 0, .int .i64 0, .int .i64 0] 75)) (.cells #[.int .i64 0, .int .i64 0, .int .i64 0] 75)
  rw [show (W2.alloc (.cells #[.int .i64 0, .int .i64 0, .int .i64 0] 75)).heap.size = W2.heap.size + 1 by simp] at h
  exact h
 go_cut [10, 11] (fun x10 x11 wx => ∃ N10 N11, x10 = .pointer (some ⟨N10, 0, none⟩) ∧ x11 = .pointer (some ⟨N11, 0, none⟩) ∧ wx.heap[N10]? = some (.cells #[.int .i64 (p : Int), .int .i64 (gone : Int), .int .i64 (come : Int)] 75) ∧ wx.heap[N11]? = some (.cells #[.int .i64 (nb : Int), .int .i64 (gone : Int), .int .i64 (come : Int)] 75) ∧ Below N2 W2 wx ∧ N2 ≤ N10 ∧ N2 ≤ N11)
 case first =>
  refine wp_region_noPanic ?_
  refine wp_region_held_drew (S := (fun w' => Below N2 W2 w')) (by kernel_rfl) ((Below.refl _ W2).drew) (fun hHeld => ?_)
  refine wpAnyH_take (i := 0) (v := ?_) rfl (by kernel_rfl) (by kernel_rfl) (by kernel_rfl) (fun _ _ _ h => h) (Or.inl ⟨by rfl, ?_⟩) (by assumption) ?_
  rotate_left
  ·intro W' hSw; obtain ⟨n0', k1'⟩ := HUP.out W' hSw; clear hSw; go_simp; try with_reducible rfl
  try simp only [Act.put, List.getElem_toArray, List.getElem_cons_succ, List.getElem_cons_zero, List.setIfInBounds_toArray, List.set_cons_zero, List.set_cons_succ]
  refine wpAnyH_take (i := 1) (v := ?_) rfl (by kernel_rfl) (by kernel_rfl) (by kernel_rfl) (fun _ _ _ h => h) (Or.inl ⟨by rfl, ?_⟩) (by assumption) ?_
  rotate_left
  ·intro W' hSw; obtain ⟨n0', k1'⟩ := HUP.out W' hSw; clear hSw; go_simp; try with_reducible rfl
  try simp only [Act.put, List.getElem_toArray, List.getElem_cons_succ, List.getElem_cons_zero, List.setIfInBounds_toArray, List.set_cons_zero, List.set_cons_succ]
  refine wpAnyH_take (i := 2) (v := ?_) rfl (by kernel_rfl) (by kernel_rfl) (by kernel_rfl) (fun _ _ _ h => h) (Or.inl ⟨by rfl, ?_⟩) (by assumption) ?_
  rotate_left
  ·intro W' hSw; obtain ⟨n0', k1'⟩ := HUP.out W' hSw; clear hSw; go_simp; try with_reducible rfl
  try simp only [Act.put, List.getElem_toArray, List.getElem_cons_succ, List.getElem_cons_zero, List.setIfInBounds_toArray, List.set_cons_zero, List.set_cons_succ]
  refine wpAnyH_take (i := 3) (v := ?_) rfl (by kernel_rfl) (by kernel_rfl) (by kernel_rfl) (fun _ _ _ h => h) (Or.inl ⟨by rfl, ?_⟩) (by assumption) ?_
  rotate_left
  ·intro W' hSw; obtain ⟨n0', k1'⟩ := HUP.out W' hSw; clear hSw; go_simp; try with_reducible rfl
  try simp only [Act.put, List.getElem_toArray, List.getElem_cons_succ, List.getElem_cons_zero, List.setIfInBounds_toArray, List.set_cons_zero, List.set_cons_succ]
  refine wpAnyH_take (i := 4) (v := ?_) rfl (by kernel_rfl) (by kernel_rfl) (by kernel_rfl) (fun _ _ _ h => h) (Or.inl ⟨by rfl, ?_⟩) (by assumption) ?_
  rotate_left
  ·intro W' hSw; obtain ⟨n0', k1'⟩ := HUP.out W' hSw; clear hSw; go_simp; try with_reducible rfl
  try simp only [Act.put, List.getElem_toArray, List.getElem_cons_succ, List.getElem_cons_zero, List.setIfInBounds_toArray, List.set_cons_zero, List.set_cons_succ]
  refine wpAnyH_take (i := 5) (v := ?_) rfl (by kernel_rfl) (by kernel_rfl) (by kernel_rfl) (fun _ _ _ h => h) (Or.inl ⟨by rfl, ?_⟩) (by assumption) ?_
  rotate_left
  ·intro W' hSw; obtain ⟨n0', k1'⟩ := HUP.out W' hSw; clear hSw; go_simp; try with_reducible rfl
  try simp only [Act.put, List.getElem_toArray, List.getElem_cons_succ, List.getElem_cons_zero, List.setIfInBounds_toArray, List.set_cons_zero, List.set_cons_succ]
  refine wpAnyH_take (i := 6) (v := ?_) rfl (by kernel_rfl) (by kernel_rfl) (by kernel_rfl) (fun _ _ _ h => h) (Or.inl ⟨by rfl, ?_⟩) (by assumption) ?_
  rotate_left
  ·intro W' hSw; obtain ⟨n0', k1'⟩ := HUP.out W' hSw; clear hSw; go_simp; try with_reducible rfl
  try simp only [Act.put, List.getElem_toArray, List.getElem_cons_succ, List.getElem_cons_zero, List.setIfInBounds_toArray, List.set_cons_zero, List.set_cons_succ]
  refine wpAnyH_take (i := 7) (v := ?_) rfl (by kernel_rfl) (by kernel_rfl) (by kernel_rfl) (fun _ _ _ h => h) (Or.inl ⟨by rfl, ?_⟩) (by assumption) ?_
  rotate_left
  ·intro W' hSw; obtain ⟨n0', k1'⟩ := HUP.out W' hSw; clear hSw; go_simp; try with_reducible rfl
  try simp only [Act.put, List.getElem_toArray, List.getElem_cons_succ, List.getElem_cons_zero, List.setIfInBounds_toArray, List.set_cons_zero, List.set_cons_succ]
  refine wpAnyH_take (i := 8) (v := ?_) rfl (by kernel_rfl) (by kernel_rfl) (by kernel_rfl) (fun _ _ _ h => h) (Or.inl ⟨by rfl, ?_⟩) (by assumption) ?_
  rotate_left
  ·intro W' hSw; obtain ⟨n0', k1'⟩ := HUP.out W' hSw; clear hSw; go_simp; try with_reducible rfl
  try simp only [Act.put, List.getElem_toArray, List.getElem_cons_succ, List.getElem_cons_zero, List.setIfInBounds_toArray, List.set_cons_zero, List.set_cons_succ]
  refine wpAnyH_take (i := 9) (v := ?_) rfl (by kernel_rfl) (by kernel_rfl) (by kernel_rfl) (fun _ _ _ h => h) (Or.inl ⟨by rfl, ?_⟩) (by assumption) ?_
  rotate_left
  ·intro W' hSw; obtain ⟨n0', k1'⟩ := HUP.out W' hSw; clear hSw; go_simp; try with_reducible rfl
  try simp only [Act.put, List.getElem_toArray, List.getElem_cons_succ, List.getElem_cons_zero, List.setIfInBounds_toArray, List.set_cons_zero, List.set_cons_succ]
  refine wpAnyH_take (i := 10) (v := ?_) rfl (by kernel_rfl) (by kernel_rfl) (by kernel_rfl) (fun _ _ _ h => h) (Or.inl ⟨by rfl, ?_⟩) (by assumption) ?_
  rotate_left
  ·intro W' hSw; obtain ⟨n0', k1'⟩ := HUP.out W' hSw; clear hSw; go_simp; try with_reducible rfl
  try simp only [Act.put, List.getElem_toArray, List.getElem_cons_succ, List.getElem_cons_zero, List.setIfInBounds_toArray, List.set_cons_zero, List.set_cons_succ]
  refine wpAnyH_take (i := 11) (v := ?_) rfl (by kernel_rfl) (by kernel_rfl) (by kernel_rfl) (fun _ _ _ h => h) (Or.inl ⟨by rfl, ?_⟩) (by assumption) ?_
  rotate_left
  ·intro W' hSw; obtain ⟨n0', k1'⟩ := HUP.out W' hSw; clear hSw; go_simp; try with_reducible rfl
  try simp only [Act.put, List.getElem_toArray, List.getElem_cons_succ, List.getElem_cons_zero, List.setIfInBounds_toArray, List.set_cons_zero, List.set_cons_succ]
  refine wpAnyH_take (i := 12) (v := ?_) rfl (by kernel_rfl) (by kernel_rfl) (by kernel_rfl) (fun _ _ _ h => h) (Or.inl ⟨by rfl, ?_⟩) (by assumption) ?_
  rotate_left
  ·intro W' hSw; obtain ⟨n0', k1'⟩ := HUP.out W' hSw; clear hSw; go_simp; try with_reducible rfl
  try simp only [Act.put, List.getElem_toArray, List.getElem_cons_succ, List.getElem_cons_zero, List.setIfInBounds_toArray, List.set_cons_zero, List.set_cons_succ]
  refine wpAnyH_take (i := 13) (v := ?_) rfl (by kernel_rfl) (by kernel_rfl) (by kernel_rfl) (fun _ _ _ h => h) (Or.inl ⟨by rfl, ?_⟩) (by assumption) ?_
  rotate_left
  ·intro W' hSw; obtain ⟨n0', k1'⟩ := HUP.out W' hSw; clear hSw; go_simp; try with_reducible rfl
  try simp only [Act.put, List.getElem_toArray, List.getElem_cons_succ, List.getElem_cons_zero, List.setIfInBounds_toArray, List.set_cons_zero, List.set_cons_succ]
  refine wpAnyH_take (i := 14) (v := ?_) rfl (by kernel_rfl) (by kernel_rfl) (by kernel_rfl) (fun _ _ _ h => h) (Or.inl ⟨by rfl, ?_⟩) (by assumption) ?_
  rotate_left
  ·intro W' hSw; obtain ⟨n0', k1'⟩ := HUP.out W' hSw; clear hSw; go_simp; try with_reducible rfl
  try simp only [Act.put, List.getElem_toArray, List.getElem_cons_succ, List.getElem_cons_zero, List.setIfInBounds_toArray, List.set_cons_zero, List.set_cons_succ]
  refine wpAnyH_take (i := 15) (v := ?_) rfl (by kernel_rfl) (by kernel_rfl) (by kernel_rfl) (fun _ _ _ h => h) (Or.inl ⟨by rfl, ?_⟩) (by assumption) ?_
  rotate_left
  ·intro W' hSw; obtain ⟨n0', k1'⟩ := HUP.out W' hSw; clear hSw; go_simp; try with_reducible rfl
  try simp only [Act.put, List.getElem_toArray, List.getElem_cons_succ, List.getElem_cons_zero, List.setIfInBounds_toArray, List.set_cons_zero, List.set_cons_succ]
  refine wpAnyH_ready (rs := [16, 17]) (by kernel_rfl) (by simp) ?_
  refine AllReadyH.cons rfl (fun KK hK => ?_) (AllReadyH.cons rfl (fun KK hK => ?_) AllReadyH.nil)
  ·go_simp
   refine hK.out _ _ HZ1.out (fun hHeld => ?_)
   clear hK KK
   try simp only [Act.put, List.getElem_toArray, List.getElem_cons_succ, List.getElem_cons_zero, List.setIfInBounds_toArray, List.set_cons_zero, List.set_cons_succ]
   refine wpAnyH_ready (rs := [17]) (by kernel_rfl) (by simp) ?_
   refine AllReadyH.cons rfl (fun KK hK => ?_) AllReadyH.nil
   go_simp
   refine hK.out _ _ HZ2.out (fun hHeld => ?_)
   clear hK KK
   try simp only [Act.put, List.getElem_toArray, List.getElem_cons_succ, List.getElem_cons_zero, List.setIfInBounds_toArray, List.set_cons_zero, List.set_cons_succ]
   obtain ⟨WA, hWA⟩ : ∃ WA, WA = ((W2.alloc (.cells #[.int .i64 0, .int .i64 0, .int .i64 0] 75)).alloc (.cells #[.int .i64 0, .int .i64 0, .int .i64 0] 75)).drew := ⟨_, rfl⟩
   rw [← hWA] at hHeld
   rw [← hWA, ← hN2]
   obtain ⟨hA1, hA2⟩ := HZ3.out WA hWA
   have HN2 : Hid (N2 = W2.heap.size) := hN2
   clear hWA hN2
   have ca0 : WA.cell? ⟨N2, 0, none⟩ = some (.int .i64 0) := cell_of_row WA (N2) 0 _ _ _ hA1
   have ca1 : WA.cell? ⟨N2, 1, none⟩ = some (.int .i64 0) := cell_of_row WA (N2) 1 _ _ _ hA1
   have ca2 : WA.cell? ⟨N2, 2, none⟩ = some (.int .i64 0) := cell_of_row WA (N2) 2 _ _ _ hA1
   have cb0 : WA.cell? ⟨N2 + 1, 0, none⟩ = some (.int .i64 0) := cell_of_row WA (N2 + 1) 0 _ _ _ hA2
   have cb1 : WA.cell? ⟨N2 + 1, 1, none⟩ = some (.int .i64 0) := cell_of_row WA (N2 + 1) 1 _ _ _ hA2
   have cb2 : WA.cell? ⟨N2 + 1, 2, none⟩ = some (.int .i64 0) := cell_of_row WA (N2 + 1) 2 _ _ _ hA2
   have fa : ∀ o, WA.frozen? ⟨N2, o, none⟩ = false := fun o => Lib.frozen_of_heap hA1 o
   have fb : ∀ o, WA.frozen? ⟨N2 + 1, o, none⟩ = false := fun o => Lib.frozen_of_heap hA2 o
   have HS1 := (set3 hA1 hHeld (by have := HN2.out; omega) (.int .i64 (p : Int)) (.int .i64 (gone : Int)) (.int .i64 (come : Int)))
   refine wpAnyH_ready (rs := [18]) (by kernel_rfl) (by simp) ?_
   refine AllReadyH.cons rfl (fun KK hK => ?_) AllReadyH.nil
   go_simp
   refine hK.out _ _ HS1.2.2 (fun hHeld => ?_)
   clear hK KK
   try simp only [Act.put, List.getElem_toArray, List.getElem_cons_succ, List.getElem_cons_zero, List.setIfInBounds_toArray, List.set_cons_zero, List.set_cons_succ]
   clear ca0 ca1 ca2 cb0 cb1 cb2 fa fb
   obtain ⟨WB, hWB⟩ : ∃ WB, WB = (((WA.setCell ⟨N2, 0, none⟩ (.int .i64 (p : Int))).setCell ⟨N2, 1, none⟩ (.int .i64 (gone : Int))).setCell ⟨N2, 2, none⟩ (.int .i64 (come : Int))) := ⟨_, rfl⟩
   rw [← hWB] at hHeld HS1
   rw [← hWB]
   clear hWB
   obtain ⟨hs1, hs2, hs3⟩ := HS1
   have hB2 := (hs2 (N2 + 1) (by omega)).trans hA2
   clear hs2 hs3 hA1 hA2
   have c0 : WB.cell? ⟨N2 + 1, 0, none⟩ = some (.int .i64 0) := cell_of_row WB (N2 + 1) 0 _ _ _ hB2
   have c1 : WB.cell? ⟨N2 + 1, 1, none⟩ = some (.int .i64 0) := cell_of_row WB (N2 + 1) 1 _ _ _ hB2
   have c2 : WB.cell? ⟨N2 + 1, 2, none⟩ = some (.int .i64 0) := cell_of_row WB (N2 + 1) 2 _ _ _ hB2
   have fb : ∀ o, WB.frozen? ⟨N2 + 1, o, none⟩ = false := fun o => Lib.frozen_of_heap hB2 o
   have HS2 := (set3 hB2 hHeld (by have := HN2.out; omega) (.int .i64 (nb : Int)) (.int .i64 (gone : Int)) (.int .i64 (come : Int)))
   refine wpAnyH_ready (rs := [19]) (by kernel_rfl) (by simp) ?_
   refine AllReadyH.cons rfl (fun KK hK => ?_) AllReadyH.nil
   go_simp
   refine hK.out _ _ HS2.2.2 (fun hHeld => ?_)
   clear hK KK
   try simp only [Act.put, List.getElem_toArray, List.getElem_cons_succ, List.getElem_cons_zero, List.setIfInBounds_toArray, List.set_cons_zero, List.set_cons_succ]
   clear c0 c1 c2 fb
   obtain ⟨WC, hWC⟩ : ∃ WC, WC = (((WB.setCell ⟨N2 + 1, 0, none⟩ (.int .i64 (nb : Int))).setCell ⟨N2 + 1, 1, none⟩ (.int .i64 (gone : Int))).setCell ⟨N2 + 1, 2, none⟩ (.int .i64 (come : Int))) := ⟨_, rfl⟩
   rw [← hWC] at hHeld HS2
   rw [← hWC]
   clear hWC
   have HB6 : Hid (Below N2 W2 WC) := hHeld
   refine wpAnyH_done (by kernel_rfl) ?_ _
   refine NoPanic.normal ?_
   clear hHeld
   go_wp2_with fail
   go_meet
   exact ⟨_, _, rfl, rfl, (HS2.2.1 (N2) (by omega)).trans hs1, HS2.1, HB6.out, (by have := HN2.out; omega), (by have := HN2.out; omega)⟩
  ·go_simp
   refine hK.out _ _ HZ1.out (fun hHeld => ?_)
   clear hK KK
   try simp only [Act.put, List.getElem_toArray, List.getElem_cons_succ, List.getElem_cons_zero, List.setIfInBounds_toArray, List.set_cons_zero, List.set_cons_succ]
   refine wpAnyH_ready (rs := [16]) (by kernel_rfl) (by simp) ?_
   refine AllReadyH.cons rfl (fun KK hK => ?_) AllReadyH.nil
   go_simp
   refine hK.out _ _ HZ2.out (fun hHeld => ?_)
   clear hK KK
   try simp only [Act.put, List.getElem_toArray, List.getElem_cons_succ, List.getElem_cons_zero, List.setIfInBounds_toArray, List.set_cons_zero, List.set_cons_succ]
   obtain ⟨WA, hWA⟩ : ∃ WA, WA = ((W2.alloc (.cells #[.int .i64 0, .int .i64 0, .int .i64 0] 75)).alloc (.cells #[.int .i64 0, .int .i64 0, .int .i64 0] 75)).drew := ⟨_, rfl⟩
   rw [← hWA] at hHeld
   rw [← hWA, ← hN2]
   obtain ⟨hA1, hA2⟩ := HZ3.out WA hWA
   have HN2 : Hid (N2 = W2.heap.size) := hN2
   clear hWA hN2
   have ca0 : WA.cell? ⟨N2, 0, none⟩ = some (.int .i64 0) := cell_of_row WA (N2) 0 _ _ _ hA1
   have ca1 : WA.cell? ⟨N2, 1, none⟩ = some (.int .i64 0) := cell_of_row WA (N2) 1 _ _ _ hA1
   have ca2 : WA.cell? ⟨N2, 2, none⟩ = some (.int .i64 0) := cell_of_row WA (N2) 2 _ _ _ hA1
   have cb0 : WA.cell? ⟨N2 + 1, 0, none⟩ = some (.int .i64 0) := cell_of_row WA (N2 + 1) 0 _ _ _ hA2
   have cb1 : WA.cell? ⟨N2 + 1, 1, none⟩ = some (.int .i64 0) := cell_of_row WA (N2 + 1) 1 _ _ _ hA2
   have cb2 : WA.cell? ⟨N2 + 1, 2, none⟩ = some (.int .i64 0) := cell_of_row WA (N2 + 1) 2 _ _ _ hA2
   have fa : ∀ o, WA.frozen? ⟨N2, o, none⟩ = false := fun o => Lib.frozen_of_heap hA1 o
   have fb : ∀ o, WA.frozen? ⟨N2 + 1, o, none⟩ = false := fun o => Lib.frozen_of_heap hA2 o
   have HS1 := (set3 hA2 hHeld (by have := HN2.out; omega) (.int .i64 (p : Int)) (.int .i64 (gone : Int)) (.int .i64 (come : Int)))
   refine wpAnyH_ready (rs := [18]) (by kernel_rfl) (by simp) ?_
   refine AllReadyH.cons rfl (fun KK hK => ?_) AllReadyH.nil
   go_simp
   refine hK.out _ _ HS1.2.2 (fun hHeld => ?_)
   clear hK KK
   try simp only [Act.put, List.getElem_toArray, List.getElem_cons_succ, List.getElem_cons_zero, List.setIfInBounds_toArray, List.set_cons_zero, List.set_cons_succ]
   clear ca0 ca1 ca2 cb0 cb1 cb2 fa fb
   obtain ⟨WB, hWB⟩ : ∃ WB, WB = (((WA.setCell ⟨N2 + 1, 0, none⟩ (.int .i64 (p : Int))).setCell ⟨N2 + 1, 1, none⟩ (.int .i64 (gone : Int))).setCell ⟨N2 + 1, 2, none⟩ (.int .i64 (come : Int))) := ⟨_, rfl⟩
   rw [← hWB] at hHeld HS1
   rw [← hWB]
   clear hWB
   obtain ⟨hs1, hs2, hs3⟩ := HS1
   have hB2 := (hs2 (N2) (by omega)).trans hA1
   clear hs2 hs3 hA1 hA2
   have c0 : WB.cell? ⟨N2, 0, none⟩ = some (.int .i64 0) := cell_of_row WB (N2) 0 _ _ _ hB2
   have c1 : WB.cell? ⟨N2, 1, none⟩ = some (.int .i64 0) := cell_of_row WB (N2) 1 _ _ _ hB2
   have c2 : WB.cell? ⟨N2, 2, none⟩ = some (.int .i64 0) := cell_of_row WB (N2) 2 _ _ _ hB2
   have fb : ∀ o, WB.frozen? ⟨N2, o, none⟩ = false := fun o => Lib.frozen_of_heap hB2 o
   have HS2 := (set3 hB2 hHeld (by have := HN2.out; omega) (.int .i64 (nb : Int)) (.int .i64 (gone : Int)) (.int .i64 (come : Int)))
   refine wpAnyH_ready (rs := [19]) (by kernel_rfl) (by simp) ?_
   refine AllReadyH.cons rfl (fun KK hK => ?_) AllReadyH.nil
   go_simp
   refine hK.out _ _ HS2.2.2 (fun hHeld => ?_)
   clear hK KK
   try simp only [Act.put, List.getElem_toArray, List.getElem_cons_succ, List.getElem_cons_zero, List.setIfInBounds_toArray, List.set_cons_zero, List.set_cons_succ]
   clear c0 c1 c2 fb
   obtain ⟨WC, hWC⟩ : ∃ WC, WC = (((WB.setCell ⟨N2, 0, none⟩ (.int .i64 (nb : Int))).setCell ⟨N2, 1, none⟩ (.int .i64 (gone : Int))).setCell ⟨N2, 2, none⟩ (.int .i64 (come : Int))) := ⟨_, rfl⟩
   rw [← hWC] at hHeld HS2
   rw [← hWC]
   clear hWC
   have HB6 : Hid (Below N2 W2 WC) := hHeld
   refine wpAnyH_done (by kernel_rfl) ?_ _
   refine NoPanic.normal ?_
   clear hHeld
   go_wp2_with fail
   go_meet
   exact ⟨_, _, rfl, rfl, (HS2.2.1 (N2 + 1) (by omega)).trans hs1, HS2.1, HB6.out, (by have := HN2.out; omega), (by have := HN2.out; omega)⟩
 case rest =>
  obtain ⟨N10, N11, hx10, hx11, h10, h11, hbc, hl10, hl11⟩ := hcut
  subst hx10 hx11
  obtain ⟨W3, hW3⟩ : ∃ W, W = wc := ⟨_, rfl⟩
  rw [← hW3] at h10 h11 hbc ⊢
  rw [hN2] at hbc hl10 hl11
  clear hW3 HUP HZ1 HZ2 HZ3
  have hB3 := HBOX.out W3 (HB2.out.trans (hbc.mono HB2.out.size))
  have HB3 : Hid (W3.heap[N0]? = some (.cells #[.pointer (some ⟨P, 0, none⟩)] 34) ∧ WinX W3 P tb B xs (.slice ta n tcap) av bv (n + 1) (stI nxA xs) (n + 1) (stI nxB xs.reverse) tc ∧ ChgW w W3 (OwnW P (.slice ta n tcap) av bv) ∧ W3.heap[N10]? = some (.cells #[.int .i64 (p : Int), .int .i64 (gone : Int), .int .i64 (come : Int)] 75) ∧ W3.heap[N11]? = some (.cells #[.int .i64 (nb : Int), .int .i64 (gone : Int), .int .i64 (come : Int)] 75) ∧ w.heap.size ≤ N0 ∧ w.heap.size ≤ N10 ∧ w.heap.size ≤ N11) := by
   have h1 := HB2.out.size
   have h2 := HB1.out.1.size
   have h3 := HPG.out
   exact ⟨hB3.1, hB3.2.1, hB3.2.2, h10, h11, by omega, by omega, by omega⟩
  have HRD3 : Hid (Rd .i64 W3 va come cls) := by
   have hb : Below w.heap.size w W3 := HB1.out.1.trans ((HB2.out.trans (hbc.mono HB2.out.size)).mono HB1.out.1.size)
   exact HR.out.1.later hb
  clear hB3 h10 h11 hbc hl10 hl11 HBOX HB1 HB2 hN2 hN0l hPl
  obtain ⟨L, hL⟩ : ∃ L, L = (spl xs p gone cls).length := ⟨_, rfl⟩
  obtain ⟨LZ, hLZ⟩ : ∃ LZ : Int, LZ = (L : Int) - 1 := ⟨_, rfl⟩
  have hLl : L ≤ 100000 := by have := HPG.out; rw [hL, spl_len xs cls p gone (by omega)]; omega
  have hwL : IntKind.i64.wrap ((L : Int) - 1) = LZ := by rw [IntKind.wrap_i64]; omega
  have HLL : Hid (L = (spl xs p gone cls).length ∧ LZ = (L : Int) - 1) := ⟨hL, hLZ⟩
  clear hL hLZ
  -- Replace
  have n0 : W3.cell? ⟨N0, 0, none⟩ = some (.pointer (some ⟨P, 0, none⟩)) := cell_of_row W3 N0 0 _ _ _ HB3.out.1
  obtain ⟨k0, k1, k2, k3, k4, kf⟩ := win_cells HB3.out.2.1.1
  have HREP : Hid (Calls Tryd.prog 28 #[(.slice ta n tcap), .int .i64 (p : Int), .int .i64 (pg : Int), .slice va come vc] W3.drew fun e W4 => ∃ ta5 cap5, e = .returned (.slice ta5 L cap5) ∧ W4.ownsRow B 3 1 (.slice ta5 L cap5) L (jv (spl xs p gone cls)) ∧ W3.grownBy W4 (Value.slice ta n tcap).ownBlock ∧ AtB W3 (Value.slice ta n tcap).ownBlock (.slice ta5 L cap5)) := by
   have hP := HPG.out
   have h := HB3.out.2.1.2.1
   have hr := repI_any xs cls B (.slice ta n tcap) va vc come p pg W3.drew h (by have := HB3.out.2.2.1.2.2.2.1; show B ≤ W3.heap.size; omega) (by omega) (by omega) HRD3.out HR.out.2.1 HR.out.2.2 (by omega)
   rw [hP.1] at hr ⊢
   refine hr.mono fun e W4 ⟨v', he, ho, hg, ha⟩ => ?_
   obtain ⟨ta5, cap5, rfl, q1, q2, q3, q4⟩ := own_rdI ho
   have hLL : (xs.take p ++ cls ++ xs.drop (p + gone)).length = L := HLL.out.1.symm
   rw [hLL] at he ho ha
   exact ⟨ta5, cap5, he, ho, ⟨hg.os, hg.tape, hg.output, hg.size, hg.block⟩, ha⟩
  clear k0 k2 k3 k4 kf
  go_upto_region 7 with fail
  refine wp_region_noPanic ?_
  refine wp_region_held_drew (S := (fun w' => w'.cell? ⟨N0, 0, none⟩ = some (.pointer (some ⟨P, 0, none⟩)))) (by kernel_rfl) (n0) (fun hHeld => ?_)
  refine wpAnyH_take (i := 0) (v := ?_) rfl (by kernel_rfl) (by kernel_rfl) (by kernel_rfl) (fun _ _ _ h => h) (Or.inl ⟨by rfl, ?_⟩) (by assumption) ?_
  rotate_left
  ·intro W' hSw; have s0 := hSw; clear hSw; go_simp; try with_reducible rfl
  try simp only [Act.put, List.getElem_toArray, List.getElem_cons_succ, List.getElem_cons_zero, List.setIfInBounds_toArray, List.set_cons_zero, List.set_cons_succ]
  refine wpAnyH_take (i := 1) (v := ?_) rfl (by kernel_rfl) (by kernel_rfl) (by kernel_rfl) (fun _ _ _ h => h) (Or.inl ⟨by rfl, ?_⟩) (by assumption) ?_
  rotate_left
  ·intro W' hSw; have s0 := hSw; clear hSw; go_simp; try with_reducible rfl
  try simp only [Act.put, List.getElem_toArray, List.getElem_cons_succ, List.getElem_cons_zero, List.setIfInBounds_toArray, List.set_cons_zero, List.set_cons_succ]
  refine wpAnyH_take (i := 2) (v := ?_) rfl (by kernel_rfl) (by kernel_rfl) (by kernel_rfl) (fun _ _ _ h => h) (Or.inl ⟨by rfl, ?_⟩) (by assumption) ?_
  rotate_left
  ·intro W' hSw; have s0 := hSw; clear hSw; go_simp; try with_reducible rfl
  try simp only [Act.put, List.getElem_toArray, List.getElem_cons_succ, List.getElem_cons_zero, List.setIfInBounds_toArray, List.set_cons_zero, List.set_cons_succ]
  refine wpAnyH_take (i := 3) (v := ?_) rfl (by kernel_rfl) (by kernel_rfl) (by kernel_rfl) (fun _ _ _ h => h) (Or.inl ⟨by rfl, ?_⟩) (by assumption) ?_
  rotate_left
  ·intro W' hSw; have s0 := hSw; clear hSw; go_simp; try with_reducible rfl
  try simp only [Act.put, List.getElem_toArray, List.getElem_cons_succ, List.getElem_cons_zero, List.setIfInBounds_toArray, List.set_cons_zero, List.set_cons_succ]
  refine wpAnyH_take (i := 5) (v := ?_) rfl (by kernel_rfl) (by kernel_rfl) (by kernel_rfl) (fun _ _ _ h => h) (Or.inl ⟨by rfl, ?_⟩) (by assumption) ?_
  rotate_left
  ·intro W' hSw; have s0 := hSw; clear hSw; go_simp; try with_reducible rfl
  try simp only [Act.put, List.getElem_toArray, List.getElem_cons_succ, List.getElem_cons_zero, List.setIfInBounds_toArray, List.set_cons_zero, List.set_cons_succ]
  refine wpAnyH_take (i := 6) (v := ?_) rfl (by kernel_rfl) (by kernel_rfl) (by kernel_rfl) (fun _ _ _ h => h) (Or.inl ⟨by rfl, ?_⟩) (by assumption) ?_
  rotate_left
  ·intro W' hSw; have s0 := hSw; clear hSw; go_simp; try with_reducible rfl
  try simp only [Act.put, List.getElem_toArray, List.getElem_cons_succ, List.getElem_cons_zero, List.setIfInBounds_toArray, List.set_cons_zero, List.set_cons_succ]
  refine wpAnyH_take (i := 7) (v := ?_) rfl (by kernel_rfl) (by kernel_rfl) (by kernel_rfl) (fun _ _ _ h => h) (Or.inl ⟨by rfl, ?_⟩) (by assumption) ?_
  rotate_left
  ·intro W' hSw; have s0 := hSw; clear hSw; go_simp; try with_reducible rfl
  try simp only [Act.put, List.getElem_toArray, List.getElem_cons_succ, List.getElem_cons_zero, List.setIfInBounds_toArray, List.set_cons_zero, List.set_cons_succ]
  refine wpAnyH_take (i := 8) (v := ?_) rfl (by kernel_rfl) (by kernel_rfl) (by kernel_rfl) (fun _ _ _ h => h) (Or.inl ⟨by rfl, ?_⟩) (by assumption) ?_
  rotate_left
  ·intro W' hSw; have s0 := hSw; clear hSw; go_simp; try with_reducible rfl
  try simp only [Act.put, List.getElem_toArray, List.getElem_cons_succ, List.getElem_cons_zero, List.setIfInBounds_toArray, List.set_cons_zero, List.set_cons_succ]
  refine wpAnyH_take (i := 9) (v := ?_) rfl (by kernel_rfl) (by kernel_rfl) (by kernel_rfl) (fun _ _ _ h => h) (Or.inl ⟨by rfl, ?_⟩) (by assumption) ?_
  rotate_left
  ·intro W' hSw; have s0 := hSw; clear hSw; go_simp; try with_reducible rfl
  try simp only [Act.put, List.getElem_toArray, List.getElem_cons_succ, List.getElem_cons_zero, List.setIfInBounds_toArray, List.set_cons_zero, List.set_cons_succ]
  refine wpAnyH_ready (rs := [4]) (by kernel_rfl) (by simp) ?_
  refine AllReadyH.cons rfl (fun KK hK => ?_) AllReadyH.nil
  go_simp
  refine hK.out _ _ (show W3.drew.cell? ⟨N0, 0, none⟩ = some (.pointer (some ⟨P, 0, none⟩)) from n0) (fun hHeld => ?_)
  clear hK KK
  try simp only [Act.put, List.getElem_toArray, List.getElem_cons_succ, List.getElem_cons_zero, List.setIfInBounds_toArray, List.set_cons_zero, List.set_cons_succ]
  clear n0 k1
  refine wpAnyH_ready (rs := [10]) (by kernel_rfl) (by simp) ?_
  refine AllReadyH.cons rfl (fun KK hK => ?_) AllReadyH.nil
  go_simp
  refine HREP.out.mono ?_
  rintro e W4 ⟨ta5, cap5, rfl, ho4, hg4, ha4⟩
  have HT4 : Hid (W4.ownsRow B 3 1 (.slice ta5 L cap5) L (jv (spl xs p gone cls)) ∧ W3.grownBy W4 (Value.slice ta n tcap).ownBlock ∧ AtB W3 (Value.slice ta n tcap).ownBlock (.slice ta5 L cap5)) := ⟨ho4, hg4, ha4⟩
  have HN4 : Hid (W4.heap[N0]? = some (.cells #[.pointer (some ⟨P, 0, none⟩)] 34) ∧ W4.heap[P]? = some (.cells (WCells tb (.slice ta n tcap) av bv tc) 72)) := by
   have hb := HB3.out
   exact ⟨(hg4.block N0 (Array.getElem?_eq_some_iff.1 hb.1).1 (fun e => by have := HNQ.out N0 (.inr (.inl e.symm)); omega)).trans hb.1, (hg4.block P (Array.getElem?_eq_some_iff.1 hb.2.1.1).1 (fun e => hb.2.1.2.2.2.2.1.1 e.symm)).trans hb.2.1.1⟩
  clear ho4 hg4 ha4 HREP
  go_simp
  refine hK.out _ _ (cell_of_row W4 N0 0 _ _ _ HN4.out.1) (fun hHeld => ?_)
  clear hK KK
  try simp only [Act.put, List.getElem_toArray, List.getElem_cons_succ, List.getElem_cons_zero, List.setIfInBounds_toArray, List.set_cons_zero, List.set_cons_succ]
  refine wpAnyH_take (i := 11) (v := ?_) rfl (by kernel_rfl) (by kernel_rfl) (by kernel_rfl) (fun _ _ _ h => h) (Or.inl ⟨by rfl, ?_⟩) (by assumption) ?_
  rotate_left
  ·intro W' hSw; have s0 := hSw; clear hSw; go_simp; try with_reducible rfl
  try simp only [Act.put, List.getElem_toArray, List.getElem_cons_succ, List.getElem_cons_zero, List.setIfInBounds_toArray, List.set_cons_zero, List.set_cons_succ]
  refine wpAnyH_take (i := 12) (v := ?_) rfl (by kernel_rfl) (by kernel_rfl) (by kernel_rfl) (fun _ _ _ h => h) (Or.inl ⟨by rfl, ?_⟩) (by assumption) ?_
  rotate_left
  ·intro W' hSw; have s0 := hSw; clear hSw; go_simp; try with_reducible rfl
  try simp only [Act.put, List.getElem_toArray, List.getElem_cons_succ, List.getElem_cons_zero, List.setIfInBounds_toArray, List.set_cons_zero, List.set_cons_succ]
  obtain ⟨k0, k1, k2, k3, k4, kf⟩ := win_cells HN4.out.2
  clear k0 k2 k3 k4
  have hf1 := kf 1
  clear kf
  have HW5 : Hid (WinX (W4.setCell ⟨P, 1, none⟩ (.slice ta5 L cap5)) P tb B (spl xs p gone cls) (.slice ta5 L cap5) av bv (n + 1) (stI nxA xs) (n + 1) (stI nxB xs.reverse) tc ∧ ChgW W3 (W4.setCell ⟨P, 1, none⟩ (.slice ta5 L cap5)) (fun k => k = P ∨ (Value.slice ta n tcap).ownBlock = some k)) := win_text HB3.out.2.1 HT4.out.2.1 (by rw [← HLL.out.1]; exact HT4.out.1) HT4.out.2.2
  have HN5 : Hid (∀ N o, w.heap.size ≤ N → W3.heap[N]? = some o → (W4.setCell ⟨P, 1, none⟩ (.slice ta5 L cap5)).heap[N]? = some o) := fun N o hN h => chg_heap HW5.out.2 h (by
   have hb := HNQ.out N
   have hP := HPG.out
   rintro (rfl | e)
   ·omega
   ·have := hb (.inr (.inl e)); omega)
  refine wpAnyH_ready (rs := [13]) (by kernel_rfl) (by simp) ?_
  refine AllReadyH.cons rfl (fun KK hK => ?_) AllReadyH.nil
  go_simp
  refine hK.out _ _ (cell_of_row _ N0 0 _ _ _ (HN5.out N0 _ HB3.out.2.2.2.2.2.1 HB3.out.1)) (fun hHeld => ?_)
  clear hK KK
  try simp only [Act.put, List.getElem_toArray, List.getElem_cons_succ, List.getElem_cons_zero, List.setIfInBounds_toArray, List.set_cons_zero, List.set_cons_succ]
  refine wpAnyH_done (by kernel_rfl) ?_ _
  refine NoPanic.normal ?_
  clear hHeld
  clear k1 hf1
  obtain ⟨W5, hW5⟩ : ∃ W, W = W4.setCell ⟨P, 1, none⟩ (.slice ta5 L cap5) := ⟨_, rfl⟩
  rw [← hW5] at HW5 HN5
  rw [← hW5]
  clear hW5
  have HB5 : Hid (W5.heap[N0]? = some (.cells #[.pointer (some ⟨P, 0, none⟩)] 34) ∧ WinX W5 P tb B (spl xs p gone cls) (.slice ta5 L cap5) av bv (n + 1) (stI nxA xs) (n + 1) (stI nxB xs.reverse) tc ∧ ChgW w W5 (OwnW P (.slice ta n tcap) av bv) ∧ W5.heap[N10]? = some (.cells #[.int .i64 (p : Int), .int .i64 (gone : Int), .int .i64 (come : Int)] 75) ∧ W5.heap[N11]? = some (.cells #[.int .i64 (nb : Int), .int .i64 (gone : Int), .int .i64 (come : Int)] 75) ∧ w.heap.size ≤ N0 ∧ w.heap.size ≤ N10 ∧ w.heap.size ≤ N11 ∧ AtB w (Value.slice ta n tcap).ownBlock (.slice ta5 L cap5)) := by
   obtain ⟨b1, b2, b3, b4, b5, b6, b7, b8⟩ := HB3.out
   refine ⟨HN5.out _ _ b6 b1, HW5.out.1, chg_trans b3 HW5.out.2 (fun k _ r => r.elim .inl (fun e => .inr (.inl e))), HN5.out _ _ b7 b4, HN5.out _ _ b8 b5, b6, b7, b8, fun k hk => (HT4.out.2.2 k hk).elim .inl (fun h => .inr ?_)⟩
   have := b3.2.2.2.1
   omega
  clear HN4 HT4 HW5 HN5 HB3 HRD3
  have n0 : W5.cell? ⟨N0, 0, none⟩ = some (.pointer (some ⟨P, 0, none⟩)) := cell_of_row W5 N0 0 _ _ _ HB5.out.1
  obtain ⟨k0, k1, k2, k3, k4, kf⟩ := win_cells HB5.out.2.1.1
  clear k0 k2 k3 k4 kf
  go_upto_region 10 with fail
  clear n0 k1 hwL
  obtain ⟨N12, hN12⟩ : ∃ N, N = W5.heap.size := ⟨_, rfl⟩
  obtain ⟨W6, hW6⟩ : ∃ W, W = W5.alloc (.cells #[.int .i64 LZ] 3) := ⟨_, rfl⟩
  rw [← hW6, ← hN12]
  have HB6 : Hid (W6.heap[N0]? = some (.cells #[.pointer (some ⟨P, 0, none⟩)] 34) ∧ WinX W6 P tb B (spl xs p gone cls) (.slice ta5 L cap5) av bv (n + 1) (stI nxA xs) (n + 1) (stI nxB xs.reverse) tc ∧ ChgW w W6 (OwnW P (.slice ta n tcap) av bv) ∧ W6.heap[N10]? = some (.cells #[.int .i64 (p : Int), .int .i64 (gone : Int), .int .i64 (come : Int)] 75) ∧ W6.heap[N11]? = some (.cells #[.int .i64 (nb : Int), .int .i64 (gone : Int), .int .i64 (come : Int)] 75) ∧ W6.heap[N12]? = some (.cells #[.int .i64 LZ] 3) ∧ w.heap.size ≤ N0 ∧ w.heap.size ≤ N10 ∧ w.heap.size ≤ N11 ∧ w.heap.size ≤ N12 ∧ AtB w (Value.slice ta n tcap).ownBlock (.slice ta5 L cap5)) := by
   obtain ⟨b1, b2, b3, b4, b5, b6, b7, b8, b9⟩ := HB5.out
   have hb : Below W5.heap.size W5 W6 := by rw [hW6]; exact (Below.refl _ W5).alloc (Nat.le_refl _) _
   have hup : ∀ N o, W5.heap[N]? = some o → W6.heap[N]? = some o := fun N o h => (hb.block N (Array.getElem?_eq_some_iff.1 h).1).trans h
   exact ⟨hup _ _ b1, b2.keep (chg_below hb (fun _ => False)) (fun _ _ h => h), chg_trans b3 (chg_below hb (fun _ => False)) (fun _ _ h => h.elim), hup _ _ b4, hup _ _ b5, by rw [hN12, hW6]; exact heap_alloc_new W5 _, b6, b7, b8, by have := b3.2.2.2.1; omega, b9⟩
  clear HB5 hN12 hW6
  obtain ⟨ga, capa, rfl, q1, q2⟩ := own_someF HB6.out.2.1.2.2.1 (by omega)
  clear q1 q2
  obtain ⟨gb, capb, rfl, q1, q2⟩ := own_someF HB6.out.2.1.2.2.2.1 (by omega)
  clear q1 q2
  have hmf : ∀ (fn : Fn) (first cp : Array Value) (w : World), (Instr.makeFunc fn first cp).run Tryd.prog w = .ok (.func fn first cp) w := fun _ _ _ _ => rfl
  have HSX : Hid (∀ W, ChgW w W (OwnW P (.slice ta n tcap) (.slice (some ⟨ga, 0, none⟩) (n + 1) capa) (.slice (some ⟨gb, 0, none⟩) (n + 1) capb)) → W.heap[N0]? = some (.cells #[.pointer (some ⟨P, 0, none⟩)] 34) → W.heap[N10]? = some (.cells #[.int .i64 (p : Int), .int .i64 (gone : Int), .int .i64 (come : Int)] 75) → W.cell? ⟨P, 0, none⟩ = some (.pointer (some ⟨tb, 0, none⟩)) → W.cell? ⟨N0, 0, none⟩ = some (.pointer (some ⟨P, 0, none⟩)) ∧ W.cell? ⟨P, 0, none⟩ = some (.pointer (some ⟨tb, 0, none⟩)) ∧ W.cell? ⟨tb, 0, none⟩ = some (.pointer (some ⟨la, 0, none⟩)) ∧ W.cell? ⟨N10, 0, none⟩ = some (.int .i64 (p : Int)) ∧ W.cell? ⟨N10, 1, none⟩ = some (.int .i64 (gone : Int)) ∧ W.cell? ⟨N10, 2, none⟩ = some (.int .i64 (come : Int))) := fun W hc h1 h2 h3 =>
   ⟨cell_of_row W N0 0 _ _ _ h1, h3, cell_of_row W tb 0 _ _ _ (HT.out W hc).1, cell_of_row W N10 0 _ _ _ h2, cell_of_row W N10 1 _ _ _ h2, cell_of_row W N10 2 _ _ _ h2⟩
  have HSA : Hid (W6.cell? ⟨N0, 0, none⟩ = some (.pointer (some ⟨P, 0, none⟩)) ∧ W6.cell? ⟨P, 0, none⟩ = some (.pointer (some ⟨tb, 0, none⟩)) ∧ W6.cell? ⟨tb, 0, none⟩ = some (.pointer (some ⟨la, 0, none⟩)) ∧ W6.cell? ⟨N10, 0, none⟩ = some (.int .i64 (p : Int)) ∧ W6.cell? ⟨N10, 1, none⟩ = some (.int .i64 (gone : Int)) ∧ W6.cell? ⟨N10, 2, none⟩ = some (.int .i64 (come : Int))) := by
   obtain ⟨b1, b2, b3, b4, b5, b6, b7, b8, b9, b10, b11⟩ := HB6.out
   exact HSX.out W6 b3 b1 b4 (win_cells b2.1).1
  have HGR : Hid (∀ W, W6.grownBy W (some ga) → (∀ N o, w.heap.size ≤ N → W6.heap[N]? = some o → W.heap[N]? = some o) ∧ ChgW w W (OwnW P (.slice ta n tcap) (.slice (some ⟨ga, 0, none⟩) (n + 1) capa) (.slice (some ⟨gb, 0, none⟩) (n + 1) capb)) ∧ W.heap[P]? = some (.cells (WCells tb (.slice ta5 L cap5) (.slice (some ⟨ga, 0, none⟩) (n + 1) capa) (.slice (some ⟨gb, 0, none⟩) (n + 1) capb) tc) 72) ∧ W.ownsRow B 3 1 (.slice ta5 L cap5) L (jv (spl xs p gone cls))) := fun W hg => by
   obtain ⟨b1, b2, b3, b4, b5, b6, b7, b8, b9, b10, b11⟩ := HB6.out
   have hc := chg_gb hg
   have hl := HLL.out.1
   refine ⟨fun N o hN h => chg_heap hc h (fun e => by have := HNQ.out N (.inr (.inr (.inl e))); omega), chg_trans b3 hc (fun k _ e => (.inr (.inr (.inl e)))), chg_heap hc b2.1 (fun e => b2.2.2.2.2.1.2.1 e), ?_⟩
   rw [hl]
   rw [hl] at b2
   exact chg_own hc b2.2.1 (fun k hk e => (b2.2.2.2.2.1.2.2.2.1 k hk).1 e)
  have HRUN : Hid (Calls Tryd.prog 29 #[.func (.func 30) #[.pointer (some ⟨la, 0, none⟩)] #[], .func (.func 31) #[] #[.pointer (some ⟨N0, 0, none⟩)], (.slice (some ⟨ga, 0, none⟩) (n + 1) capa), .agg #[.int .i64 (p : Int), .int .i64 (gone : Int), .int .i64 (come : Int)]] W6.drew fun e W7 => ∃ g7 cap7 r1, e = .returned (.tuple #[(.slice (some ⟨g7, 0, none⟩) (L + 1) cap7), .int .i64 ((r1 : Nat) : Int)]) ∧ RdN nxA xs cls p gone r1 ∧ W7.ownsRow B 3 1 (.slice (some ⟨g7, 0, none⟩) (L + 1) cap7) (L + 1) (jv (rowF (L + 1) (stI nxA (spl xs p gone cls)))) ∧ W6.grownBy W7 (some ga) ∧ AtB W6 (some ga) (.slice (some ⟨g7, 0, none⟩) (L + 1) cap7)) := by
   obtain ⟨b1, b2, b3, b4, b5, b6, b7, b8, b9, b10, b11⟩ := HB6.out
   obtain ⟨hP1, hP2, hP3, hP4, hP5, hP6, hP7, hP8, hP9, hP10⟩ := HPG.out
   obtain ⟨m1, m2, m3, m4⟩ := HMA.out
   have hl := HLL.out.1
   have hsp : spl xs p gone cls = (spl xs p gone cls) := by
    rfl
   have hg6 : ∀ W, W6.drew.grownBy W (some ga) → W6.grownBy W (some ga) := fun W h => ⟨h.os, h.tape, h.output, h.size, h.block⟩
   have hr := run1_any nxA ouA K la W6.drew xs cls p gone come n B (.slice (some ⟨ga, 0, none⟩) (n + 1) capa) (.pointer (some ⟨N0, 0, none⟩)) m1 m2
    (fun W hg => (HT.out W (HGR.out W (hg6 W hg)).2.1).2.1) (by exact hP4) (by omega) (by exact hP5) (by rw [hsp]; exact HCL.out) (by show B ≤ W6.heap.size; have := b3.2.2.2.1; omega)
    (fun W hg k hk => by
     obtain ⟨u1, u2, u3, u4⟩ := HGR.out W (hg6 W hg)
     rw [hsp] at hk ⊢
     exact clos1_any W N0 P tb L cap5 k ta5 (.slice (some ⟨ga, 0, none⟩) (n + 1) capa) (.slice (some ⟨gb, 0, none⟩) (n + 1) capb) tc (spl xs p gone cls) (u1 N0 _ b7 b1) u3 (own_rdS u4) (by omega))
    b2.2.2.1 (by omega)
   refine hr.mono fun e W7 h => ?_
   obtain ⟨v', r1, he, hrd', ho, hg, ha⟩ := h
   rw [hsp, ← hl] at ho
   obtain ⟨g7, cap7, rfl, _, _⟩ := own_someF ho (by omega)
   exact ⟨g7, cap7, r1, he, hrd', ho, hg6 W7 hg, ha⟩
  obtain ⟨k0, k1, k2, k3, k4, kf⟩ := win_cells HB6.out.2.1.1
  clear k0 k1 k3 k4 kf
  refine wp_region_noPanic ?_
  refine wp_region_held_drew (S := (fun w' => w'.cell? ⟨N0, 0, none⟩ = some (.pointer (some ⟨P, 0, none⟩)) ∧ w'.cell? ⟨P, 0, none⟩ = some (.pointer (some ⟨tb, 0, none⟩)) ∧ w'.cell? ⟨tb, 0, none⟩ = some (.pointer (some ⟨la, 0, none⟩)) ∧ w'.cell? ⟨N10, 0, none⟩ = some (.int .i64 (p : Int)) ∧ w'.cell? ⟨N10, 1, none⟩ = some (.int .i64 (gone : Int)) ∧ w'.cell? ⟨N10, 2, none⟩ = some (.int .i64 (come : Int)))) (by kernel_rfl) (HSA.out) (fun hHeld => ?_)
  refine wpAnyH_take (i := 0) (v := ?_) rfl (by kernel_rfl) (by kernel_rfl) (by kernel_rfl) (fun _ _ _ h => h) (Or.inl ⟨by rfl, ?_⟩) (by assumption) ?_
  rotate_left
  ·intro W' hSw; obtain ⟨s0, s1, s2, s3, s4, s5⟩ := hSw; go_simp; try with_reducible rfl
  try simp only [Act.put, List.getElem_toArray, List.getElem_cons_succ, List.getElem_cons_zero, List.setIfInBounds_toArray, List.set_cons_zero, List.set_cons_succ]
  refine wpAnyH_take (i := 1) (v := ?_) rfl (by kernel_rfl) (by kernel_rfl) (by kernel_rfl) (fun _ _ _ h => h) (Or.inl ⟨by rfl, ?_⟩) (by assumption) ?_
  rotate_left
  ·intro W' hSw; obtain ⟨s0, s1, s2, s3, s4, s5⟩ := hSw; go_simp; try with_reducible rfl
  try simp only [Act.put, List.getElem_toArray, List.getElem_cons_succ, List.getElem_cons_zero, List.setIfInBounds_toArray, List.set_cons_zero, List.set_cons_succ]
  refine wpAnyH_take (i := 2) (v := ?_) rfl (by kernel_rfl) (by kernel_rfl) (by kernel_rfl) (fun _ _ _ h => h) (Or.inl ⟨by rfl, ?_⟩) (by assumption) ?_
  rotate_left
  ·intro W' hSw; obtain ⟨s0, s1, s2, s3, s4, s5⟩ := hSw; go_simp; try with_reducible rfl
  try simp only [Act.put, List.getElem_toArray, List.getElem_cons_succ, List.getElem_cons_zero, List.setIfInBounds_toArray, List.set_cons_zero, List.set_cons_succ]
  refine wpAnyH_take (i := 3) (v := ?_) rfl (by kernel_rfl) (by kernel_rfl) (by kernel_rfl) (fun _ _ _ h => h) (Or.inl ⟨by rfl, ?_⟩) (by assumption) ?_
  rotate_left
  ·intro W' hSw; obtain ⟨s0, s1, s2, s3, s4, s5⟩ := hSw; go_simp; try with_reducible rfl
  try simp only [Act.put, List.getElem_toArray, List.getElem_cons_succ, List.getElem_cons_zero, List.setIfInBounds_toArray, List.set_cons_zero, List.set_cons_succ]
  refine wpAnyH_take (i := 4) (v := ?_) rfl (by kernel_rfl) (by kernel_rfl) (by kernel_rfl) (fun _ _ _ h => h) (Or.inl ⟨by rfl, ?_⟩) (by assumption) ?_
  rotate_left
  ·intro W' hSw; obtain ⟨s0, s1, s2, s3, s4, s5⟩ := hSw; go_simp; try with_reducible rfl
  try simp only [Act.put, List.getElem_toArray, List.getElem_cons_succ, List.getElem_cons_zero, List.setIfInBounds_toArray, List.set_cons_zero, List.set_cons_succ]
  refine wpAnyH_take (i := 5) (v := ?_) rfl (by kernel_rfl) (by kernel_rfl) (by kernel_rfl) (fun _ _ _ h => h) (Or.inl ⟨by rfl, ?_⟩) (by assumption) ?_
  rotate_left
  ·intro W' hSw; obtain ⟨s0, s1, s2, s3, s4, s5⟩ := hSw; go_simp; try with_reducible rfl
  try simp only [Act.put, List.getElem_toArray, List.getElem_cons_succ, List.getElem_cons_zero, List.setIfInBounds_toArray, List.set_cons_zero, List.set_cons_succ]
  refine wpAnyH_take (i := 6) (v := ?_) rfl (by kernel_rfl) (by kernel_rfl) (by kernel_rfl) (fun _ _ _ h => h) (Or.inl ⟨by rfl, ?_⟩) (by assumption) ?_
  rotate_left
  ·intro W' hSw; obtain ⟨s0, s1, s2, s3, s4, s5⟩ := hSw; go_simp; try with_reducible rfl
  try simp only [Act.put, List.getElem_toArray, List.getElem_cons_succ, List.getElem_cons_zero, List.setIfInBounds_toArray, List.set_cons_zero, List.set_cons_succ]
  refine wpAnyH_take (i := 7) (v := ?_) rfl (by kernel_rfl) (by kernel_rfl) (by kernel_rfl) (fun _ _ _ h => h) (Or.inl ⟨by rfl, ?_⟩) (by assumption) ?_
  rotate_left
  ·intro W' hSw; obtain ⟨s0, s1, s2, s3, s4, s5⟩ := hSw; go_simp; try with_reducible rfl
  try simp only [Act.put, List.getElem_toArray, List.getElem_cons_succ, List.getElem_cons_zero, List.setIfInBounds_toArray, List.set_cons_zero, List.set_cons_succ]
  refine wpAnyH_take (i := 8) (v := ?_) rfl (by kernel_rfl) (by kernel_rfl) (by kernel_rfl) (fun _ _ _ h => h) (Or.inl ⟨by rfl, ?_⟩) (by assumption) ?_
  rotate_left
  ·intro W' hSw; obtain ⟨s0, s1, s2, s3, s4, s5⟩ := hSw; go_simp; try with_reducible rfl
  try simp only [Act.put, List.getElem_toArray, List.getElem_cons_succ, List.getElem_cons_zero, List.setIfInBounds_toArray, List.set_cons_zero, List.set_cons_succ]
  refine wpAnyH_take (i := 9) (v := ?_) rfl (by kernel_rfl) (by kernel_rfl) (by kernel_rfl) (fun _ _ _ h => h) (Or.inl ⟨by rfl, ?_⟩) (by assumption) ?_
  rotate_left
  ·intro W' hSw; obtain ⟨s0, s1, s2, s3, s4, s5⟩ := hSw; go_simp; try with_reducible rfl
  try simp only [Act.put, List.getElem_toArray, List.getElem_cons_succ, List.getElem_cons_zero, List.setIfInBounds_toArray, List.set_cons_zero, List.set_cons_succ]
  refine wpAnyH_take (i := 10) (v := ?_) rfl (by kernel_rfl) (by kernel_rfl) (by kernel_rfl) (fun _ _ _ h => h) (Or.inl ⟨by rfl, ?_⟩) (by assumption) ?_
  rotate_left
  ·intro W' hSw; obtain ⟨s0, s1, s2, s3, s4, s5⟩ := hSw; go_simp; try with_reducible rfl
  try simp only [Act.put, List.getElem_toArray, List.getElem_cons_succ, List.getElem_cons_zero, List.setIfInBounds_toArray, List.set_cons_zero, List.set_cons_succ]
  refine wpAnyH_take (i := 11) (v := ?_) rfl (by kernel_rfl) (by kernel_rfl) (by kernel_rfl) (fun _ _ _ h => h) (Or.inl ⟨by rfl, ?_⟩) (by assumption) ?_
  rotate_left
  ·intro W' hSw; obtain ⟨s0, s1, s2, s3, s4, s5⟩ := hSw; go_simp; try with_reducible rfl
  try simp only [Act.put, List.getElem_toArray, List.getElem_cons_succ, List.getElem_cons_zero, List.setIfInBounds_toArray, List.set_cons_zero, List.set_cons_succ]
  refine wpAnyH_take (i := 12) (v := ?_) rfl (by kernel_rfl) (by kernel_rfl) (by kernel_rfl) (fun _ _ _ h => h) (Or.inl ⟨by rfl, ?_⟩) (by assumption) ?_
  rotate_left
  ·intro W' hSw; obtain ⟨s0, s1, s2, s3, s4, s5⟩ := hSw; go_simp; try with_reducible rfl
  try simp only [Act.put, List.getElem_toArray, List.getElem_cons_succ, List.getElem_cons_zero, List.setIfInBounds_toArray, List.set_cons_zero, List.set_cons_succ]
  refine wpAnyH_take (i := 14) (v := ?_) rfl (by kernel_rfl) (by kernel_rfl) (by kernel_rfl) (fun _ _ _ h => h) (Or.inl ⟨by rfl, ?_⟩) (by assumption) ?_
  rotate_left
  ·intro W' hSw; obtain ⟨s0, s1, s2, s3, s4, s5⟩ := hSw; go_simp; try with_reducible rfl
  try simp only [Act.put, List.getElem_toArray, List.getElem_cons_succ, List.getElem_cons_zero, List.setIfInBounds_toArray, List.set_cons_zero, List.set_cons_succ]
  refine wpAnyH_ready (rs := [13]) (by kernel_rfl) (by simp) ?_
  refine AllReadyH.cons rfl (fun KK hK => ?_) AllReadyH.nil
  go_simp
  refine hK.out _ _ (show W6.drew.cell? ⟨N0, 0, none⟩ = some (.pointer (some ⟨P, 0, none⟩)) ∧ W6.drew.cell? ⟨P, 0, none⟩ = some (.pointer (some ⟨tb, 0, none⟩)) ∧ W6.drew.cell? ⟨tb, 0, none⟩ = some (.pointer (some ⟨la, 0, none⟩)) ∧ W6.drew.cell? ⟨N10, 0, none⟩ = some (.int .i64 (p : Int)) ∧ W6.drew.cell? ⟨N10, 1, none⟩ = some (.int .i64 (gone : Int)) ∧ W6.drew.cell? ⟨N10, 2, none⟩ = some (.int .i64 (come : Int)) from HSA.out) (fun hHeld => ?_)
  clear hK KK
  try simp only [Act.put, List.getElem_toArray, List.getElem_cons_succ, List.getElem_cons_zero, List.setIfInBounds_toArray, List.set_cons_zero, List.set_cons_succ]
  refine wpAnyH_ready (rs := [15]) (by kernel_rfl) (by simp) ?_
  refine AllReadyH.cons rfl (fun KK hK => ?_) AllReadyH.nil
  go_simp
  refine HRUN.out.mono ?_
  rintro e W7 ⟨g7, cap7, r1, rfl, hrd, ho7, hg7, ha7⟩
  have HT7 : Hid (RdN nxA xs cls p gone r1 ∧ W7.ownsRow B 3 1 (.slice (some ⟨g7, 0, none⟩) (L + 1) cap7) (L + 1) (jv (rowF (L + 1) (stI nxA (spl xs p gone cls)))) ∧ W6.grownBy W7 (some ga) ∧ AtB W6 (some ga) (.slice (some ⟨g7, 0, none⟩) (L + 1) cap7)) := ⟨hrd, ho7, hg7, ha7⟩
  clear hrd ho7 hg7 ha7 HRUN HSA k2
  have HSB : Hid (W7.cell? ⟨N0, 0, none⟩ = some (.pointer (some ⟨P, 0, none⟩)) ∧ W7.cell? ⟨P, 0, none⟩ = some (.pointer (some ⟨tb, 0, none⟩)) ∧ W7.cell? ⟨tb, 0, none⟩ = some (.pointer (some ⟨la, 0, none⟩)) ∧ W7.cell? ⟨N10, 0, none⟩ = some (.int .i64 (p : Int)) ∧ W7.cell? ⟨N10, 1, none⟩ = some (.int .i64 (gone : Int)) ∧ W7.cell? ⟨N10, 2, none⟩ = some (.int .i64 (come : Int))) := by
   obtain ⟨b1, b2, b3, b4, b5, b6, b7, b8, b9, b10, b11⟩ := HB6.out
   obtain ⟨u1, u2, u3, u4⟩ := HGR.out W7 HT7.out.2.2.1
   exact HSX.out W7 u2 (u1 _ _ b7 b1) (u1 _ _ b8 b4) (win_cells u3).1
  go_simp
  refine hK.out _ _ HSB.out (fun hHeld => ?_)
  clear hK KK
  try simp only [Act.put, List.getElem_toArray, List.getElem_cons_succ, List.getElem_cons_zero, List.setIfInBounds_toArray, List.set_cons_zero, List.set_cons_succ]
  refine wpAnyH_take (i := 16) (v := ?_) rfl (by kernel_rfl) (by kernel_rfl) (by kernel_rfl) (fun _ _ _ h => h) (Or.inl ⟨by rfl, ?_⟩) (by assumption) ?_
  rotate_left
  ·intro W' hSw; obtain ⟨s0, s1, s2, s3, s4, s5⟩ := hSw; go_simp; try with_reducible rfl
  try simp only [Act.put, List.getElem_toArray, List.getElem_cons_succ, List.getElem_cons_zero, List.setIfInBounds_toArray, List.set_cons_zero, List.set_cons_succ]
  refine wpAnyH_take (i := 17) (v := ?_) rfl (by kernel_rfl) (by kernel_rfl) (by kernel_rfl) (fun _ _ _ h => h) (Or.inl ⟨by rfl, ?_⟩) (by assumption) ?_
  rotate_left
  ·intro W' hSw; obtain ⟨s0, s1, s2, s3, s4, s5⟩ := hSw; go_simp; try with_reducible rfl
  try simp only [Act.put, List.getElem_toArray, List.getElem_cons_succ, List.getElem_cons_zero, List.setIfInBounds_toArray, List.set_cons_zero, List.set_cons_succ]
  refine wpAnyH_take (i := 18) (v := ?_) rfl (by kernel_rfl) (by kernel_rfl) (by kernel_rfl) (fun _ _ _ h => h) (Or.inl ⟨by rfl, ?_⟩) (by assumption) ?_
  rotate_left
  ·intro W' hSw; obtain ⟨s0, s1, s2, s3, s4, s5⟩ := hSw; go_simp; try with_reducible rfl
  try simp only [Act.put, List.getElem_toArray, List.getElem_cons_succ, List.getElem_cons_zero, List.setIfInBounds_toArray, List.set_cons_zero, List.set_cons_succ]
  refine wpAnyH_take (i := 19) (v := ?_) rfl (by kernel_rfl) (by kernel_rfl) (by kernel_rfl) (fun _ _ _ h => h) (Or.inl ⟨by rfl, ?_⟩) (by assumption) ?_
  rotate_left
  ·intro W' hSw; obtain ⟨s0, s1, s2, s3, s4, s5⟩ := hSw; go_simp; try with_reducible rfl
  try simp only [Act.put, List.getElem_toArray, List.getElem_cons_succ, List.getElem_cons_zero, List.setIfInBounds_toArray, List.set_cons_zero, List.set_cons_succ]
  refine wpAnyH_take (i := 20) (v := ?_) rfl (by kernel_rfl) (by kernel_rfl) (by kernel_rfl) (fun _ _ _ h => h) (Or.inl ⟨by rfl, ?_⟩) (by assumption) ?_
  rotate_left
  ·intro W' hSw; obtain ⟨s0, s1, s2, s3, s4, s5⟩ := hSw; go_simp; try with_reducible rfl
  try simp only [Act.put, List.getElem_toArray, List.getElem_cons_succ, List.getElem_cons_zero, List.setIfInBounds_toArray, List.set_cons_zero, List.set_cons_succ]
  obtain ⟨j0, j1, j2, j3, j4, jf⟩ := win_cells (HGR.out W7 HT7.out.2.2.1).2.2.1
  have hf1 := jf 2
  clear j0 j1 j3 j4 jf
  have HW8 : Hid (WinX (W7.setCell ⟨P, 2, none⟩ (.slice (some ⟨g7, 0, none⟩) (L + 1) cap7)) P tb B (spl xs p gone cls) (.slice ta5 L cap5) (.slice (some ⟨g7, 0, none⟩) (L + 1) cap7) (.slice (some ⟨gb, 0, none⟩) (n + 1) capb) (L + 1) (stI nxA (spl xs p gone cls)) (n + 1) (stI nxB xs.reverse) tc ∧ ChgW W6 (W7.setCell ⟨P, 2, none⟩ (.slice (some ⟨g7, 0, none⟩) (L + 1) cap7)) (fun k => k = P ∨ some ga = some k)) := win_ahead HB6.out.2.1 HT7.out.2.2.1 HT7.out.2.1 HT7.out.2.2.2
  have HN8 : Hid (∀ N o, w.heap.size ≤ N → W6.heap[N]? = some o → (W7.setCell ⟨P, 2, none⟩ (.slice (some ⟨g7, 0, none⟩) (L + 1) cap7)).heap[N]? = some o) := fun N o hN h => chg_heap HW8.out.2 h (by
   have hb := HNQ.out N
   have hP := HPG.out
   rintro (rfl | e)
   ·omega
   ·have := hb (.inr (.inr (.inl e))); omega)
  have HC8 : Hid (ChgW w (W7.setCell ⟨P, 2, none⟩ (.slice (some ⟨g7, 0, none⟩) (L + 1) cap7)) (OwnW P (.slice ta n tcap) (.slice (some ⟨ga, 0, none⟩) (n + 1) capa) (.slice (some ⟨gb, 0, none⟩) (n + 1) capb))) := chg_trans HB6.out.2.2.1 HW8.out.2 (fun k _ r => r.elim .inl (fun e => (.inr (.inr (.inl e)))))
  have HSC : Hid ((W7.setCell ⟨P, 2, none⟩ (.slice (some ⟨g7, 0, none⟩) (L + 1) cap7)).cell? ⟨N0, 0, none⟩ = some (.pointer (some ⟨P, 0, none⟩)) ∧ (W7.setCell ⟨P, 2, none⟩ (.slice (some ⟨g7, 0, none⟩) (L + 1) cap7)).cell? ⟨P, 0, none⟩ = some (.pointer (some ⟨tb, 0, none⟩)) ∧ (W7.setCell ⟨P, 2, none⟩ (.slice (some ⟨g7, 0, none⟩) (L + 1) cap7)).cell? ⟨tb, 0, none⟩ = some (.pointer (some ⟨la, 0, none⟩)) ∧ (W7.setCell ⟨P, 2, none⟩ (.slice (some ⟨g7, 0, none⟩) (L + 1) cap7)).cell? ⟨N10, 0, none⟩ = some (.int .i64 (p : Int)) ∧ (W7.setCell ⟨P, 2, none⟩ (.slice (some ⟨g7, 0, none⟩) (L + 1) cap7)).cell? ⟨N10, 1, none⟩ = some (.int .i64 (gone : Int)) ∧ (W7.setCell ⟨P, 2, none⟩ (.slice (some ⟨g7, 0, none⟩) (L + 1) cap7)).cell? ⟨N10, 2, none⟩ = some (.int .i64 (come : Int))) := by
   obtain ⟨b1, b2, b3, b4, b5, b6, b7, b8, b9, b10, b11⟩ := HB6.out
   exact HSX.out _ HC8.out (HN8.out _ _ b7 b1) (HN8.out _ _ b8 b4) (win_cells HW8.out.1.1).1
  refine wpAnyH_ready (rs := [21]) (by kernel_rfl) (by simp) ?_
  refine AllReadyH.cons rfl (fun KK hK => ?_) AllReadyH.nil
  go_simp
  refine hK.out _ _ HSC.out (fun hHeld => ?_)
  clear hK KK
  try simp only [Act.put, List.getElem_toArray, List.getElem_cons_succ, List.getElem_cons_zero, List.setIfInBounds_toArray, List.set_cons_zero, List.set_cons_succ]
  refine wpAnyH_take (i := 22) (v := ?_) rfl (by kernel_rfl) (by kernel_rfl) (by kernel_rfl) (fun _ _ _ h => h) (Or.inl ⟨by rfl, ?_⟩) (by assumption) ?_
  rotate_left
  ·intro W' hSw; obtain ⟨s0, s1, s2, s3, s4, s5⟩ := hSw; go_simp; try with_reducible rfl
  try simp only [Act.put, List.getElem_toArray, List.getElem_cons_succ, List.getElem_cons_zero, List.setIfInBounds_toArray, List.set_cons_zero, List.set_cons_succ]
  refine wpAnyH_done (by kernel_rfl) ?_ _
  refine NoPanic.normal ?_
  clear hHeld
  clear j2 hf1 HSB HSC HSX HGR
  obtain ⟨W8, hW8⟩ : ∃ W, W = W7.setCell ⟨P, 2, none⟩ (.slice (some ⟨g7, 0, none⟩) (L + 1) cap7) := ⟨_, rfl⟩
  rw [← hW8] at HW8 HN8 HC8
  rw [← hW8]
  clear hW8
  have HB8 : Hid (W8.heap[N0]? = some (.cells #[.pointer (some ⟨P, 0, none⟩)] 34) ∧ WinX W8 P tb B (spl xs p gone cls) (.slice ta5 L cap5) (.slice (some ⟨g7, 0, none⟩) (L + 1) cap7) (.slice (some ⟨gb, 0, none⟩) (n + 1) capb) (L + 1) (stI nxA (spl xs p gone cls)) (n + 1) (stI nxB xs.reverse) tc ∧ ChgW w W8 (OwnW P (.slice ta n tcap) (.slice (some ⟨ga, 0, none⟩) (n + 1) capa) (.slice (some ⟨gb, 0, none⟩) (n + 1) capb)) ∧ W8.heap[N11]? = some (.cells #[.int .i64 (nb : Int), .int .i64 (gone : Int), .int .i64 (come : Int)] 75) ∧ W8.heap[N12]? = some (.cells #[.int .i64 LZ] 3) ∧ w.heap.size ≤ N0 ∧ w.heap.size ≤ N11 ∧ w.heap.size ≤ N12 ∧ AtB w (Value.slice ta n tcap).ownBlock (.slice ta5 L cap5) ∧ AtB w (some ga) (.slice (some ⟨g7, 0, none⟩) (L + 1) cap7) ∧ RdN nxA xs cls p gone r1) := by
   obtain ⟨b1, b2, b3, b4, b5, b6, b7, b8, b9, b10, b11⟩ := HB6.out
   refine ⟨HN8.out _ _ b7 b1, HW8.out.1, HC8.out, HN8.out _ _ b9 b5, HN8.out _ _ b10 b6, b7, b9, b10, b11, fun k hk => (HT7.out.2.2.2 k hk).elim .inl (fun h => .inr ?_), HT7.out.1⟩
   have := b3.2.2.2.1
   omega
  clear HT7 HW8 HN8 HC8 HB6
  go_upto_region 11 with fail
  have HSX : Hid (∀ W, ChgW w W (OwnW P (.slice ta n tcap) (.slice (some ⟨ga, 0, none⟩) (n + 1) capa) (.slice (some ⟨gb, 0, none⟩) (n + 1) capb)) → W.heap[N0]? = some (.cells #[.pointer (some ⟨P, 0, none⟩)] 34) → W.heap[N11]? = some (.cells #[.int .i64 (nb : Int), .int .i64 (gone : Int), .int .i64 (come : Int)] 75) → W.cell? ⟨P, 0, none⟩ = some (.pointer (some ⟨tb, 0, none⟩)) → W.cell? ⟨N0, 0, none⟩ = some (.pointer (some ⟨P, 0, none⟩)) ∧ W.cell? ⟨P, 0, none⟩ = some (.pointer (some ⟨tb, 0, none⟩)) ∧ W.cell? ⟨tb, 1, none⟩ = some (.pointer (some ⟨lb, 0, none⟩)) ∧ W.cell? ⟨N11, 0, none⟩ = some (.int .i64 (nb : Int)) ∧ W.cell? ⟨N11, 1, none⟩ = some (.int .i64 (gone : Int)) ∧ W.cell? ⟨N11, 2, none⟩ = some (.int .i64 (come : Int))) := fun W hc h1 h2 h3 =>
   ⟨cell_of_row W N0 0 _ _ _ h1, h3, cell_of_row W tb 1 _ _ _ (HT.out W hc).1, cell_of_row W N11 0 _ _ _ h2, cell_of_row W N11 1 _ _ _ h2, cell_of_row W N11 2 _ _ _ h2⟩
  have HSA : Hid (W8.cell? ⟨N0, 0, none⟩ = some (.pointer (some ⟨P, 0, none⟩)) ∧ W8.cell? ⟨P, 0, none⟩ = some (.pointer (some ⟨tb, 0, none⟩)) ∧ W8.cell? ⟨tb, 1, none⟩ = some (.pointer (some ⟨lb, 0, none⟩)) ∧ W8.cell? ⟨N11, 0, none⟩ = some (.int .i64 (nb : Int)) ∧ W8.cell? ⟨N11, 1, none⟩ = some (.int .i64 (gone : Int)) ∧ W8.cell? ⟨N11, 2, none⟩ = some (.int .i64 (come : Int))) := by
   obtain ⟨b1, b2, b3, b5, b6, b7, b9, b10, b11, b12, hrd⟩ := HB8.out
   exact HSX.out W8 b3 b1 b5 (win_cells b2.1).1
  have HGR : Hid (∀ W, W8.grownBy W (some gb) → (∀ N o, w.heap.size ≤ N → W8.heap[N]? = some o → W.heap[N]? = some o) ∧ ChgW w W (OwnW P (.slice ta n tcap) (.slice (some ⟨ga, 0, none⟩) (n + 1) capa) (.slice (some ⟨gb, 0, none⟩) (n + 1) capb)) ∧ W.heap[P]? = some (.cells (WCells tb (.slice ta5 L cap5) (.slice (some ⟨g7, 0, none⟩) (L + 1) cap7) (.slice (some ⟨gb, 0, none⟩) (n + 1) capb) tc) 72) ∧ W.ownsRow B 3 1 (.slice ta5 L cap5) L (jv (spl xs p gone cls))) := fun W hg => by
   obtain ⟨b1, b2, b3, b5, b6, b7, b9, b10, b11, b12, hrd⟩ := HB8.out
   have hc := chg_gb hg
   have hl := HLL.out.1
   refine ⟨fun N o hN h => chg_heap hc h (fun e => by have := HNQ.out N (.inr (.inr (.inr e))); omega), chg_trans b3 hc (fun k _ e => (.inr (.inr (.inr e)))), chg_heap hc b2.1 (fun e => b2.2.2.2.2.1.2.2.1 e), ?_⟩
   rw [hl]
   rw [hl] at b2
   exact chg_own hc b2.2.1 (fun k hk e => (b2.2.2.2.2.1.2.2.2.1 k hk).2 e)
  have HRUN : Hid (Calls Tryd.prog 29 #[.func (.func 30) #[.pointer (some ⟨lb, 0, none⟩)] #[], .func (.func 32) #[] #[.pointer (some ⟨N0, 0, none⟩), .pointer (some ⟨N12, 0, none⟩)], (.slice (some ⟨gb, 0, none⟩) (n + 1) capb), .agg #[.int .i64 (nb : Int), .int .i64 (gone : Int), .int .i64 (come : Int)]] W8.drew fun e W9 => ∃ g9 cap9 r2, e = .returned (.tuple #[(.slice (some ⟨g9, 0, none⟩) (L + 1) cap9), .int .i64 ((r2 : Nat) : Int)]) ∧ RdN nxB xs.reverse cls.reverse nb gone r2 ∧ W9.ownsRow B 3 1 (.slice (some ⟨g9, 0, none⟩) (L + 1) cap9) (L + 1) (jv (rowF (L + 1) (stI nxB (spl xs p gone cls).reverse))) ∧ W8.grownBy W9 (some gb) ∧ AtB W8 (some gb) (.slice (some ⟨g9, 0, none⟩) (L + 1) cap9)) := by
   obtain ⟨b1, b2, b3, b5, b6, b7, b9, b10, b11, b12, hrd⟩ := HB8.out
   obtain ⟨hP1, hP2, hP3, hP4, hP5, hP6, hP7, hP8, hP9, hP10⟩ := HPG.out
   obtain ⟨m1, m2, m3, m4⟩ := HMA.out
   have hl := HLL.out.1
   have hsp : spl xs.reverse nb gone cls.reverse = (spl xs p gone cls).reverse := by
    rw [spl_rev xs cls p gone (by omega), hP2, hP4]
   have hg6 : ∀ W, W8.drew.grownBy W (some gb) → W8.grownBy W (some gb) := fun W h => ⟨h.os, h.tape, h.output, h.size, h.block⟩
   have hr := run2_any nxB ouB K lb W8.drew xs.reverse cls.reverse nb gone come n B (.slice (some ⟨gb, 0, none⟩) (n + 1) capb) (.pointer (some ⟨N0, 0, none⟩)) (.pointer (some ⟨N12, 0, none⟩)) m3 m4
    (fun W hg => (HT.out W (HGR.out W (hg6 W hg)).2.1).2.2.2.2.1) (by rw [List.length_reverse]; exact hP4) (by omega) (by rw [List.length_reverse]; exact hP5) (by rw [hsp]; exact fun c hc => HCL.out c (List.mem_reverse.1 hc)) (by show B ≤ W8.heap.size; have := b3.2.2.2.1; omega)
    (fun W hg k hk => by
     obtain ⟨u1, u2, u3, u4⟩ := HGR.out W (hg6 W hg)
     rw [hsp] at hk ⊢
     rw [List.length_reverse] at hk
     exact clos2_any W N0 N12 P tb L cap5 k ta5 (.slice (some ⟨g7, 0, none⟩) (L + 1) cap7) (.slice (some ⟨gb, 0, none⟩) (n + 1) capb) tc (spl xs p gone cls) (u1 N0 _ b7 b1) (by have h := u1 N12 _ b10 b6; rw [HLL.out.2] at h; exact h) u3 (own_rdS u4) (by omega) (by omega))
    b2.2.2.2.1 (by omega)
   refine hr.mono fun e W9 h => ?_
   obtain ⟨v', r2, he, hrd', ho, hg, ha⟩ := h
   rw [hsp, List.length_reverse, ← hl] at ho
   obtain ⟨g9, cap9, rfl, _, _⟩ := own_someF ho (by omega)
   exact ⟨g9, cap9, r2, he, hrd', ho, hg6 W9 hg, ha⟩
  obtain ⟨k0, k1, k2, k3, k4, kf⟩ := win_cells HB8.out.2.1.1
  clear k0 k1 k2 k4 kf
  refine wp_region_noPanic ?_
  refine wp_region_held_drew (S := (fun w' => w'.cell? ⟨N0, 0, none⟩ = some (.pointer (some ⟨P, 0, none⟩)) ∧ w'.cell? ⟨P, 0, none⟩ = some (.pointer (some ⟨tb, 0, none⟩)) ∧ w'.cell? ⟨tb, 1, none⟩ = some (.pointer (some ⟨lb, 0, none⟩)) ∧ w'.cell? ⟨N11, 0, none⟩ = some (.int .i64 (nb : Int)) ∧ w'.cell? ⟨N11, 1, none⟩ = some (.int .i64 (gone : Int)) ∧ w'.cell? ⟨N11, 2, none⟩ = some (.int .i64 (come : Int)))) (by kernel_rfl) (HSA.out) (fun hHeld => ?_)
  refine wpAnyH_take (i := 0) (v := ?_) rfl (by kernel_rfl) (by kernel_rfl) (by kernel_rfl) (fun _ _ _ h => h) (Or.inl ⟨by rfl, ?_⟩) (by assumption) ?_
  rotate_left
  ·intro W' hSw; obtain ⟨s0, s1, s2, s3, s4, s5⟩ := hSw; go_simp; try with_reducible rfl
  try simp only [Act.put, List.getElem_toArray, List.getElem_cons_succ, List.getElem_cons_zero, List.setIfInBounds_toArray, List.set_cons_zero, List.set_cons_succ]
  refine wpAnyH_take (i := 1) (v := ?_) rfl (by kernel_rfl) (by kernel_rfl) (by kernel_rfl) (fun _ _ _ h => h) (Or.inl ⟨by rfl, ?_⟩) (by assumption) ?_
  rotate_left
  ·intro W' hSw; obtain ⟨s0, s1, s2, s3, s4, s5⟩ := hSw; go_simp; try with_reducible rfl
  try simp only [Act.put, List.getElem_toArray, List.getElem_cons_succ, List.getElem_cons_zero, List.setIfInBounds_toArray, List.set_cons_zero, List.set_cons_succ]
  refine wpAnyH_take (i := 2) (v := ?_) rfl (by kernel_rfl) (by kernel_rfl) (by kernel_rfl) (fun _ _ _ h => h) (Or.inl ⟨by rfl, ?_⟩) (by assumption) ?_
  rotate_left
  ·intro W' hSw; obtain ⟨s0, s1, s2, s3, s4, s5⟩ := hSw; go_simp; try with_reducible rfl
  try simp only [Act.put, List.getElem_toArray, List.getElem_cons_succ, List.getElem_cons_zero, List.setIfInBounds_toArray, List.set_cons_zero, List.set_cons_succ]
  refine wpAnyH_take (i := 3) (v := ?_) rfl (by kernel_rfl) (by kernel_rfl) (by kernel_rfl) (fun _ _ _ h => h) (Or.inl ⟨by rfl, ?_⟩) (by assumption) ?_
  rotate_left
  ·intro W' hSw; obtain ⟨s0, s1, s2, s3, s4, s5⟩ := hSw; go_simp; try with_reducible rfl
  try simp only [Act.put, List.getElem_toArray, List.getElem_cons_succ, List.getElem_cons_zero, List.setIfInBounds_toArray, List.set_cons_zero, List.set_cons_succ]
  refine wpAnyH_take (i := 4) (v := ?_) rfl (by kernel_rfl) (by kernel_rfl) (by kernel_rfl) (fun _ _ _ h => h) (Or.inl ⟨by rfl, ?_⟩) (by assumption) ?_
  rotate_left
  ·intro W' hSw; obtain ⟨s0, s1, s2, s3, s4, s5⟩ := hSw; go_simp; try with_reducible rfl
  try simp only [Act.put, List.getElem_toArray, List.getElem_cons_succ, List.getElem_cons_zero, List.setIfInBounds_toArray, List.set_cons_zero, List.set_cons_succ]
  refine wpAnyH_take (i := 5) (v := ?_) rfl (by kernel_rfl) (by kernel_rfl) (by kernel_rfl) (fun _ _ _ h => h) (Or.inl ⟨by rfl, ?_⟩) (by assumption) ?_
  rotate_left
  ·intro W' hSw; obtain ⟨s0, s1, s2, s3, s4, s5⟩ := hSw; go_simp; try with_reducible rfl
  try simp only [Act.put, List.getElem_toArray, List.getElem_cons_succ, List.getElem_cons_zero, List.setIfInBounds_toArray, List.set_cons_zero, List.set_cons_succ]
  refine wpAnyH_take (i := 6) (v := ?_) rfl (by kernel_rfl) (by kernel_rfl) (by kernel_rfl) (fun _ _ _ h => h) (Or.inl ⟨by rfl, ?_⟩) (by assumption) ?_
  rotate_left
  ·intro W' hSw; obtain ⟨s0, s1, s2, s3, s4, s5⟩ := hSw; go_simp; try with_reducible rfl
  try simp only [Act.put, List.getElem_toArray, List.getElem_cons_succ, List.getElem_cons_zero, List.setIfInBounds_toArray, List.set_cons_zero, List.set_cons_succ]
  refine wpAnyH_take (i := 7) (v := ?_) rfl (by kernel_rfl) (by kernel_rfl) (by kernel_rfl) (fun _ _ _ h => h) (Or.inl ⟨by rfl, ?_⟩) (by assumption) ?_
  rotate_left
  ·intro W' hSw; obtain ⟨s0, s1, s2, s3, s4, s5⟩ := hSw; go_simp; try with_reducible rfl
  try simp only [Act.put, List.getElem_toArray, List.getElem_cons_succ, List.getElem_cons_zero, List.setIfInBounds_toArray, List.set_cons_zero, List.set_cons_succ]
  refine wpAnyH_take (i := 8) (v := ?_) rfl (by kernel_rfl) (by kernel_rfl) (by kernel_rfl) (fun _ _ _ h => h) (Or.inl ⟨by rfl, ?_⟩) (by assumption) ?_
  rotate_left
  ·intro W' hSw; obtain ⟨s0, s1, s2, s3, s4, s5⟩ := hSw; go_simp; try with_reducible rfl
  try simp only [Act.put, List.getElem_toArray, List.getElem_cons_succ, List.getElem_cons_zero, List.setIfInBounds_toArray, List.set_cons_zero, List.set_cons_succ]
  refine wpAnyH_take (i := 9) (v := ?_) rfl (by kernel_rfl) (by kernel_rfl) (by kernel_rfl) (fun _ _ _ h => h) (Or.inl ⟨by rfl, ?_⟩) (by assumption) ?_
  rotate_left
  ·intro W' hSw; obtain ⟨s0, s1, s2, s3, s4, s5⟩ := hSw; go_simp; try with_reducible rfl
  try simp only [Act.put, List.getElem_toArray, List.getElem_cons_succ, List.getElem_cons_zero, List.setIfInBounds_toArray, List.set_cons_zero, List.set_cons_succ]
  refine wpAnyH_take (i := 10) (v := ?_) rfl (by kernel_rfl) (by kernel_rfl) (by kernel_rfl) (fun _ _ _ h => h) (Or.inl ⟨by rfl, ?_⟩) (by assumption) ?_
  rotate_left
  ·intro W' hSw; obtain ⟨s0, s1, s2, s3, s4, s5⟩ := hSw; go_simp; try with_reducible rfl
  try simp only [Act.put, List.getElem_toArray, List.getElem_cons_succ, List.getElem_cons_zero, List.setIfInBounds_toArray, List.set_cons_zero, List.set_cons_succ]
  refine wpAnyH_take (i := 11) (v := ?_) rfl (by kernel_rfl) (by kernel_rfl) (by kernel_rfl) (fun _ _ _ h => h) (Or.inl ⟨by rfl, ?_⟩) (by assumption) ?_
  rotate_left
  ·intro W' hSw; obtain ⟨s0, s1, s2, s3, s4, s5⟩ := hSw; go_simp; try with_reducible rfl
  try simp only [Act.put, List.getElem_toArray, List.getElem_cons_succ, List.getElem_cons_zero, List.setIfInBounds_toArray, List.set_cons_zero, List.set_cons_succ]
  refine wpAnyH_take (i := 12) (v := ?_) rfl (by kernel_rfl) (by kernel_rfl) (by kernel_rfl) (fun _ _ _ h => h) (Or.inl ⟨by rfl, ?_⟩) (by assumption) ?_
  rotate_left
  ·intro W' hSw; obtain ⟨s0, s1, s2, s3, s4, s5⟩ := hSw; go_simp; try with_reducible rfl
  try simp only [Act.put, List.getElem_toArray, List.getElem_cons_succ, List.getElem_cons_zero, List.setIfInBounds_toArray, List.set_cons_zero, List.set_cons_succ]
  refine wpAnyH_take (i := 14) (v := ?_) rfl (by kernel_rfl) (by kernel_rfl) (by kernel_rfl) (fun _ _ _ h => h) (Or.inl ⟨by rfl, ?_⟩) (by assumption) ?_
  rotate_left
  ·intro W' hSw; obtain ⟨s0, s1, s2, s3, s4, s5⟩ := hSw; go_simp; try with_reducible rfl
  try simp only [Act.put, List.getElem_toArray, List.getElem_cons_succ, List.getElem_cons_zero, List.setIfInBounds_toArray, List.set_cons_zero, List.set_cons_succ]
  refine wpAnyH_ready (rs := [13]) (by kernel_rfl) (by simp) ?_
  refine AllReadyH.cons rfl (fun KK hK => ?_) AllReadyH.nil
  go_simp
  refine hK.out _ _ (show W8.drew.cell? ⟨N0, 0, none⟩ = some (.pointer (some ⟨P, 0, none⟩)) ∧ W8.drew.cell? ⟨P, 0, none⟩ = some (.pointer (some ⟨tb, 0, none⟩)) ∧ W8.drew.cell? ⟨tb, 1, none⟩ = some (.pointer (some ⟨lb, 0, none⟩)) ∧ W8.drew.cell? ⟨N11, 0, none⟩ = some (.int .i64 (nb : Int)) ∧ W8.drew.cell? ⟨N11, 1, none⟩ = some (.int .i64 (gone : Int)) ∧ W8.drew.cell? ⟨N11, 2, none⟩ = some (.int .i64 (come : Int)) from HSA.out) (fun hHeld => ?_)
  clear hK KK
  try simp only [Act.put, List.getElem_toArray, List.getElem_cons_succ, List.getElem_cons_zero, List.setIfInBounds_toArray, List.set_cons_zero, List.set_cons_succ]
  refine wpAnyH_ready (rs := [15]) (by kernel_rfl) (by simp) ?_
  refine AllReadyH.cons rfl (fun KK hK => ?_) AllReadyH.nil
  go_simp
  refine HRUN.out.mono ?_
  rintro e W9 ⟨g9, cap9, r2, rfl, hrd, ho7, hg7, ha7⟩
  have HT7 : Hid (RdN nxB xs.reverse cls.reverse nb gone r2 ∧ W9.ownsRow B 3 1 (.slice (some ⟨g9, 0, none⟩) (L + 1) cap9) (L + 1) (jv (rowF (L + 1) (stI nxB (spl xs p gone cls).reverse))) ∧ W8.grownBy W9 (some gb) ∧ AtB W8 (some gb) (.slice (some ⟨g9, 0, none⟩) (L + 1) cap9)) := ⟨hrd, ho7, hg7, ha7⟩
  clear hrd ho7 hg7 ha7 HRUN HSA k3
  have HSB : Hid (W9.cell? ⟨N0, 0, none⟩ = some (.pointer (some ⟨P, 0, none⟩)) ∧ W9.cell? ⟨P, 0, none⟩ = some (.pointer (some ⟨tb, 0, none⟩)) ∧ W9.cell? ⟨tb, 1, none⟩ = some (.pointer (some ⟨lb, 0, none⟩)) ∧ W9.cell? ⟨N11, 0, none⟩ = some (.int .i64 (nb : Int)) ∧ W9.cell? ⟨N11, 1, none⟩ = some (.int .i64 (gone : Int)) ∧ W9.cell? ⟨N11, 2, none⟩ = some (.int .i64 (come : Int))) := by
   obtain ⟨b1, b2, b3, b5, b6, b7, b9, b10, b11, b12, hrd⟩ := HB8.out
   obtain ⟨u1, u2, u3, u4⟩ := HGR.out W9 HT7.out.2.2.1
   exact HSX.out W9 u2 (u1 _ _ b7 b1) (u1 _ _ b9 b5) (win_cells u3).1
  go_simp
  refine hK.out _ _ HSB.out (fun hHeld => ?_)
  clear hK KK
  try simp only [Act.put, List.getElem_toArray, List.getElem_cons_succ, List.getElem_cons_zero, List.setIfInBounds_toArray, List.set_cons_zero, List.set_cons_succ]
  refine wpAnyH_take (i := 16) (v := ?_) rfl (by kernel_rfl) (by kernel_rfl) (by kernel_rfl) (fun _ _ _ h => h) (Or.inl ⟨by rfl, ?_⟩) (by assumption) ?_
  rotate_left
  ·intro W' hSw; obtain ⟨s0, s1, s2, s3, s4, s5⟩ := hSw; go_simp; try with_reducible rfl
  try simp only [Act.put, List.getElem_toArray, List.getElem_cons_succ, List.getElem_cons_zero, List.setIfInBounds_toArray, List.set_cons_zero, List.set_cons_succ]
  refine wpAnyH_take (i := 17) (v := ?_) rfl (by kernel_rfl) (by kernel_rfl) (by kernel_rfl) (fun _ _ _ h => h) (Or.inl ⟨by rfl, ?_⟩) (by assumption) ?_
  rotate_left
  ·intro W' hSw; obtain ⟨s0, s1, s2, s3, s4, s5⟩ := hSw; go_simp; try with_reducible rfl
  try simp only [Act.put, List.getElem_toArray, List.getElem_cons_succ, List.getElem_cons_zero, List.setIfInBounds_toArray, List.set_cons_zero, List.set_cons_succ]
  refine wpAnyH_take (i := 18) (v := ?_) rfl (by kernel_rfl) (by kernel_rfl) (by kernel_rfl) (fun _ _ _ h => h) (Or.inl ⟨by rfl, ?_⟩) (by assumption) ?_
  rotate_left
  ·intro W' hSw; obtain ⟨s0, s1, s2, s3, s4, s5⟩ := hSw; go_simp; try with_reducible rfl
  try simp only [Act.put, List.getElem_toArray, List.getElem_cons_succ, List.getElem_cons_zero, List.setIfInBounds_toArray, List.set_cons_zero, List.set_cons_succ]
  refine wpAnyH_take (i := 19) (v := ?_) rfl (by kernel_rfl) (by kernel_rfl) (by kernel_rfl) (fun _ _ _ h => h) (Or.inl ⟨by rfl, ?_⟩) (by assumption) ?_
  rotate_left
  ·intro W' hSw; obtain ⟨s0, s1, s2, s3, s4, s5⟩ := hSw; go_simp; try with_reducible rfl
  try simp only [Act.put, List.getElem_toArray, List.getElem_cons_succ, List.getElem_cons_zero, List.setIfInBounds_toArray, List.set_cons_zero, List.set_cons_succ]
  refine wpAnyH_take (i := 20) (v := ?_) rfl (by kernel_rfl) (by kernel_rfl) (by kernel_rfl) (fun _ _ _ h => h) (Or.inl ⟨by rfl, ?_⟩) (by assumption) ?_
  rotate_left
  ·intro W' hSw; obtain ⟨s0, s1, s2, s3, s4, s5⟩ := hSw; go_simp; try with_reducible rfl
  try simp only [Act.put, List.getElem_toArray, List.getElem_cons_succ, List.getElem_cons_zero, List.setIfInBounds_toArray, List.set_cons_zero, List.set_cons_succ]
  obtain ⟨j0, j1, j2, j3, j4, jf⟩ := win_cells (HGR.out W9 HT7.out.2.2.1).2.2.1
  have hf1 := jf 3
  clear j0 j1 j2 j4 jf
  have HW8 : Hid (WinX (W9.setCell ⟨P, 3, none⟩ (.slice (some ⟨g9, 0, none⟩) (L + 1) cap9)) P tb B (spl xs p gone cls) (.slice ta5 L cap5) (.slice (some ⟨g7, 0, none⟩) (L + 1) cap7) (.slice (some ⟨g9, 0, none⟩) (L + 1) cap9) (L + 1) (stI nxA (spl xs p gone cls)) (L + 1) (stI nxB (spl xs p gone cls).reverse) tc ∧ ChgW W8 (W9.setCell ⟨P, 3, none⟩ (.slice (some ⟨g9, 0, none⟩) (L + 1) cap9)) (fun k => k = P ∨ some gb = some k)) := win_behind HB8.out.2.1 HT7.out.2.2.1 HT7.out.2.1 HT7.out.2.2.2
  have HN8 : Hid (∀ N o, w.heap.size ≤ N → W8.heap[N]? = some o → (W9.setCell ⟨P, 3, none⟩ (.slice (some ⟨g9, 0, none⟩) (L + 1) cap9)).heap[N]? = some o) := fun N o hN h => chg_heap HW8.out.2 h (by
   have hb := HNQ.out N
   have hP := HPG.out
   rintro (rfl | e)
   ·omega
   ·have := hb (.inr (.inr (.inr e))); omega)
  have HC8 : Hid (ChgW w (W9.setCell ⟨P, 3, none⟩ (.slice (some ⟨g9, 0, none⟩) (L + 1) cap9)) (OwnW P (.slice ta n tcap) (.slice (some ⟨ga, 0, none⟩) (n + 1) capa) (.slice (some ⟨gb, 0, none⟩) (n + 1) capb))) := chg_trans HB8.out.2.2.1 HW8.out.2 (fun k _ r => r.elim .inl (fun e => (.inr (.inr (.inr e)))))
  have HSC : Hid ((W9.setCell ⟨P, 3, none⟩ (.slice (some ⟨g9, 0, none⟩) (L + 1) cap9)).cell? ⟨N0, 0, none⟩ = some (.pointer (some ⟨P, 0, none⟩)) ∧ (W9.setCell ⟨P, 3, none⟩ (.slice (some ⟨g9, 0, none⟩) (L + 1) cap9)).cell? ⟨P, 0, none⟩ = some (.pointer (some ⟨tb, 0, none⟩)) ∧ (W9.setCell ⟨P, 3, none⟩ (.slice (some ⟨g9, 0, none⟩) (L + 1) cap9)).cell? ⟨tb, 1, none⟩ = some (.pointer (some ⟨lb, 0, none⟩)) ∧ (W9.setCell ⟨P, 3, none⟩ (.slice (some ⟨g9, 0, none⟩) (L + 1) cap9)).cell? ⟨N11, 0, none⟩ = some (.int .i64 (nb : Int)) ∧ (W9.setCell ⟨P, 3, none⟩ (.slice (some ⟨g9, 0, none⟩) (L + 1) cap9)).cell? ⟨N11, 1, none⟩ = some (.int .i64 (gone : Int)) ∧ (W9.setCell ⟨P, 3, none⟩ (.slice (some ⟨g9, 0, none⟩) (L + 1) cap9)).cell? ⟨N11, 2, none⟩ = some (.int .i64 (come : Int))) := by
   obtain ⟨b1, b2, b3, b5, b6, b7, b9, b10, b11, b12, hrd⟩ := HB8.out
   exact HSX.out _ HC8.out (HN8.out _ _ b7 b1) (HN8.out _ _ b9 b5) (win_cells HW8.out.1.1).1
  refine wpAnyH_ready (rs := [21]) (by kernel_rfl) (by simp) ?_
  refine AllReadyH.cons rfl (fun KK hK => ?_) AllReadyH.nil
  go_simp
  refine hK.out _ _ HSC.out (fun hHeld => ?_)
  clear hK KK
  try simp only [Act.put, List.getElem_toArray, List.getElem_cons_succ, List.getElem_cons_zero, List.setIfInBounds_toArray, List.set_cons_zero, List.set_cons_succ]
  refine wpAnyH_take (i := 22) (v := ?_) rfl (by kernel_rfl) (by kernel_rfl) (by kernel_rfl) (fun _ _ _ h => h) (Or.inl ⟨by rfl, ?_⟩) (by assumption) ?_
  rotate_left
  ·intro W' hSw; obtain ⟨s0, s1, s2, s3, s4, s5⟩ := hSw; go_simp; try with_reducible rfl
  try simp only [Act.put, List.getElem_toArray, List.getElem_cons_succ, List.getElem_cons_zero, List.setIfInBounds_toArray, List.set_cons_zero, List.set_cons_succ]
  refine wpAnyH_done (by kernel_rfl) ?_ _
  refine NoPanic.normal ?_
  clear hHeld
  clear j3 hf1 HSB HSC HSX HGR
  obtain ⟨W10, hW10⟩ : ∃ W, W = W9.setCell ⟨P, 3, none⟩ (.slice (some ⟨g9, 0, none⟩) (L + 1) cap9) := ⟨_, rfl⟩
  rw [← hW10] at HW8 HN8 HC8
  rw [← hW10]
  clear hW10
  have HB10 : Hid (W10.heap[N0]? = some (.cells #[.pointer (some ⟨P, 0, none⟩)] 34) ∧ WinX W10 P tb B (spl xs p gone cls) (.slice ta5 L cap5) (.slice (some ⟨g7, 0, none⟩) (L + 1) cap7) (.slice (some ⟨g9, 0, none⟩) (L + 1) cap9) (L + 1) (stI nxA (spl xs p gone cls)) (L + 1) (stI nxB (spl xs p gone cls).reverse) tc ∧ ChgW w W10 (OwnW P (.slice ta n tcap) (.slice (some ⟨ga, 0, none⟩) (n + 1) capa) (.slice (some ⟨gb, 0, none⟩) (n + 1) capb)) ∧ AtB w (Value.slice ta n tcap).ownBlock (.slice ta5 L cap5) ∧ AtB w (some ga) (.slice (some ⟨g7, 0, none⟩) (L + 1) cap7) ∧ AtB w (some gb) (.slice (some ⟨g9, 0, none⟩) (L + 1) cap9) ∧ RdN nxA xs cls p gone r1 ∧ RdN nxB xs.reverse cls.reverse nb gone r2) := by
   obtain ⟨b1, b2, b3, b5, b6, b7, b9, b10, b11, b12, hrd⟩ := HB8.out
   refine ⟨HN8.out _ _ b7 b1, HW8.out.1, HC8.out, b11, b12, fun k hk => (HT7.out.2.2.2 k hk).elim .inl (fun h => .inr ?_), hrd, HT7.out.1⟩
   have := b3.2.2.2.1
   omega
  clear HT7 HW8 HN8 HC8 HB8
  have n0 : W10.cell? ⟨N0, 0, none⟩ = some (.pointer (some ⟨P, 0, none⟩)) := cell_of_row W10 N0 0 _ _ _ HB10.out.1
  obtain ⟨k0, k1, k2, k3, k4, kf⟩ := win_cells HB10.out.2.1.1
  have hf4 := kf 4
  clear k0 k1 k2 k3 kf
  have hr1 : r1 ≤ 100000 := by have := HB10.out.2.2.2.2.2.2.1.1; have := HPG.out; omega
  have hr2 : r2 ≤ 100000 := by have := HB10.out.2.2.2.2.2.2.2.1; have := HPG.out; rw [List.length_reverse] at *; omega
  obtain ⟨c2, hc2⟩ : ∃ c2 : Nat, c2 = 2 * come := ⟨_, rfl⟩
  obtain ⟨c3, hc3⟩ : ∃ c3 : Nat, c3 = c2 + r1 := ⟨_, rfl⟩
  obtain ⟨c4, hc4⟩ : ∃ c4 : Nat, c4 = c3 + r2 := ⟨_, rfl⟩
  have hw2 : IntKind.i64.wrap (2 * (come : Int)) = (c2 : Int) := by rw [IntKind.wrap_i64]; omega
  have hw3 : IntKind.i64.wrap ((c2 : Int) + (r1 : Int)) = (c3 : Int) := by rw [IntKind.wrap_i64]; omega
  have hw4 : IntKind.i64.wrap ((c3 : Int) + (r2 : Int)) = (c4 : Int) := by rw [IntKind.wrap_i64]; omega
  have HC4 : Hid ((c4 : Int) = 2 * (cls.length : Int) + (r1 : Int) + (r2 : Int)) := by
   have := HPG.out
   show (c4 : Int) = 2 * (cls.length : Int) + (r1 : Int) + (r2 : Int)
   omega
  clear hc2 hc3 hc4
  go_upto_region 12 with fail
  go_wp2_with fail
  go_ret
  obtain ⟨b1, b2, b3, b4, b5, b6, b7, b8⟩ := HB10.out
  obtain ⟨hP1, hP2, hP3, hP4, hP5, hP6, hP7, hP8, hP9, hP10⟩ := HPG.out
  have hl := HLL.out.1
  subst hl
  have hxn := hP4
  subst hxn
  rw [hP2] at b8
  have hfin := win_touch b2 ((c4 : Nat) : Int)
  rw [HC4.out] at hfin
  refine ⟨rfl, _, _, _, r1, r2, ?_, b7, b8, chg_trans b3 (chg_set W10 P 4 _) (fun k _ r => .inl r), b4, b5, b6⟩
  rw [HC4.out]
  exact hfin
end Go.Proofs.YtclogekfdmikpaaDoor
