/- In one text: WinB, WinC, WinD, WinE, WinF. -/
import Derived.Test.YtclogekfdmikpaaDoorJ01
import Derived.Deep.DeepAppendRoom
/- The walk of the library's Insert of numbers into a row of the caller's own. -/
namespace Go.Proofs.YtclogekfdmikpaaDoor
open Go.RowKit
set_option linter.unusedVariables false

def AtB (w : World) (row : Option Nat) (v : Value) : Prop := ∀ k, v.ownBlock = some k → row = some k ∨ w.heap.size ≤ k
theorem atB_same (w : World) (g n cap n' cap' : Nat) : AtB w (Value.slice (some ⟨g, 0, none⟩) n cap).ownBlock (.slice (some ⟨g, 0, none⟩) n' cap') := fun k hk => .inl hk
theorem atB_new (w : World) (row : Option Nat) (g n cap : Nat) (h : w.heap.size ≤ g) : AtB w row (.slice (some ⟨g, 0, none⟩) n cap) := fun k hk => .inr (by cases hk; exact h)
theorem atB_or (w : World) (row : Option Nat) (g n cap : Nat) (h : row = some g ∨ g = w.heap.size) : AtB w row (.slice (some ⟨g, 0, none⟩) n cap) := fun k hk => by
 cases hk
 rcases h with h | h
 ·exact .inl h
 ·exact .inr (Nat.le_of_eq h.symm)
def RepP (B : Nat) (xs : List Int) (v : Value) (w : World) (e : Ending) (w' : World) : Prop :=
 ∃ v', e = .returned v' ∧ w'.ownsRow B 3 1 v' xs.length (jv xs) ∧ w.grownBy w' v.ownBlock ∧ AtB w v.ownBlock v'
def SrcI (w : World) (vb vo m : Nat) (vs : List Int) : Prop := vs.length = m ∧ ∀ j v, (jv vs)[j]? = some v → w.cell? ((⟨vb, vo, none⟩ : Addr).add j) = some v
theorem SrcI.kept {w W : World} {vb vo m : Nat} {vs : List Int} (h : SrcI w vb vo m vs) (hb : W.heap[vb]? = w.heap[vb]?) : SrcI W vb vo m vs := by
 refine ⟨h.1, fun j v hv => ?_⟩
 have := h.2 j v hv
 rw [add_lit] at this ⊢
 rw [World.cell?_of_block (w := w) (w' := W) hb]
 exact this
theorem SrcI.shape {w : World} {vb vo m : Nat} {vs : List Int} (h : SrcI w vb vo m vs) (hm : 0 < m) : ∃ t k, w.shape? vb = some (t, k) ∧ k ≠ 0 ∧ vb < w.heap.size := by
 have h0 : (jv vs)[0]? = some (.int .i64 (vs.getD 0 0)) := by
  have := h.1
  cases vs with
  | nil => simp at this; omega
  | cons x r => rfl
 have hc := h.2 0 _ h0
 rw [add_lit] at hc
 have hlt := World.block_lt_of_cell? w _ hc
 unfold World.cell? at hc
 unfold World.shape?
 cases hh : w.heap[vb]? with
 | none => simp [hh] at hc
 | some ob =>
   cases ob with
   | cells c t fr =>
     refine ⟨t, c.size, rfl, fun h0 => ?_, hlt⟩
     simp [hh] at hc
     have : c = #[] := Array.size_eq_zero_iff.1 h0
     rw [this] at hc
     simp at hc
   | _ => simp [hh] at hc
theorem drop_src (xs : List Value) (i : Nat) (arr : List Value) (n : Nat) (h : arr.take n = xs) : ∀ j v, (xs.drop i)[j]? = some v → arr[i + j]? = some v := by
 intro j v hv
 rw [List.getElem?_drop, ← h, List.getElem?_take] at hv
 split at hv
 ·exact hv
 ·cases hv
set_option maxHeartbeats 4000000 in
theorem insI_end (rs vs : List Int) (B : Nat) (v : Value) (vb vo vc m : Nat) (w : World) (hown : w.ownsRow B 3 1 v rs.length (jv rs)) (hB : B ≤ w.heap.size) (hv : SrcI w vb vo m vs) (hm : 0 < m) (hl : rs.length + m ≤ 1000000) :
 Calls Tryd.prog 48 #[v, .int .i64 rs.length, .slice (some ⟨vb, vo, none⟩) m vc] w (RepP B (rs ++ vs) v w) := by
 obtain ⟨i0, hi, hz0, hz1, hz2⟩ := info_parts info_I
 have HI : Hid (Tryd.prog.info? 3 = some i0 ∧ i0.zero = some (.int .i64 0) ∧ i0.size = 1 ∧ i0.bytes = 8) := ⟨hi, hz0, hz1, hz2⟩
 clear hi hz0 hz1 hz2
 have HO : Hid (w.ownsRow B 3 1 v rs.length (jv rs)) := hown
 have HN : Hid (∀ j u, (jv vs)[j]? = some u → w.cell? ((⟨vb, vo, none⟩ : Addr).add j) = some u) := hv.2
 have HFIN : Hid (∀ g' cap' w', w'.ownsRow B 3 1 (.slice (some ⟨g', 0, none⟩) (rs.length + m) cap') (rs.length + m) (jv rs ++ jv vs) → w.grownBy w' v.ownBlock → (v.ownBlock = some g' ∨ g' = w.heap.size) → RepP B (rs ++ vs) v w (.returned (.slice (some ⟨g', 0, none⟩) (rs.length + m) cap')) w') := by
  intro g' cap' w' h1 h2 h3
  refine ⟨_, rfl, ?_, h2, atB_or w _ _ _ _ h3⟩
  rw [List.length_append, hv.1]
  simpa [jv] using h1
 obtain ⟨H, hH⟩ : ∃ H, H = w.heap.size := ⟨_, rfl⟩
 obtain ⟨n, hn⟩ : ∃ n, n = rs.length := ⟨_, rfl⟩
 have HVL : Hid ((jv vs).length = m * 1) := by show (jv vs).length = m * 1; simp [hv.1]
 rw [← hn] at HO HFIN hl hown ⊢
 have hmi : ¬ ((m : Int) = 0) := by omega
 have hmb : ((m : Int) == 0) = false := beq_false_of_ne hmi
 rcases hown.2 with ⟨rfl, h0⟩ | ⟨g, cap, cur, rfl, hbg, hg, hnc, hmx, hs, ht⟩
 ·have hn0 : n = 0 := by omega
  clear hn hv hown
  subst hn0
  go_enter Tryd.func48, Tryd.ntmps48
  go_wp2_with (at_builtin; refine wpList_append_lies _ rfl _ _ 26 rfl B 3 i0 _ 1 8 Tryd.underlying26 HI.out.1 HI.out.2.1 HI.out.2.2.1 HI.out.2.2.2 rfl (by decide) _ 0 (jv rs) rfl HO.out ⟨vb, vo, none⟩ m vc (jv vs) rfl HVL.out HN.out (jv_one vs) hm (by unfold maxLen; omega) (by omega) hB H hH.symm (fun g4 cap4 w4 q1 q2 q3 q4 => ?_); have HF : Hid (RepP B (rs ++ vs) (.slice none 0 0) w (.returned (.slice (some ⟨g4, 0, none⟩) (0 + m) cap4)) w4) := HFIN.out g4 cap4 w4 q1 q2 (by rw [← hH]; exact q3); clear q1 q2 q3 q4)
  go_ret
  have hf := HF.out
  rw [Nat.zero_add] at hf
  exact hf
 ·have hm' : cap ≤ 9223372036854775807 := by simpa [maxLen] using hmx
  have hncI : (n : Int) ≤ (cap : Int) := by omega
  clear hn hv hown hg hs ht hmx hbg
  go_enter Tryd.func48, Tryd.ntmps48
  go_wp2_with (at_builtin; refine wpList_append_lies _ rfl _ _ 26 rfl B 3 i0 _ 1 8 Tryd.underlying26 HI.out.1 HI.out.2.1 HI.out.2.2.1 HI.out.2.2.2 rfl (by decide) _ n (jv rs) rfl HO.out ⟨vb, vo, none⟩ m vc (jv vs) rfl HVL.out HN.out (jv_one vs) hm (by unfold maxLen; omega) (by omega) hB H hH.symm (fun g4 cap4 w4 q1 q2 q3 q4 => ?_); have HF : Hid (RepP B (rs ++ vs) (.slice (some ⟨g, 0, none⟩) n cap) w (.returned (.slice (some ⟨g4, 0, none⟩) (n + m) cap4)) w4) := HFIN.out g4 cap4 w4 q1 q2 (by rw [← hH]; exact q3); clear q1 q2 q3 q4)
  all_goals
   go_ret
   exact HF.out
end Go.Proofs.YtclogekfdmikpaaDoor

/- The walk of the library's Insert of numbers, where others must make room. -/
namespace Go.Proofs.YtclogekfdmikpaaDoor
open Go.RowKit
set_option linter.unusedVariables false

theorem cells_up (L F E L1 L2 : List Value) (i j n m : Nat) (hij : i ≤ j) (hj : j ≤ n) (hn : n ≤ L.length) (ht : i + m + (n - j) ≤ L.length) (hF : L.take n = F) (hE : E.length = m)
 (h1 : L1 = L.take (i + m) ++ (F.drop j ++ L.drop (i + m + (F.drop j).length))) (h2 : L2 = L1.take i ++ (E ++ L1.drop (i + E.length))) : L2.take (i + m + (n - j)) = F.take i ++ (E ++ F.drop j) := by
 have hFl : F.length = n := by rw [← hF, List.length_take]; omega
 have ha : (L.take (i + m)).length = i + m := by rw [List.length_take]; omega
 have hb : (F.take i).length = i := by rw [List.length_take]; omega
 have e1 : L1.take i = F.take i := by
  rw [h1, List.take_append_of_le_length (by omega), List.take_take, ← hF, List.take_take]
  congr 1
  omega
 have e2 : L1.drop (i + E.length) = F.drop j ++ L.drop (i + m + (F.drop j).length) := by
  rw [h1, hE]
  exact List.drop_left' ha
 rw [h2, e1, e2, ← List.append_assoc, ← List.append_assoc]
 rw [List.take_append_of_le_length (by simp [hFl, hE, hb]; omega), List.take_of_length_le (by simp [hFl, hE, hb]; omega), List.append_assoc]
theorem cells_down (L F E L1 L2 : List Value) (i j n m : Nat) (hij : i + m ≤ j) (hj : j ≤ n) (hn : n ≤ L.length) (hF : L.take n = F) (hE : E.length = m)
 (h1 : L1 = L.take i ++ (E ++ L.drop (i + E.length))) (h2 : L2 = L1.take (i + m) ++ (F.drop j ++ L1.drop (i + m + (F.drop j).length))) : L2.take (i + m + (n - j)) = F.take i ++ (E ++ F.drop j) := by
 have hFl : F.length = n := by rw [← hF, List.length_take]; omega
 have ha : (L.take i).length = i := by rw [List.length_take]; omega
 have e0 : L.take i = F.take i := by
  rw [← hF, List.take_take]
  congr 1
  omega
 have e1 : L1.take (i + m) = F.take i ++ E := by
  rw [h1, ← List.append_assoc, List.take_left' (by rw [List.length_append, ha, hE]), e0]
 rw [h2, e1, ← List.append_assoc]
 have hb : (F.take i).length = i := by rw [← e0]; exact ha
 rw [List.take_append_of_le_length (by simp [hFl, hE, hb]; omega), List.take_of_length_le (by simp [hFl, hE, hb]; omega), List.append_assoc]
theorem cells_new (F E Z L0 L1 L2 : List Value) (i j n m : Nat) (hij : i ≤ j) (hj : j ≤ n) (hF : F.length = n) (hE : E.length = m) (h0 : L0 = F.take i ++ Z) (hZ : m + (n - j) ≤ Z.length)
 (h1 : L1 = L0.take i ++ (E ++ L0.drop (i + E.length))) (h2 : L2 = L1.take (i + m) ++ (F.drop j ++ L1.drop (i + m + (F.drop j).length))) : L2.take (i + m + (n - j)) = F.take i ++ (E ++ F.drop j) := by
 have hb : (F.take i).length = i := by rw [List.length_take]; omega
 have e0 : L0.take i = F.take i := by rw [h0, List.take_left' hb]
 have e1 : L1.take (i + m) = F.take i ++ E := by
  rw [h1, e0, ← List.append_assoc, List.take_left' (by rw [List.length_append, hb, hE])]
 rw [h2, e1, ← List.append_assoc]
 rw [List.take_append_of_le_length (by simp [hF, hE, hb]; omega), List.take_of_length_le (by simp [hF, hE, hb]; omega), List.append_assoc]
theorem jv_take (xs : List Int) (i : Nat) : jv (xs.take i) = (jv xs).take i := by simp [jv, List.map_take]
theorem jv_drop (xs : List Int) (i : Nat) : jv (xs.drop i) = (jv xs).drop i := by simp [jv, List.map_drop]
theorem jv_len (xs : List Int) : (jv xs).length = xs.length := by simp [jv]
theorem rep_jv (rs vs : List Int) (i j : Nat) : jv (rs.take i ++ vs ++ rs.drop j) = (jv rs).take i ++ (jv vs ++ (jv rs).drop j) := by
 rw [← jv_take, ← jv_drop]
 simp [jv]
theorem rep_len (rs vs : List Int) (i j n m : Nat) (hi : i ≤ j) (hj : j ≤ n) (hn : rs.length = n) (hm : vs.length = m) : (rs.take i ++ vs ++ rs.drop j).length = i + m + (n - j) := by
 simp; omega
set_option maxHeartbeats 4000000 in
theorem insI_shift (rs vs : List Int) (B g cap : Nat) (cur : Array Value) (vb vo vc m i : Nat) (w : World) (hbg : B ≤ g) (hg : w.heap[g]? = some (.cells cur 3 (0, 0))) (hmx : cap ≤ maxLen) (hs : cur.size = cap)
 (ht : cur.toList.take rs.length = jv rs) (hi : i < rs.length) (hroom : rs.length + m ≤ cap) (hvg : vb ≠ g) (hv : SrcI w vb vo m vs) (hm : 0 < m) (hl : rs.length + m ≤ 1000000) :
 Calls Tryd.prog 48 #[.slice (some ⟨g, 0, none⟩) rs.length cap, .int .i64 i, .slice (some ⟨vb, vo, none⟩) m vc] w (RepP B (rs.take i ++ vs ++ rs.drop i) (.slice (some ⟨g, 0, none⟩) rs.length cap) w) := by
 obtain ⟨n, hn⟩ : ∃ n, n = rs.length := ⟨_, rfl⟩
 rw [← hn] at ht hi hroom hl ⊢
 have hm' : cap ≤ 9223372036854775807 := by simpa [maxLen] using hmx
 have hsz : (Tryd.prog.info? 3).map (·.size) = some 1 := by kernel_rfl
 obtain ⟨tA, kA, hshv, hkA, hvw⟩ := hv.shape hm
 have hshg : w.shape? g = some (3, cap) := by simp [World.shape?, hg, hs]
 have hov : ∀ lb cb, (callFunc 49 #[.slice (some ⟨vb, vo, none⟩) m vc, .slice (some ⟨g, i + m, none⟩) lb cb]).run Tryd.prog w = .ok (.value (.bool false)) w := fun lb cb => by
  rw [run_callFunc_extern Tryd.func49 (by kernel_rfl) (by kernel_rfl) (by kernel_rfl) (e := Extern.SlicesOverlaps.overlaps #[26, 26] #[4]) (by kernel_rfl),
   run_overlaps_apart2 w 26 4 3 Tryd.underlying26 1 Tryd.sizeOf3 ⟨vb, vo, none⟩ ⟨g, i + m, none⟩ m vc lb cb hvg tA 3 kA cap hshv hshg hkA (Lib.frozen_of_heap hg _) (Lib.frozen_of_heap hg cap)]
  rfl
 obtain ⟨D, hD⟩ : ∃ D, D = (jv rs).drop i := ⟨_, rfl⟩
 have hDl : D.length = n - i := by rw [hD, List.length_drop, jv_len, hn]
 obtain ⟨E, hE⟩ : ∃ E, E = jv vs := ⟨_, rfl⟩
 have hEl : E.length = m := by rw [hE, jv_len, hv.1]
 have hcp1 : ∀ ty dc sc, (Builtin.copy_ #[26, 26] ty #[.slice (some ⟨g, i + m, none⟩) (n - i) dc, .slice (some ⟨g, i, none⟩) (n + m - i) sc]).run Tryd.prog w.drew = .ok (goInt ((n - i : Nat) : Int)) (w.drew.setCells g (i + m) D) := fun ty dc sc =>
  run_copyI w.drew _ _ ty 3 g (i + m) (n - i) dc ⟨g, i, none⟩ (n + m - i) sc (n - i) D Tryd.underlying26 hsz (by simp only [Nat.min_def]; split <;> omega) hDl
   (blk_at (W := w.drew) hg i D (by rw [hD]; exact drop_src _ i _ n ht)) (fun j hj => (blk_cell (W := w.drew) hg _ (by omega)).1) (fun j hj => (blk_cell (W := w.drew) hg _ (by omega)).2) (fun v h => jv_one rs v (by rw [hD] at h; exact List.mem_of_mem_drop h))
 obtain ⟨W1, hW1⟩ : ∃ W1, W1 = w.drew.setCells g (i + m) D := ⟨_, rfl⟩
 rw [← hW1] at hcp1
 have hg1 : W1.heap[g]? = some (.cells (setL cur (i + m) D) 3 (0, 0)) := by rw [hW1]; exact heap_setCells g D _ w.drew cur _ _ hg
 have hv1 : SrcI W1 vb vo m vs := hv.kept (by rw [hW1, heap_setCells_other g vb hvg]; rfl)
 have hcp2 : ∀ ty dc, (Builtin.copy_ #[26, 26] ty #[.slice (some ⟨g, i, none⟩) (n + m - i) dc, .slice (some ⟨vb, vo, none⟩) m vc]).run Tryd.prog W1 = .ok (goInt (m : Int)) (W1.setCells g i E) := fun ty dc =>
  run_copyI W1 _ _ ty 3 g i (n + m - i) dc ⟨vb, vo, none⟩ m vc m E Tryd.underlying26 hsz (by simp only [Nat.min_def]; split <;> omega) hEl
   (fun j v h => hv1.2 j v (by rw [← hE]; exact h)) (fun j hj => (blk_cell hg1 _ (by rw [setL_size]; omega)).1) (fun j hj => (blk_cell hg1 _ (by rw [setL_size]; omega)).2) (fun v h => jv_one vs v (by rw [← hE]; exact h))
 have HFIN : Hid (RepP B (rs.take i ++ vs ++ rs.drop i) (.slice (some ⟨g, 0, none⟩) n cap) w (.returned (.slice (some ⟨g, 0, none⟩) (n + m) cap)) (W1.setCells g i E)) := by
  have hlen := rep_len rs vs i i n m (Nat.le_refl _) (by omega) hn.symm hv.1
  have e : n + m = i + m + (n - i) := by omega
  refine ⟨_, rfl, ?_, gb_set (by rw [hW1]; exact gb_set (gb_drew (gb_refl w _)) g _ _ (.inl rfl)) g _ _ (.inl rfl), atB_same w _ _ _ _ _⟩
  rw [hlen, ← e]
  refine own_fin (heap_setCells g E i W1 _ _ _ hg1) hbg (by rw [setL_size, setL_size]; exact hs) hmx hroom (by rw [hlen, ← e]) ?_
  rw [rep_jv, e, ← hE]
  exact cells_up cur.toList (jv rs) E (setL cur (i + m) D).toList _ i i n m (Nat.le_refl _) (by omega) (by simp [hs]; omega) (by simp [hs]; omega) ht hEl
   (by rw [setL_list D cur _ (by rw [hDl, hs]; omega), hD]) (by rw [setL_list E _ _ (by rw [setL_size, hEl, hs]; omega)])
 have c1 := ct_from g 0 n cap i (by omega) (by omega) (by omega) (i : Int) rfl
 have c2 := ct_to (some ⟨g, 0, none⟩) n cap (n + m) (by omega) ((n : Int) + (m : Int)) (by omega)
 have c3 := ct_from g 0 (n + m) cap (i + m) (by omega) (by omega) (by omega) ((i : Int) + (m : Int)) (by omega)
 have c4 := ct_from g 0 (n + m) cap i (by omega) (by omega) (by omega) (i : Int) rfl
 rw [Nat.zero_add] at c1 c3 c4
 rw [show n + m - (i + m) = n - i by omega] at c3
 have hz1 : ((m : Int) == 0) = false := beq_false_of_ne (by omega)
 have hz2 : ((i : Int) == (n : Int)) = false := beq_false_of_ne (by omega)
 have hz3 : ¬ ((cap : Int) < (n : Int) + (m : Int)) := by omega
 have hw1 : IntKind.i64.wrap ((i : Int) + (m : Int)) = (i : Int) + (m : Int) := by rw [IntKind.wrap_i64]; omega
 have hw2 : IntKind.i64.wrap ((n : Int) + (m : Int)) = (n : Int) + (m : Int) := by rw [IntKind.wrap_i64]; omega
 clear hn hsz hshg hshv hD hDl hE hEl hg1 hv1 hg hs ht hv hmx hW1 hkA hvw
 go_enter Tryd.func48, Tryd.ntmps48
 go_wp2_with (simp only [hov])
 go_region_law (refine step_copy_runI rfl _ _ 26 26 rfl _ _ (by simp [Act.eval, Act.put]) (by simp [Act.eval, Act.put]) (hcp1 _ _ _) ?_)
 go_wp2_with (at_builtin; refine wpList_copy_runI _ rfl _ _ 26 26 rfl _ _ rfl rfl (hcp2 _ _) ?_)
 go_ret
 exact HFIN.out
end Go.Proofs.YtclogekfdmikpaaDoor

/- Where there is no room: a new row is made. The walk of the library's Insert of numbers, whole. -/
namespace Go.Proofs.YtclogekfdmikpaaDoor
open Go.RowKit
set_option linter.unusedVariables false

theorem growI (rs vs : List Int) (B g cap : Nat) (cur : Array Value) (vb vo vc m i j n tot : Nat) (w : World) (hB : B ≤ w.heap.size) (hg : w.heap[g]? = some (.cells cur 3 (0, 0))) (hnc : n ≤ cap) (hs : cur.size = cap) (hn : n = rs.length)
 (ht : cur.toList.take n = jv rs) (hij : i ≤ j) (hj : j < n) (htot : tot = i + m + (n - j)) (hroom : cap < tot) (hl : tot ≤ 1000000) (hv : SrcI w vb vo m vs) (hm : 0 < m) :
 ∃ G W1 W2 W3, tot ≤ G ∧ G ≤ 9223372036854775807 ∧
   (∀ ty x, x = ((tot - i : Nat) : Int) → (Builtin.append_ #[26, 3] ty #[.slice (some ⟨g, 0, none⟩) i cap, .int .i64 x]).run Tryd.prog w = .ok (.slice (some ⟨w.heap.size, 0, none⟩) tot G) W1) ∧
   (∀ ty dc, (Builtin.copy_ #[26, 26] ty #[.slice (some ⟨w.heap.size, i, none⟩) (tot - i) dc, .slice (some ⟨vb, vo, none⟩) m vc]).run Tryd.prog W1 = .ok (goInt (m : Int)) W2) ∧
   (∀ ty dc sc, (Builtin.copy_ #[26, 26] ty #[.slice (some ⟨w.heap.size, i + m, none⟩) (n - j) dc, .slice (some ⟨g, j, none⟩) (n - j) sc]).run Tryd.prog W2.drew = .ok (goInt ((n - j : Nat) : Int)) W3) ∧
   RepP B (rs.take i ++ vs ++ rs.drop j) (.slice (some ⟨g, 0, none⟩) n cap) w (.returned (.slice (some ⟨w.heap.size, 0, none⟩) tot G)) W3 := by
 obtain ⟨i0, hi0, hz0, hzs, hzb⟩ := info_parts info_I
 have hsz : (Tryd.prog.info? 3).map (·.size) = some 1 := by kernel_rfl
 obtain ⟨_, _, _, _, hvw⟩ := hv.shape hm
 have hgw : g < w.heap.size := (Array.getElem?_eq_some_iff.1 hg).1
 obtain ⟨F, hF⟩ : ∃ F, F = jv rs := ⟨_, rfl⟩
 rw [← hF] at ht
 have hFl : F.length = n := by rw [hF, jv_len, hn]
 have hcell : ∀ j v, F[j]? = some v → w.cell? ⟨g, j, none⟩ = some v := by
  intro j v h
  rw [cell_of_row w g j _ _ _ hg]
  rw [← ht, List.getElem?_take] at h
  split at h
  ·simpa using h
  ·cases h
 have hold : (Builtin.firstCells i0.size i (.slice (some ⟨g, 0, none⟩) i cap)).run Tryd.prog w.drew = .ok (F.take i).toArray w.drew := by
  rw [hzs]
  exact run_firstCells_some w.drew 1 i ⟨g, 0, none⟩ i cap (F.take i) (by rw [List.length_take]; omega) (fun j v hj => by
   rw [add_lit, Nat.zero_add]
   rw [List.getElem?_take] at hj
   split at hj
   ·exact hcell j v hj
   ·cases hj)
 obtain ⟨Z, hZ⟩ : ∃ Z : Value, Z = .int .i64 0 := ⟨_, rfl⟩
 rw [← hZ] at hz0
 obtain ⟨k, hk⟩ : ∃ k, k = tot - i := ⟨_, rfl⟩
 have hik : i + k = tot := by omega
 obtain ⟨G, hG⟩ : ∃ G, G = grownCap w tot cap 3 := ⟨_, rfl⟩
 obtain ⟨ROW, hROW⟩ : ∃ ROW : Array Value, ROW = (F.take i).toArray ++ Builtin.zeroCells Z.cells k ++ Builtin.zeroCells Z.cells (G - tot) := ⟨_, rfl⟩
 have hrz : ∀ ty x, x = ((tot - i : Nat) : Int) → (Builtin.append_ #[26, 3] ty #[.slice (some ⟨g, 0, none⟩) i cap, .int .i64 x]).run Tryd.prog w =
  .ok (.slice (some ⟨w.heap.size, 0, none⟩) tot G) (w.drew.alloc (.cells ROW 3)) := fun ty x hx => by
  have h := Lib.run_append_grow_zeros w 26 3 ty 3 i0 _ .i64 .i64 Tryd.underlying26 Tryd.underlying3 hi0 hz0 (some ⟨g, 0, none⟩) i cap (F.take i) hold k (by omega) (by omega) (by omega) (by omega) (by rw [hzb]; omega) (by rw [hzb, hik]; exact growslice_fits hroom (by omega))
  rw [hik] at h
  rw [hx, ← hk, hG, hROW, hG]
  exact h
 have hzc : ∀ q, (Builtin.zeroCells Z.cells q).size = q := fun q => by rw [hZ]; simp [Builtin.zeroCells, Value.cells]
 have hGn : tot ≤ G := by rw [hG]; exact grownCap_ge w _ _ _
 have hGm : G ≤ maxLen := by rw [hG]; exact grownCap_le_maxLen w tot cap 3 (by unfold maxLen; omega)
 have hRs : ROW.size = G := by
  rw [hROW, Array.size_append, Array.size_append, hzc, hzc]
  simp
  omega
 have hRl : ROW.toList = F.take i ++ ((Builtin.zeroCells Z.cells k).toList ++ (Builtin.zeroCells Z.cells (G - tot)).toList) := by rw [hROW]; simp
 have hZl : m + (n - j) ≤ ((Builtin.zeroCells Z.cells k).toList ++ (Builtin.zeroCells Z.cells (G - tot)).toList).length := by
  rw [List.length_append, Array.length_toList, Array.length_toList, hzc, hzc]; omega
 obtain ⟨N, hN⟩ : ∃ N, N = w.heap.size := ⟨_, rfl⟩
 obtain ⟨W1, hW1⟩ : ∃ W1, W1 = w.drew.alloc (.cells ROW 3) := ⟨_, rfl⟩
 rw [← hW1, ← hN] at hrz
 have gb1 : w.grownBy W1 (some g) := by rw [hW1]; exact gb_alloc (gb_drew (gb_refl w _)) _
 have hg1 : W1.heap[N]? = some (.cells ROW 3 (0, 0)) := by rw [hW1, hN]; exact heap_alloc_new w.drew _
 have hold1 : ∀ b, b < w.heap.size → W1.heap[b]? = w.heap[b]? := fun b hb => by rw [hW1, Below.heap_alloc _ _ _ (by exact hb)]; rfl
 have hv1 : SrcI W1 vb vo m vs := hv.kept (hold1 vb hvw)
 obtain ⟨D, hD⟩ : ∃ D, D = F.drop j := ⟨_, rfl⟩
 have hDl : D.length = n - j := by rw [hD, List.length_drop, hFl]
 obtain ⟨E, hE⟩ : ∃ E, E = jv vs := ⟨_, rfl⟩
 have hEl : E.length = m := by rw [hE, jv_len, hv.1]
 have hcpA : ∀ ty dc, (Builtin.copy_ #[26, 26] ty #[.slice (some ⟨N, i, none⟩) (tot - i) dc, .slice (some ⟨vb, vo, none⟩) m vc]).run Tryd.prog W1 = .ok (goInt (m : Int)) (W1.setCells N i E) := fun ty dc =>
  run_copyI W1 _ _ ty 3 N i (tot - i) dc ⟨vb, vo, none⟩ m vc m E Tryd.underlying26 hsz (by simp only [Nat.min_def]; split <;> omega) hEl
   (fun j v h => hv1.2 j v (by rw [← hE]; exact h)) (fun j hj => (blk_cell hg1 _ (by omega)).1) (fun j hj => (blk_cell hg1 _ (by omega)).2) (fun v h => jv_one vs v (by rw [← hE]; exact h))
 obtain ⟨W2, hW2⟩ : ∃ W2, W2 = W1.setCells N i E := ⟨_, rfl⟩
 rw [← hW2] at hcpA
 have gb2 : w.grownBy W2 (some g) := by rw [hW2]; exact gb_set gb1 N _ _ (.inr (by omega))
 have hg2 : W2.heap[N]? = some (.cells (setL ROW i E) 3 (0, 0)) := by rw [hW2]; exact heap_setCells N E _ W1 _ _ _ hg1
 have hgg : W2.heap[g]? = some (.cells cur 3 (0, 0)) := by rw [hW2, heap_setCells_other N g (by omega), hold1 g hgw]; exact hg
 have hcpB : ∀ ty dc sc, (Builtin.copy_ #[26, 26] ty #[.slice (some ⟨N, i + m, none⟩) (n - j) dc, .slice (some ⟨g, j, none⟩) (n - j) sc]).run Tryd.prog W2.drew = .ok (goInt ((n - j : Nat) : Int)) (W2.drew.setCells N (i + m) D) := fun ty dc sc =>
  run_copyI W2.drew _ _ ty 3 N (i + m) (n - j) dc ⟨g, j, none⟩ (n - j) sc (n - j) D Tryd.underlying26 hsz (by simp only [Nat.min_def]; split <;> omega) hDl
   (blk_at (W := W2.drew) hgg j D (by rw [hD]; exact drop_src _ j _ n ht)) (fun q hq => (blk_cell (W := W2.drew) hg2 _ (by rw [setL_size]; omega)).1) (fun q hq => (blk_cell (W := W2.drew) hg2 _ (by rw [setL_size]; omega)).2) (fun v h => jv_one rs v (by rw [hD, hF] at h; exact List.mem_of_mem_drop h))
 refine ⟨G, W1, W2, W2.drew.setCells N (i + m) D, hGn, by simpa [maxLen] using hGm, by rw [← hN]; exact hrz, by rw [← hN]; exact hcpA, by rw [← hN]; exact hcpB, ?_⟩
 have hlen := rep_len rs vs i j n m hij (by omega) hn.symm hv.1
 refine ⟨_, rfl, ?_, gb_set (gb_drew gb2) N _ _ (.inr (by omega)), atB_new w _ _ _ _ (Nat.le_refl _)⟩
 rw [hlen, ← htot, ← hN]
 refine own_fin (heap_setCells N D (i + m) W2.drew _ _ _ hg2) (by omega) (by rw [setL_size, setL_size]; exact hRs) hGm hGn (by rw [hlen, ← htot]) ?_
 rw [rep_jv, htot, ← hE, ← hF]
 exact cells_new F E _ ROW.toList (setL ROW i E).toList _ i j n m hij (by omega) hFl hEl hRl hZl (by rw [setL_list E ROW _ (by rw [hEl, hRs]; omega)])
  (by rw [setL_list D _ _ (by rw [setL_size, hDl, hRs]; omega), hD])
set_option maxHeartbeats 4000000 in
theorem insI_grow (rs vs : List Int) (B g cap : Nat) (cur : Array Value) (vb vo vc m i : Nat) (w : World) (hB : B ≤ w.heap.size) (hg : w.heap[g]? = some (.cells cur 3 (0, 0))) (hnc : rs.length ≤ cap) (hs : cur.size = cap)
 (ht : cur.toList.take rs.length = jv rs) (hi : i < rs.length) (hroom : cap < rs.length + m) (hv : SrcI w vb vo m vs) (hm : 0 < m) (hl : rs.length + m ≤ 1000000) :
 Calls Tryd.prog 48 #[.slice (some ⟨g, 0, none⟩) rs.length cap, .int .i64 i, .slice (some ⟨vb, vo, none⟩) m vc] w (RepP B (rs.take i ++ vs ++ rs.drop i) (.slice (some ⟨g, 0, none⟩) rs.length cap) w) := by
 obtain ⟨n, hn⟩ : ∃ n, n = rs.length := ⟨_, rfl⟩
 rw [← hn] at ht hi hroom hnc hl ⊢
 obtain ⟨tot, htot⟩ : ∃ tot, tot = n + m := ⟨_, rfl⟩
 obtain ⟨G, W1, W2, W3, g1, g2, hA, hBc, hC, hfin⟩ := growI rs vs B g cap cur vb vo vc m i i n tot w hB hg hnc hs hn ht (Nat.le_refl _) hi (by omega) (by omega) (by omega) hv hm
 have HFIN : Hid (RepP B (rs.take i ++ vs ++ rs.drop i) (.slice (some ⟨g, 0, none⟩) n cap) w (.returned (.slice (some ⟨w.heap.size, 0, none⟩) tot G)) W3) := hfin
 have hA' := fun ty => hA ty ((n : Int) + (m : Int) - (i : Int)) (by omega)
 generalize w.heap.size = N at hA' hBc hC HFIN
 have c1 := ct_from g 0 n cap i (by omega) (by omega) (by omega) (i : Int) rfl
 have c2 := ct_to (some ⟨g, 0, none⟩) n cap i (by omega) (i : Int) rfl
 have c3 := ct_from N 0 tot G i (by omega) g1 (by omega) (i : Int) rfl
 have c4 := ct_from N 0 tot G (i + m) (by omega) g1 (by omega) ((i : Int) + (m : Int)) (by omega)
 rw [Nat.zero_add] at c1 c3 c4
 rw [show tot - (i + m) = n - i by omega] at c4
 have hz1 : ((m : Int) == 0) = false := beq_false_of_ne (by omega)
 have hz2 : ((i : Int) == (n : Int)) = false := beq_false_of_ne (by omega)
 have hz3 : (cap : Int) < (n : Int) + (m : Int) := by omega
 have hw1 : IntKind.i64.wrap ((i : Int) + (m : Int)) = (i : Int) + (m : Int) := by rw [IntKind.wrap_i64]; omega
 have hw2 : IntKind.i64.wrap ((n : Int) + (m : Int)) = (n : Int) + (m : Int) := by rw [IntKind.wrap_i64]; omega
 have hw3 : IntKind.i64.wrap ((n : Int) + (m : Int) - (i : Int)) = (n : Int) + (m : Int) - (i : Int) := by rw [IntKind.wrap_i64]; omega
 clear hn hg hs ht hv hfin hA hB htot
 go_enter Tryd.func48, Tryd.ntmps48
 go_wp2_with (first
  | (at_builtin; refine Lib.wpList_append_run _ rfl _ _ _ _ rfl _ _ rfl rfl _ _ (hA' _) ?_)
  | (at_builtin; refine wpList_copy_runI _ rfl _ _ 26 26 rfl _ _ rfl rfl (hBc _ _) ?_))
 go_region_law (refine step_copy_runI rfl _ _ 26 26 rfl _ _ (by simp [Act.eval, Act.put]) (by simp [Act.eval, Act.put]) (hC _ _ _) ?_)
 go_wp2
 go_ret
 exact HFIN.out
set_option maxHeartbeats 1000000 in
theorem insI_none (v va : Value) (i n vc : Nat) (a : Option Addr) (w : World) (cap : Nat) (ad : Option Addr) (hv : v = .slice ad n cap) (hi : i ≤ n) (hn : n ≤ cap) (hc : cap ≤ 9223372036854775807) : Calls Tryd.prog 48 #[v, .int .i64 i, .slice a 0 vc] w fun e w' => e = .returned v ∧ w' = w := by
 subst hv
 have h1 : (i : Int) ≤ (n : Int) := by omega
 have h2 : (0 : Int) ≤ (i : Int) := by omega
 cases ad
 all_goals
  go_enter Tryd.func48, Tryd.ntmps48
  go_wp2
  all_goals
   go_ret
   exact ⟨rfl, rfl⟩
theorem insI_any (rs vs : List Int) (B : Nat) (v : Value) (va : Option Addr) (vc m i : Nat) (w : World) (hown : w.ownsRow B 3 1 v rs.length (jv rs)) (hB : B ≤ w.heap.size) (hi : i ≤ rs.length) (hv : Rd .i64 w va m vs)
 (hne : ∀ b off, va = some ⟨b, off, none⟩ → v.ownBlock ≠ some b) (hl : rs.length + m ≤ 1000000) :
 Calls Tryd.prog 48 #[v, .int .i64 i, .slice va m vc] w (RepP B (rs.take i ++ vs ++ rs.drop i) v w) := by
 rcases Nat.eq_zero_or_pos m with rfl | hm
 ·obtain rfl : vs = [] := List.eq_nil_of_length_eq_zero hv.1
  obtain ⟨ad, cap, rfl, h1, h2, _⟩ := rd_own2 (k := .i64) hown
  refine (insI_none _ (.slice va 0 vc) i rs.length vc va w cap ad rfl hi h1 h2).mono ?_
  rintro e w' ⟨rfl, rfl⟩
  rw [List.append_nil, List.take_append_drop]
  exact ⟨_, rfl, hown, gb_refl _ _, fun k hk => .inl hk⟩
 ·obtain ⟨vb, vo, rfl, hc⟩ := hv.2 hm
  have hs : SrcI w vb vo m vs := by
   refine ⟨hv.1, fun j u hu => ?_⟩
   exact rd_news (x := ⟨vb, vo, none⟩) hv j u hu
  rcases Nat.eq_or_lt_of_le hi with rfl | hlt
  ·rw [List.take_length, List.drop_length, List.append_nil]
   exact insI_end rs vs B v vb vo vc m w hown hB hs hm hl
  ·rcases hown.2 with ⟨rfl, h0⟩ | ⟨g, cap, cur, rfl, hbg, hg, hnc, hmx, hsz, ht⟩
   ·omega
   ·have hvg : vb ≠ g := fun e => hne vb vo rfl (by rw [e]; rfl)
    rw [Nat.mul_one] at hsz ht
    by_cases hroom : rs.length + m ≤ cap
    ·exact insI_shift rs vs B g cap cur vb vo vc m i w hbg hg hmx hsz ht hlt hroom hvg hs hm hl
    ·exact insI_grow rs vs B g cap cur vb vo vc m i w hB hg hnc hsz ht hlt (by omega) hs hm hl
end Go.Proofs.YtclogekfdmikpaaDoor

/- The walk of the library's Replace of numbers in a row of the caller's own: at the row's end. -/
namespace Go.Proofs.YtclogekfdmikpaaDoor
open Go.RowKit
set_option linter.unusedVariables false

theorem own_pre {w : World} {B g cap n i : Nat} {rs : List Int} (h : w.ownsRow B 3 1 (.slice (some ⟨g, 0, none⟩) n cap) n (jv rs)) (hi : i ≤ n) : w.ownsRow B 3 1 (.slice (some ⟨g, 0, none⟩) i cap) i (jv (rs.take i)) := by
 have hl : rs.length = n := by have := h.1; simpa using this
 rcases h.2 with ⟨h0, _⟩ | ⟨g', cap', cur, hv, hb, hg, hn, hm, hs, ht⟩
 ·cases h0
 ·cases hv
  refine ⟨by simp; omega, .inr ⟨g, cap, cur, rfl, hb, hg, by omega, hm, hs, ?_⟩⟩
  rw [Nat.mul_one] at ht ⊢
  rw [jv_take, ← ht, List.take_take]
  congr 1
  omega
theorem own_blkI {w : World} {B g cap n : Nat} {e : TypeId} {xs : List Value} (h : w.ownsRow B e 1 (.slice (some ⟨g, 0, none⟩) n cap) n xs) : ∃ cur, w.heap[g]? = some (.cells cur e (0, 0)) ∧ cur.size = cap ∧ n ≤ cap ∧ cap ≤ maxLen ∧ B ≤ g ∧ cur.toList.take n = xs := by
 rcases h.2 with ⟨h0, _⟩ | ⟨g', cap', cur, hv, hb, hg, hn, hm, hs, ht⟩
 ·cases h0
 ·cases hv
  exact ⟨cur, hg, by simpa using hs, hn, hm, hb, by simpa using ht⟩
theorem zero_int : ∀ w : World, (zeroValue 3).run Tryd.prog w = .ok (.int .i64 0) w := fun w => by
 obtain ⟨i0, hi, hz0, _, _⟩ := info_parts info_I
 simp [zeroValue, typeInfo, hi, hz0]
theorem own_clear {w : World} {B g cap n k : Nat} {rs : List Int} (h : w.ownsRow B 3 1 (.slice (some ⟨g, 0, none⟩) n cap) n (jv rs)) (hk : n + k ≤ cap) : (w.setCells g n (List.replicate k (.int .i64 0))).ownsRow B 3 1 (.slice (some ⟨g, 0, none⟩) n cap) n (jv rs) := by
 obtain ⟨cur, hg, hs, hn, hm, hb, ht⟩ := own_blkI h
 refine own_fin (heap_setCells g _ n w _ _ _ hg) hb (by rw [setL_size]; exact hs) hm hn (by have := h.1; simpa using this) ?_
 rw [setL_list _ _ _ (by simp [hs]; omega), List.take_left' (by simp [hs]; omega)]
 exact ht
set_option maxHeartbeats 4000000 in
set_option maxRecDepth 100000 in
theorem repI_endA (rs vs : List Int) (B g cap : Nat) (va : Option Addr) (vc m i : Nat) (w : World) (hown : w.ownsRow B 3 1 (.slice (some ⟨g, 0, none⟩) rs.length cap) rs.length (jv rs)) (hi : i + m < rs.length) (hv : Rd .i64 w va m vs) (hvn : va = none → vc = 0) (hl : rs.length ≤ 1000000) :
 Calls Tryd.prog 28 #[.slice (some ⟨g, 0, none⟩) rs.length cap, .int .i64 i, .int .i64 rs.length, .slice va m vc] w (RepP B (rs.take i ++ vs) (.slice (some ⟨g, 0, none⟩) rs.length cap) w) := by
 obtain ⟨i0, ii, hz0, hz1, hz2⟩ := info_parts info_I
 obtain ⟨n, hn⟩ : ∃ n, n = rs.length := ⟨_, rfl⟩
 rw [← hn] at hown hi hl ⊢
 obtain ⟨cur, hg, hs, hnc, hmx, hbg, ht⟩ := own_blkI hown
 have hm' : cap ≤ 9223372036854775807 := by simpa [maxLen] using hmx
 have hpre := own_pre (i := i) hown (by omega)
 obtain ⟨W1, hap, ho1, gb1⟩ : ∃ W1, (∀ ty, (Builtin.append_ #[26, 26] ty #[.slice (some ⟨g, 0, none⟩) i cap, .slice va m vc]).run Tryd.prog w = .ok (.slice (some ⟨g, 0, none⟩) (i + m) cap) W1) ∧ W1.ownsRow B 3 1 (.slice (some ⟨g, 0, none⟩) (i + m) cap) (i + m) (jv (rs.take i ++ vs)) ∧ w.grownBy W1 (some g) := by
  cases va with
  | none =>
    have hm0 := rd_none hv rfl
    subst hm0
    obtain rfl : vs = [] := List.eq_nil_of_length_eq_zero hv.1
    have hvc := hvn rfl
    subst hvc
    refine ⟨w, fun ty => ?_, by simpa using hpre, gb_refl _ _⟩
    exact run_append_owned_none (P := Tryd.prog) (w := w) B 26 ty 3 i0 1 Tryd.underlying26 ii _ _ _ hpre
  | some x =>
    obtain ⟨W1, e1, e2, e3⟩ := run_append_own_spare (P := Tryd.prog) w B 26 26 3 i0 1 Tryd.underlying26 ii hz1 g i cap _ hpre x m vc (jv vs) (by simp [hv.1]) (rd_news hv) (jv_one vs) (by omega)
    refine ⟨W1, fun ty => ?_, by simpa [jv] using e2, e3⟩
    exact e1
 obtain ⟨cur1, hg1, hs1, q1, q2, q3, q4⟩ := own_blkI ho1
 clear q1 q2 q3 q4
 have hclr : ∀ ty c, (Builtin.clear_ #[26] ty #[.slice (some ⟨g, i + m, none⟩) (n - (i + m)) c]).run Tryd.prog W1 = .ok (.tuple #[]) (W1.setCells g (i + m) (List.replicate (n - (i + m)) (.int .i64 0))) := fun ty c =>
  Lib.run_clear_slice W1 26 3 ty (.int .i64 0) Tryd.underlying26 zero_int rfl rfl g (i + m) (n - (i + m)) c (by omega) (fun j hj => (blk_cell hg1 _ (by omega)).1) (fun j hj => (blk_cell hg1 _ (by omega)).2)
 have HFIN : Hid (RepP B (rs.take i ++ vs) (.slice (some ⟨g, 0, none⟩) n cap) w (.returned (.slice (some ⟨g, 0, none⟩) (i + m) cap)) (W1.setCells g (i + m) (List.replicate (n - (i + m)) (.int .i64 0)))) := by
  have hlen : (rs.take i ++ vs).length = i + m := by have := hv.1; simp; omega
  exact ⟨_, rfl, by rw [hlen]; exact own_clear ho1 (by omega), gb_set gb1 g _ _ (.inl rfl), atB_same w _ _ _ _ _⟩
 generalize W1.setCells g (i + m) (List.replicate (n - (i + m)) (.int .i64 0)) = W2 at hclr HFIN
 have c2 := ct_to (some ⟨g, 0, none⟩) n cap i (by omega) (i : Int) rfl
 have c3 := ct_from g 0 n cap (i + m) (by omega) hnc (by omega) ((i : Int) + (m : Int)) (by omega)
 rw [Nat.zero_add] at c3
 have hz3 : ((i : Int) == (n : Int)) = false := beq_false_of_ne (by omega)
 have h1 : (i : Int) ≤ (n : Int) := by omega
 have h2 : (n : Int) ≤ (cap : Int) := by omega
 have h4 : (i : Int) + (m : Int) < (n : Int) := by omega
 clear hn hown ii hz0 hz1 hz2 hpre hv hvn ho1 gb1 hg1 hs1 hg hs ht hmx hbg
 go_enter Tryd.func28, Tryd.ntmps28
 go_wp2_with (at_builtin; refine Lib.wpList_append_run _ rfl _ _ _ _ rfl _ _ rfl rfl _ _ (hap _) ?_)
 go_ret
 exact HFIN.out
end Go.Proofs.YtclogekfdmikpaaDoor

/- The walk of the library's Replace of numbers: whole. -/
namespace Go.Proofs.YtclogekfdmikpaaDoor
open Go.RowKit
set_option linter.unusedVariables false
set_option linter.unusedSimpArgs false

theorem run_copy_none {P : Program} (w : World) (dT sT ty elem : TypeId) (b : Option Addr) (dLen dCap : Nat) (hu : P.underlying dT = some (.slice elem)) (hs : (P.info? elem).map (·.size) = some 1) :
 (Builtin.copy_ #[dT, sT] ty #[.slice b dLen dCap, .slice none 0 0]).run P w = .ok (goInt 0) w := by
 cases hq : P.info? elem with
 | none => simp [hq] at hs
 | some i =>
   have hi : i.size = 1 := by simpa [hq] using hs
   cases b <;> simp [Builtin.copy_, run_underlying hu, Builtin.lenOf, Builtin.firstCells, sizeOf, typeInfo, hq, hi, loadCells, storeCells]
theorem run_clear_zero {P : Program} (w : World) (t e ty : TypeId) (ht : P.underlying t = some (.slice e)) (z : Value) (hv : ∀ w, (zeroValue e).run P w = .ok z w) (a : Option Addr) (c : Nat) :
 (Builtin.clear_ #[t] ty #[.slice a 0 c]).run P w = .ok (.tuple #[]) w := by
 cases a <;> simp [Builtin.clear_, run_underlying ht, hv, Builtin.zeroCells, storeCells]
theorem downI (rs vs : List Int) (B g cap : Nat) (cur : Array Value) (va : Option Addr) (vc m i j n tot : Nat) (w : World) (hbg : B ≤ g) (hg : w.heap[g]? = some (.cells cur 3 (0, 0))) (hnc : n ≤ cap) (hmx : cap ≤ maxLen) (hs : cur.size = cap) (hn : n = rs.length)
 (ht : cur.toList.take n = jv rs) (hij : i + m ≤ j) (hj : j < n) (htot : tot = i + m + (n - j)) (hv : Rd .i64 w va m vs) (hvn : va = none → vc = 0) :
 ∃ W1 W2 W3,
   (∀ ty dc, (Builtin.copy_ #[26, 26] ty #[.slice (some ⟨g, i, none⟩) (tot - i) dc, .slice va m vc]).run Tryd.prog w = .ok (goInt (m : Int)) W1) ∧
   (∀ ty dc sc, (Builtin.copy_ #[26, 26] ty #[.slice (some ⟨g, i + m, none⟩) (n - j) dc, .slice (some ⟨g, j, none⟩) (n - j) sc]).run Tryd.prog W1.drew = .ok (goInt ((n - j : Nat) : Int)) W2) ∧
   (∀ ty o c, (0 < n - tot → o = tot) → (Builtin.clear_ #[26] ty #[.slice (some ⟨g, o, none⟩) (n - tot) c]).run Tryd.prog W2 = .ok (.tuple #[]) W3) ∧
   RepP B (rs.take i ++ vs ++ rs.drop j) (.slice (some ⟨g, 0, none⟩) n cap) w (.returned (.slice (some ⟨g, 0, none⟩) tot cap)) W3 := by
 have hsz : (Tryd.prog.info? 3).map (·.size) = some 1 := by kernel_rfl
 obtain ⟨E, hE⟩ : ∃ E, E = jv vs := ⟨_, rfl⟩
 have hEl : E.length = m := by rw [hE, jv_len, hv.1]
 obtain ⟨D, hD⟩ : ∃ D, D = (jv rs).drop j := ⟨_, rfl⟩
 have hDl : D.length = n - j := by rw [hD, List.length_drop, jv_len, hn]
 have hcpA : ∀ ty dc, (Builtin.copy_ #[26, 26] ty #[.slice (some ⟨g, i, none⟩) (tot - i) dc, .slice va m vc]).run Tryd.prog w = .ok (goInt (m : Int)) (w.setCells g i E) := fun ty dc => by
  cases va with
  | none =>
    have hm0 := rd_none hv rfl
    subst hm0
    obtain rfl : E = [] := List.eq_nil_of_length_eq_zero hEl
    rw [hvn rfl]
    exact run_copy_none w _ _ ty 3 _ _ _ Tryd.underlying26 hsz
  | some x =>
    exact run_copyI w _ _ ty 3 g i (tot - i) dc x m vc m E Tryd.underlying26 hsz (by simp only [Nat.min_def]; split <;> omega) hEl
     (fun q v h => rd_news hv q v (by rw [hE] at h; exact h)) (fun q hq => (blk_cell hg _ (by omega)).1) (fun q hq => (blk_cell hg _ (by omega)).2) (fun v h => jv_one vs v (by rw [← hE]; exact h))
 obtain ⟨W1, hW1⟩ : ∃ W1, W1 = w.setCells g i E := ⟨_, rfl⟩
 rw [← hW1] at hcpA
 have hg1 : W1.heap[g]? = some (.cells (setL cur i E) 3 (0, 0)) := by rw [hW1]; exact heap_setCells g E _ w cur _ _ hg
 have hl1 : (setL cur i E).toList = cur.toList.take i ++ (E ++ cur.toList.drop (i + E.length)) := setL_list E cur i (by rw [hEl, hs]; omega)
 have hsrc : ∀ q v, D[q]? = some v → (setL cur i E).toList[j + q]? = some v := by
  intro q v hq
  have h1 := drop_src _ j cur.toList n ht q v (by rw [← hD]; exact hq)
  have ha : (cur.toList.take i).length = i := by rw [List.length_take]; simp [hs]; omega
  rw [hl1, List.getElem?_append_right (by omega), ha, List.getElem?_append_right (by omega), List.getElem?_drop, hEl]
  rw [show i + m + (j + q - i - m) = j + q by omega]
  exact h1
 have hcpB : ∀ ty dc sc, (Builtin.copy_ #[26, 26] ty #[.slice (some ⟨g, i + m, none⟩) (n - j) dc, .slice (some ⟨g, j, none⟩) (n - j) sc]).run Tryd.prog W1.drew = .ok (goInt ((n - j : Nat) : Int)) (W1.drew.setCells g (i + m) D) := fun ty dc sc =>
  run_copyI W1.drew _ _ ty 3 g (i + m) (n - j) dc ⟨g, j, none⟩ (n - j) sc (n - j) D Tryd.underlying26 hsz (by simp only [Nat.min_def]; split <;> omega) hDl
   (blk_at (W := W1.drew) hg1 j D hsrc) (fun q hq => (blk_cell (W := W1.drew) hg1 _ (by rw [setL_size]; omega)).1) (fun q hq => (blk_cell (W := W1.drew) hg1 _ (by rw [setL_size]; omega)).2) (fun v h => jv_one rs v (by rw [hD] at h; exact List.mem_of_mem_drop h))
 obtain ⟨W2, hW2⟩ : ∃ W2, W2 = W1.drew.setCells g (i + m) D := ⟨_, rfl⟩
 rw [← hW2] at hcpB
 have hg2 : W2.heap[g]? = some (.cells (setL (setL cur i E) (i + m) D) 3 (0, 0)) := by rw [hW2]; exact heap_setCells g D _ W1.drew _ _ _ hg1
 have gb2 : w.grownBy W2 (some g) := by rw [hW2]; exact gb_set (gb_drew (by rw [hW1]; exact gb_set (gb_refl w _) g _ _ (.inl rfl))) g _ _ (.inl rfl)
 have hlen := rep_len rs vs i j n m (by omega) (by omega) hn.symm hv.1
 have ho2 : W2.ownsRow B 3 1 (.slice (some ⟨g, 0, none⟩) tot cap) tot (jv (rs.take i ++ vs ++ rs.drop j)) := by
  refine own_fin hg2 hbg (by rw [setL_size, setL_size]; exact hs) hmx (by omega) (by rw [hlen, htot]) ?_
  rw [rep_jv, htot, ← hE]
  exact cells_down cur.toList (jv rs) E (setL cur i E).toList _ i j n m hij (by omega) (by simp [hs]; omega) ht hEl hl1 (by rw [setL_list D _ _ (by rw [setL_size, hDl, hs]; omega), hD])
 by_cases hz : n - tot = 0
 ·refine ⟨W1, W2, W2, hcpA, hcpB, fun ty o c _ => ?_, _, rfl, by rw [hlen, ← htot]; exact ho2, gb2, atB_same w _ _ _ _ _⟩
  rw [hz]
  exact run_clear_zero W2 _ _ ty Tryd.underlying26 _ zero_int _ _
 ·refine ⟨W1, W2, W2.setCells g tot (List.replicate (n - tot) (.int .i64 0)), hcpA, hcpB, fun ty o c ho => ?_, _, rfl, by rw [hlen, ← htot]; exact own_clear ho2 (by omega), gb_set gb2 g _ _ (.inl rfl), atB_same w _ _ _ _ _⟩
  rw [ho (by omega)]
  exact Lib.run_clear_slice W2 26 3 ty (.int .i64 0) Tryd.underlying26 zero_int rfl rfl g tot (n - tot) c (by omega) (fun q hq => (blk_cell hg2 _ (by rw [setL_size, setL_size]; omega)).1) (fun q hq => (blk_cell hg2 _ (by rw [setL_size, setL_size]; omega)).2)
theorem upI (rs vs : List Int) (B g cap : Nat) (cur : Array Value) (vb vo vc m i j n tot : Nat) (w : World) (hbg : B ≤ g) (hg : w.heap[g]? = some (.cells cur 3 (0, 0))) (hnc : n ≤ cap) (hmx : cap ≤ maxLen) (hs : cur.size = cap) (hn : n = rs.length)
 (ht : cur.toList.take n = jv rs) (hij : i ≤ j) (hj : j < n) (htot : tot = i + m + (n - j)) (hroom : tot ≤ cap) (hv : SrcI w vb vo m vs) (hm : 0 < m) (hvg : vb ≠ g) :
 ∃ W1 W2,
   (∀ lb cb, (callFunc 49 #[.slice (some ⟨g, i + m, none⟩) lb cb, .slice (some ⟨vb, vo, none⟩) m vc]).run Tryd.prog w = .ok (.value (.bool false)) w) ∧
   (∀ ty dc sc, (Builtin.copy_ #[26, 26] ty #[.slice (some ⟨g, i + m, none⟩) (n - j) dc, .slice (some ⟨g, j, none⟩) (n - j) sc]).run Tryd.prog w.drew = .ok (goInt ((n - j : Nat) : Int)) W1) ∧
   (∀ ty dc, (Builtin.copy_ #[26, 26] ty #[.slice (some ⟨g, i, none⟩) (tot - i) dc, .slice (some ⟨vb, vo, none⟩) m vc]).run Tryd.prog W1 = .ok (goInt (m : Int)) W2) ∧
   RepP B (rs.take i ++ vs ++ rs.drop j) (.slice (some ⟨g, 0, none⟩) n cap) w (.returned (.slice (some ⟨g, 0, none⟩) tot cap)) W2 := by
 have hsz : (Tryd.prog.info? 3).map (·.size) = some 1 := by kernel_rfl
 obtain ⟨tA, kA, hshv, hkA, hvw⟩ := hv.shape hm
 have hshg : w.shape? g = some (3, cap) := by simp [World.shape?, hg, hs]
 have hov : ∀ lb cb, (callFunc 49 #[.slice (some ⟨g, i + m, none⟩) lb cb, .slice (some ⟨vb, vo, none⟩) m vc]).run Tryd.prog w = .ok (.value (.bool false)) w := fun lb cb => by
  rw [run_callFunc_extern Tryd.func49 (by kernel_rfl) (by kernel_rfl) (by kernel_rfl) (e := Extern.SlicesOverlaps.overlaps #[26, 26] #[4]) (by kernel_rfl),
   Lib.run_overlaps_apart w 26 4 3 Tryd.underlying26 1 Tryd.sizeOf3 ⟨g, i + m, none⟩ ⟨vb, vo, none⟩ lb cb m vc (fun e => hvg e.symm) 3 tA cap kA hshg hshv hkA (Lib.frozen_of_heap hg _) (Lib.frozen_of_heap hg cap)]
  rfl
 obtain ⟨D, hD⟩ : ∃ D, D = (jv rs).drop j := ⟨_, rfl⟩
 have hDl : D.length = n - j := by rw [hD, List.length_drop, jv_len, hn]
 obtain ⟨E, hE⟩ : ∃ E, E = jv vs := ⟨_, rfl⟩
 have hEl : E.length = m := by rw [hE, jv_len, hv.1]
 have hcp1 : ∀ ty dc sc, (Builtin.copy_ #[26, 26] ty #[.slice (some ⟨g, i + m, none⟩) (n - j) dc, .slice (some ⟨g, j, none⟩) (n - j) sc]).run Tryd.prog w.drew = .ok (goInt ((n - j : Nat) : Int)) (w.drew.setCells g (i + m) D) := fun ty dc sc =>
  run_copyI w.drew _ _ ty 3 g (i + m) (n - j) dc ⟨g, j, none⟩ (n - j) sc (n - j) D Tryd.underlying26 hsz (by simp only [Nat.min_def]; split <;> omega) hDl
   (blk_at (W := w.drew) hg j D (by rw [hD]; exact drop_src _ j _ n ht)) (fun q hq => (blk_cell (W := w.drew) hg _ (by omega)).1) (fun q hq => (blk_cell (W := w.drew) hg _ (by omega)).2) (fun v h => jv_one rs v (by rw [hD] at h; exact List.mem_of_mem_drop h))
 obtain ⟨W1, hW1⟩ : ∃ W1, W1 = w.drew.setCells g (i + m) D := ⟨_, rfl⟩
 rw [← hW1] at hcp1
 have hg1 : W1.heap[g]? = some (.cells (setL cur (i + m) D) 3 (0, 0)) := by rw [hW1]; exact heap_setCells g D _ w.drew cur _ _ hg
 have hv1 : SrcI W1 vb vo m vs := hv.kept (by rw [hW1, heap_setCells_other g vb hvg]; rfl)
 have hcp2 : ∀ ty dc, (Builtin.copy_ #[26, 26] ty #[.slice (some ⟨g, i, none⟩) (tot - i) dc, .slice (some ⟨vb, vo, none⟩) m vc]).run Tryd.prog W1 = .ok (goInt (m : Int)) (W1.setCells g i E) := fun ty dc =>
  run_copyI W1 _ _ ty 3 g i (tot - i) dc ⟨vb, vo, none⟩ m vc m E Tryd.underlying26 hsz (by simp only [Nat.min_def]; split <;> omega) hEl
   (fun q v h => hv1.2 q v (by rw [← hE]; exact h)) (fun q hq => (blk_cell hg1 _ (by rw [setL_size]; omega)).1) (fun q hq => (blk_cell hg1 _ (by rw [setL_size]; omega)).2) (fun v h => jv_one vs v (by rw [← hE]; exact h))
 have hlen := rep_len rs vs i j n m hij (by omega) hn.symm hv.1
 refine ⟨W1, W1.setCells g i E, hov, hcp1, hcp2, _, rfl, ?_, gb_set (by rw [hW1]; exact gb_set (gb_drew (gb_refl w _)) g _ _ (.inl rfl)) g _ _ (.inl rfl), atB_same w _ _ _ _ _⟩
 rw [hlen, ← htot]
 refine own_fin (heap_setCells g E i W1 _ _ _ hg1) hbg (by rw [setL_size, setL_size]; exact hs) hmx hroom (by rw [hlen, htot]) ?_
 rw [rep_jv, htot, ← hE]
 exact cells_up cur.toList (jv rs) E (setL cur (i + m) D).toList _ i j n m hij (by omega) (by simp [hs]; omega) (by simp [hs]; omega) ht hEl
  (by rw [setL_list D cur _ (by rw [hDl, hs]; omega), hD]) (by rw [setL_list E _ _ (by rw [setL_size, hEl, hs]; omega)])
theorem rep_drew {w W : World} {B : Nat} {xs : List Int} {v : Value} {e : Ending} {q : Nat} (h : RepP B xs v (w.drewN q) e W) : RepP B xs v w e W := by
 obtain ⟨v', h1, h2, h3, h4⟩ := h
 exact ⟨v', h1, h2, ⟨h3.os, h3.tape, h3.output, h3.size, h3.block⟩, h4⟩
end Go.Proofs.YtclogekfdmikpaaDoor
