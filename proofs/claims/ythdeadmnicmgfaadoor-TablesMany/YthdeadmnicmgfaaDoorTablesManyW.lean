/- The walk of TablesMany. -/
import Derived.Test.YthdeadmnicmgfaaDoorJ30
namespace Go.Proofs.YthdeadmnicmgfaaDoor
open Go.RowKit Go.Shelf Go.Maps
set_option linter.unusedVariables false
set_option linter.unusedSimpArgs false

set_option maxHeartbeats 2000000 in
theorem set9b_any (w : World) : Calls Tryd.prog 27 #[.int .i64 0] w fun e w' => ∃ g, e = .returned (.agg #[.int .i64 1, .slice (some ⟨g, 0, none⟩) 1 1, .slice none 0 0]) ∧ IRow w' g [0] ∧ Below w.heap.size w w' := by
  obtain ⟨W, hW⟩ : ∃ W : World, W = (w.alloc (.cells #[.int .i64 1, .slice (some ⟨w.heap.size + 1, 0, none⟩) 1 1, .slice none 0 0] 38)).alloc (.cells #[.int .i64 0] 3) := ⟨_, rfl⟩
  have HB : Hid (Below w.heap.size w W) := by rw [hW]; exact ((Below.refl _ w).alloc (Nat.le_refl _) _).alloc (by simp) _
  have HF : Hid (∃ g, Ending.returned (.agg #[.int .i64 1, .slice (some ⟨w.heap.size + 1, 0, none⟩) 1 1, .slice none 0 0]) = .returned (.agg #[.int .i64 1, .slice (some ⟨g, 0, none⟩) 1 1, .slice none 0 0]) ∧ IRow W g [0] ∧ Below w.heap.size w W) :=
    ⟨w.heap.size + 1, rfl, by rw [hW]; exact new_at2 w _ _, HB.out⟩
  go_enter Tryd.func27, Tryd.ntmps27
  go_wp2
  rw [← hW]
  refine bodyPost_ret (v := .agg #[.int .i64 1, .slice (some ⟨w.heap.size + 1, 0, none⟩) 1 1, .slice none 0 0]) ?_ rfl HF.out
  rw [results_cell_one rfl, hW]
  go_simp
/-- The rule of such a number, and where its slices lie. -/
def mnRl (i : Nat) : Rl := ⟨⟨1, [0], .nil⟩, ⟨1, [0], .nil⟩, i % 2 == 1, false⟩
def mnP (g h : Nat) : RlP := ⟨some ⟨g, 0, none⟩, 1, none, 0, some ⟨h, 0, none⟩, 1, none, 0⟩
/-- Where the loop stands: the rules so far. -/
def MnS (w : World) (H G K N : Nat) (v : Value) (ps : List (Rl × RlP)) (wr : World) : Prop :=
  Below w.heap.size w wr ∧ w.heap.size ≤ H ∧ wr.heap[H]? = some (.cells #[.slice (some ⟨G, 0, none⟩) K K, v] 47) ∧ ps.length = N ∧ wr.ownsRow w.heap.size 64 8 v N (flR ps) ∧ ∀ i x, ps[i]? = some x → ∃ g h, x = (mnRl i, mnP g h) ∧ IRow wr g [0] ∧ IRow wr h [0]
theorem MnS.later {w wr W : World} {H G K N : Nat} {v : Value} {ps : List (Rl × RlP)} (h : MnS w H G K N v ps wr) (hb : Below wr.heap.size wr W) : MnS w H G K N v ps W := by
  obtain ⟨h1, h2, h3, h4, h5, h6⟩ := h
  refine ⟨h1.trans (hb.mono h1.size), h2, (hb.block _ (Array.getElem?_eq_some_iff.1 h3).1).trans h3, h4, own_later5 h5 hb, fun i x hx => ?_⟩
  obtain ⟨g, k, e, q1, q2⟩ := h6 i x hx
  exact ⟨g, k, e, q1.later hb, q2.later hb⟩
theorem MnS.more {w wr W w1 : World} {H G K N cv z cp g k : Nat} {av : Option Addr} {ps : List (Rl × RlP)} {bk : Bool} (h : MnS w H G K N (.slice av N cv) ps wr) (hb : Below wr.heap.size wr W) (hg : IRow W g [0]) (hk : IRow W k [0]) (hbk : bk = (N % 2 == 1))
    (o1 : w1.ownsRow w.heap.size 64 8 (.slice (some ⟨z, 0, none⟩) (N + 1) cp) (N + 1) (flR ps ++ [.int .i64 1, .slice (some ⟨g, 0, none⟩) 1 1, .slice none 0 0, .int .i64 1, .slice (some ⟨k, 0, none⟩) 1 1, .slice none 0 0, .bool bk, .bool false])) (gr : W.grownBy w1 (Value.slice av N cv).ownBlock) :
    (w1.cell? ⟨H, 1, none⟩ = some (.slice av N cv) ∧ w1.frozen? ⟨H, 1, none⟩ = false) ∧ MnS w H G K (N + 1) (.slice (some ⟨z, 0, none⟩) (N + 1) cp) (ps ++ [(mnRl N, mnP g k)]) (w1.setCell ⟨H, 1, none⟩ (.slice (some ⟨z, 0, none⟩) (N + 1) cp)) := by
  obtain ⟨h1, h2, h3, h4, h5, h6⟩ := h.later hb
  have k3 : w1.heap[H]? = some (.cells #[.slice (some ⟨G, 0, none⟩) K K, .slice av N cv] 47) := (gr.block H (Array.getElem?_eq_some_iff.1 h3).1 (fun e => by
      obtain ⟨_, _, cur, hc⟩ := own_lt h5 e.symm
      exact ne_ty hc h3 (by decide) rfl)).trans h3
  have hgc := grown_cell w1 H 1 (Value.slice (some ⟨z, 0, none⟩) (N + 1) cp)
  have hI : ∀ y l, IRow W y l → IRow (w1.setCell ⟨H, 1, none⟩ (.slice (some ⟨z, 0, none⟩) (N + 1) cp)) y l := fun y l hy => by
    have h9 : IRow w1 y l := (gr.block y hy.lt (fun e => by
      obtain ⟨_, _, cur, hc⟩ := own_lt h5 e.symm
      exact ne_ty hy hc (by decide) rfl)).trans hy
    have hyx : y ≠ H := ne_ty h9 k3 (by decide)
    exact (heap_setCell_other w1 ⟨H, 1, none⟩ y _ hyx).trans h9
  have hb1 : Below w.heap.size w w1 := h1.grown gr h1.size (fun y hy => (own_lt h5 hy).1)
  refine ⟨⟨cell_of_row _ _ 1 _ _ _ k3, Lib.frozen_of_heap k3 1⟩, hb1.grown hgc hb1.size (fun y hy => by cases hy; exact h2), h2, heap_setCell_same _ _ 1 _ _ _ k3, by simp [h4], ?_, fun i x hx => ?_⟩
  · rw [show flR (ps ++ [(mnRl N, mnP g k)]) = flR ps ++ [.int .i64 1, .slice (some ⟨g, 0, none⟩) 1 1, .slice none 0 0, .int .i64 1, .slice (some ⟨k, 0, none⟩) 1 1, .slice none 0 0, .bool bk, .bool false] by rw [hbk]; simp [flR, mnRl, mnP, toL]]
    refine o1.kept hgc (.inr fun e => ?_)
    obtain ⟨_, _, cur, hc⟩ := own_lt o1 e
    exact ne_ty hc k3 (by decide) rfl
  · rcases Nat.lt_or_ge i ps.length with hi | hi
    · rw [List.getElem?_append_left hi] at hx
      obtain ⟨y, y', e, q1, q2⟩ := h6 i x hx
      exact ⟨y, y', e, hI _ _ q1, hI _ _ q2⟩
    · rw [List.getElem?_append_right hi] at hx
      have hi0 : i - ps.length = 0 := by
        have := (List.getElem?_eq_some_iff.1 hx).1
        simp at this
        omega
      rw [hi0] at hx
      have hx2 : (mnRl N, mnP g k) = x := by simpa using hx
      have hiN : i = N := by omega
      exact ⟨g, k, by rw [← hx2, hiN], hI _ _ hg, hI _ _ hk⟩
theorem MnS.row {w wr : World} {H G K N c : Nat} {a : Option Addr} {ps : List (Rl × RlP)} (h : MnS w H G K N (.slice a N c) ps wr) : RowR wr 1 a ((List.range N).map mnRl).length ((List.range N).map mnRl) := by
  obtain ⟨h1, h2, h3, h4, h5, h6⟩ := h
  have e : (ps.map fun x => x.1) = (List.range N).map mnRl := by
    refine List.ext_getElem (by simp [h4]) (fun i hi hi' => ?_)
    have hil : i < ps.length := by simpa using hi
    obtain ⟨g, k, hx, _⟩ := h6 i _ (List.getElem?_eq_getElem hil)
    simp [hx]
  rw [← e]
  rw [← h4] at h5
  refine kept_row (w := wr) (l := ps.map fun x => x.1) (fun x hx => ?_) (Below.refl _ _) h5
  obtain ⟨i, hi, rfl⟩ := List.mem_iff_getElem.1 hx
  obtain ⟨g, k, hx, q1, q2⟩ := h6 i _ (List.getElem?_eq_getElem hi)
  refine ⟨?_, List.mem_map.2 ⟨_, List.getElem_mem hi, rfl⟩, ?_, ?_⟩
  · rw [hx]
    exact ⟨InV.leaf wr 0 1 [0] (some ⟨g, 0, none⟩) 1 q1.rd (by simp) (fun h => by cases h), InV.leaf wr 0 1 [0] (some ⟨k, 0, none⟩) 1 q2.rd (by simp) (fun h => by cases h)⟩
  · intro _; rw [hx]; show (⟨1, [0], .nil⟩ : Nd).cnt ≤ 30; decide
  · intro _; rw [hx]; show (⟨1, [0], .nil⟩ : Nd).cnt ≤ 30; decide
theorem mn_left (N : Nat) : xsL ((List.range N).map mnRl) = List.replicate N oneX := by
  rw [List.eq_replicate_iff]
  refine ⟨by simp [xsL], fun x hx => ?_⟩
  obtain ⟨r, hr, rfl⟩ := List.mem_map.1 hx
  obtain ⟨i, _, rfl⟩ := List.mem_map.1 hr
  rfl
theorem mn_right (N : Nat) : xsR ((List.range N).map mnRl) = List.replicate N oneX := by
  rw [List.eq_replicate_iff]
  refine ⟨by simp [xsR], fun x hx => ?_⟩
  obtain ⟨r, hr, rfl⟩ := List.mem_map.1 hx
  obtain ⟨i, _, rfl⟩ := List.mem_map.1 hr
  rfl
theorem mn_alw (K N : Nat) (hN : N ≤ 63) : alwB (K : Int) (List.replicate N oneX) = (decide (1 ≤ K) && decide (K ≤ 24)) := by
  unfold alwB
  by_cases h1 : 1 ≤ K
  · have : (List.replicate N oneX).all (fun x => x.1.ok && x.1.bel (K : Int)) = true := by
      rw [List.all_eq_true]
      intro x hx
      rw [List.eq_of_mem_replicate hx]
      have h2 : oneX.1.ok = true := by decide
      have h3 : oneX.1.bel (K : Int) = true := by
        simp [oneX, Nd.bel, belF]
        omega
      rw [h2, h3]; rfl
    rw [this, decide_eq_true (show (List.replicate N oneX).length ≤ 64 by simp; omega), decide_eq_true (show (1 : Int) ≤ (K : Int) by omega), decide_eq_true h1]
    simp
    omega
  · rw [decide_eq_false (show ¬ (1 : Int) ≤ (K : Int) by omega), decide_eq_false h1]; rfl
theorem mn_cm (K N : Nat) (hN : N ≤ 63) : cmB (K : Int) ((List.range N).map mnRl) = (decide (1 ≤ K) && decide (K ≤ 24) && decide (N ≤ 40)) := by
  have : ((List.range N).map mnRl).all (fun r => r.left.ok && r.right.ok) = true := by
    rw [List.all_eq_true]
    intro r hr
    obtain ⟨i, _, rfl⟩ := List.mem_map.1 hr
    show ((⟨1, [0], .nil⟩ : Nd).ok && (⟨1, [0], .nil⟩ : Nd).ok) = true
    decide
  unfold cmB
  rw [this, mn_left, mn_right, mn_alw K N hN, List.length_map, List.length_range]
  cases decide (1 ≤ K) <;> cases decide (K ≤ 24) <;> cases decide (N ≤ 40) <;> rfl
theorem mn_dc (N : Nat) : dcB (brkN ((List.range N).map mnRl)) (18446744073709551615 &&& 18446744073709551615) N 0 = decide (N = 0) := by
  cases N with
  | zero => rfl
  | succ n =>
    rw [dcB, if_pos (by decide), brkN_bit]
    simp [List.range_succ_eq_map, mnRl]
set_option maxRecDepth 100000 in
set_option maxHeartbeats 8000000 in
theorem tablesMany_walk (n0 n1 : Int) (w : World) (hT : TabD w) :
    Calls Tryd.prog 7 #[.int .i64 n0, .int .i64 n1] w fun e w' => e = .returned (.bool true) ∧ Below w.heap.size w w' := by
  obtain ⟨K, hK⟩ : ∃ K : Nat, (K : Int) = n0 % 32 := ⟨(n0 % 32).toNat, by omega⟩
  obtain ⟨RN, hRN⟩ : ∃ RN : Nat, (RN : Int) = n1 % 64 := ⟨(n1 % 64).toNat, by omega⟩
  have hand0 : bits .and .i64 n0 31 = (K : Int) := by rw [and_low n0 31 5 (by omega) (by decide)]; exact hK.symm
  have hand1 : bits .and .i64 n1 63 = (RN : Int) := by rw [and_low n1 63 6 (by omega) (by decide)]; exact hRN.symm
  have hK31 : (K : Int) ≤ 31 := by omega
  have hR63 : (RN : Int) ≤ 63 := by omega
  have hmk0 := make_s K (by omega)
  obtain ⟨CZ, hCZ⟩ : ∃ CZ, CZ = (sv (List.replicate K [])).toArray := ⟨_, rfl⟩
  rw [← hCZ] at hmk0
  have hmk : ∀ W : World, (Instr.makeSlice 44 (.int .i64 (K : Int)) (.int .i64 (K : Int))).run Tryd.prog W = .ok (.slice (some ⟨W.heap.size, 0, none⟩) K K) (W.alloc (.cells CZ 9)) := hmk0
  have HTD : Hid (TabD w) := hT
  have HSH : Hid (Calls Tryd.prog 16 #[] w fun e w' => e = .returned (.bool true) ∧ Below w.heap.size w w') := shown9_any w hT
  have HST : Hid (∀ V : World, Calls Tryd.prog 27 #[.int .i64 0] V fun e w' => ∃ g, e = .returned (.agg #[.int .i64 1, .slice (some ⟨g, 0, none⟩) 1 1, .slice none 0 0]) ∧ IRow w' g [0] ∧ Below V.heap.size V w') := fun V => set9b_any V
  obtain ⟨j0, ji, jz0, jz1, jz2⟩ := info_parts info_Rl
  have HJ : Hid (Tryd.prog.info? 64 = some j0 ∧ j0.zero = some (.agg #[.int .i64 0, .slice none 0 0, .slice none 0 0, .int .i64 0, .slice none 0 0, .slice none 0 0, .bool false, .bool false]) ∧ j0.size = 8 ∧ j0.bytes = 120) := ⟨ji, jz0, jz1, jz2⟩
  clear hT hCZ hmk0 ji jz0 jz1 jz2 hK hRN
  go_enter Tryd.func7, Tryd.ntmps7
  go_wp2_with fail
  refine HSH.out.mono ?_
  rintro e w1 ⟨rfl, hb1⟩
  have HB1 : Hid (Below w.heap.size w w1) := hb1
  clear hb1 HSH
  obtain ⟨G, hG⟩ : ∃ G, G = w1.heap.size := ⟨_, rfl⟩
  obtain ⟨H, hH⟩ : ∃ H, H = G + 1 := ⟨_, rfl⟩
  obtain ⟨W0, hW0⟩ : ∃ W0, W0 = (w1.alloc (.cells CZ 9)).alloc (.cells #[.slice (some ⟨G, 0, none⟩) K K, .slice none 0 0] 47) := ⟨_, rfl⟩
  have HM0 : Hid (MnS w H G K 0 (.slice none 0 0) [] W0) := by
    have hb := HB1.out
    refine ⟨?_, by rw [hH, hG]; have := hb.size; omega, ?_, rfl, World.ownsRow_nil _ _ _ _, fun i x hx => by simp at hx⟩
    · rw [hW0]; exact (hb.alloc hb.size _).alloc (by have := hb.size; simp; omega) _
    · rw [hW0, hH, hG]; exact new_at2 w1 _ _
  go_upto_region 5 with fail
  simp only [World.size_alloc, ← hG, ← hH]
  rw [← hW0]
  clear hG hH hW0 hmk hand0 hand1
  go_wp2_with fail
  go_loopw [7] (fun x7 wr => ∃ (i cv : Nat) (av : Option Addr) (ps : List (Rl × RlP)), i ≤ RN ∧ x7 = .int .i64 (i : Int) ∧ MnS w H G K i (.slice av i cv) ps wr) (fun x7 _ => RN - (intOf x7).toNat)
  case atStart => exact ⟨0, 0, none, [], by omega, rfl, HM0.out⟩
  case round =>
    obtain ⟨i, cv, av, ps, hi, hx7, hms⟩ := hrel
    subst hx7
    have HMS : Hid (MnS w H G K i (.slice av i cv) ps wr) := hms
    clear hms HM0
    by_cases hlt : i < RN
    · have hii : (i : Int) < (RN : Int) := by omega
      obtain ⟨bk, hbk⟩ : ∃ bk, bk = (i % 2 == 1) := ⟨_, rfl⟩
      have hq : (bits .and .i64 (i : Int) 1 == 1) = bk := by
        rw [and_low (i : Int) 1 1 (by omega) (by decide), hbk]
        rcases Nat.mod_two_eq_zero_or_one i with h | h
        · rw [h, show (i : Int) % 2 ^ 1 = 0 by omega]; rfl
        · rw [h, show (i : Int) % 2 ^ 1 = 1 by omega]; rfl
      have HMO : Hid (∀ (W w5 : World) (g1 g2 z cap5 : Nat), Below wr.heap.size wr W → IRow W g1 [0] → IRow W g2 [0] → w5.ownsRow w.heap.size 64 8 (.slice (some ⟨z, 0, none⟩) (i + 1) cap5) (i + 1) (flR ps ++ [.int .i64 1, .slice (some ⟨g1, 0, none⟩) 1 1, .slice none 0 0, .int .i64 1, .slice (some ⟨g2, 0, none⟩) 1 1, .slice none 0 0, .bool bk, .bool false]) → W.grownBy w5 (Value.slice av i cv).ownBlock →
          (w5.cell? ⟨H, 1, none⟩ = some (.slice av i cv) ∧ w5.frozen? ⟨H, 1, none⟩ = false) ∧ MnS w H G K (i + 1) (.slice (some ⟨z, 0, none⟩) (i + 1) cap5) (ps ++ [(mnRl i, mnP g1 g2)]) (w5.setCell ⟨H, 1, none⟩ (.slice (some ⟨z, 0, none⟩) (i + 1) cap5))) := fun W w5 g1 g2 z cap5 h1 h2 h3 h4 h5 => HMS.out.more h1 h2 h3 hbk h4 h5
      clear hbk
      have HCE : Hid (∀ V : World, Below wr.heap.size wr V → V.cell? ⟨H, 1, none⟩ = some (.slice av i cv)) := fun V hV => cell_of_row V H 1 _ _ _ (HMS.out.later hV).2.2.1
      have HOW : Hid (∀ V : World, Below wr.heap.size wr V → V.ownsRow w.heap.size 64 8 (.slice av i cv) i (flR ps)) := fun V hV => (HMS.out.later hV).2.2.2.2.1
      have HSZ : Hid (w.heap.size ≤ wr.heap.size) := HMS.out.1.size
      have c0 := HCE.out wr (Below.refl _ _)
      have hfl : (flR ps).length = i * 8 := by rw [flR_len, HMS.out.2.2.2.1]
      have HFL : Hid ((flR ps).length = i * 8) := hfl
      clear hfl
      go_upto_region 8 with fail
      refine wp_region_any (by kernel_rfl) ?_
      try (change wpAny _ _ _ _ _ _ _ (World.drew _))
      refine wpAny_take (i := 0) (v := ?_) rfl (by kernel_rfl) (by kernel_rfl) (by kernel_rfl) (fun _ _ _ h => h) (Or.inl ⟨by rfl, ?_⟩) ?_
      rotate_left
      · intro w; go_simp; try with_reducible rfl
      go_simp
      refine wpAny_take (i := 4) (v := ?_) rfl (by kernel_rfl) (by kernel_rfl) (by kernel_rfl) (fun _ _ _ h => h) (Or.inl ⟨by rfl, ?_⟩) ?_
      rotate_left
      · intro w; go_simp; try with_reducible rfl
      go_simp
      refine wpAny_take (i := 5) (v := ?_) rfl (by kernel_rfl) (by kernel_rfl) (by kernel_rfl) (fun _ _ _ h => h) (Or.inl ⟨by rfl, ?_⟩) ?_
      rotate_left
      · intro w; go_simp; try with_reducible rfl
      go_simp
      refine wpAny_take (i := 6) (v := ?_) rfl (by kernel_rfl) (by kernel_rfl) (by kernel_rfl) (fun _ _ _ h => h) (Or.inl ⟨by rfl, ?_⟩) ?_
      rotate_left
      · intro w; go_simp; try with_reducible rfl
      go_simp
      refine wpAny_ready (rs := [1, 2]) (by kernel_rfl) (by simp) ?_
      refine AllReady.cons rfl (fun KK hK => ?_) ?_
      · skip
        go_simp
        refine hK _ _ ?_
        clear hK KK
        refine wpAny_ready (rs := [2]) (by kernel_rfl) (by simp) ?_
        refine AllReady.cons rfl (fun KK hK => ?_) ?_
        · skip
          go_simp
          refine (HST.out _).mono ?_
          rintro e u1 ⟨g1, rfl, hg1, hv1⟩
          have HU1 : Hid (Below wr.heap.size wr u1 ∧ IRow u1 g1 [0]) := ⟨below_undrew (by simpa using hv1), hg1⟩
          have c1 := (HCE.out u1 HU1.out.1)
          clear hg1 hv1
          try dsimp only
          refine hK _ _ ?_
          clear hK KK
          refine wpAny_ready (rs := [3]) (by kernel_rfl) (by simp) ?_
          refine AllReady.cons rfl (fun KK hK => ?_) ?_
          · skip
            go_simp
            refine (HST.out _).mono ?_
            rintro e u2 ⟨g2, rfl, hg2, hv2⟩
            have HU2 : Hid (Below wr.heap.size wr u2 ∧ IRow u2 g1 [0] ∧ IRow u2 g2 [0]) := ⟨HU1.out.1.trans (hv2.mono HU1.out.1.size), HU1.out.2.later hv2, hg2⟩
            have c2 := (HCE.out u2 HU2.out.1)
            have c3 := (HCE.out (u2.alloc (.cells #[.int .i64 1, .slice (some ⟨g1, 0, none⟩) 1 1, .slice none 0 0, .int .i64 1, .slice (some ⟨g2, 0, none⟩) 1 1, .slice none 0 0, .bool bk, .bool false] 64)) (HU2.out.1.alloc HU2.out.1.size _))
            clear hg2 hv2
            try dsimp only
            refine hK _ _ ?_
            clear hK KK
            refine wpAny_take (i := 7) (v := ?_) rfl (by kernel_rfl) (by kernel_rfl) (by kernel_rfl) (fun _ _ _ h => h) (Or.inl ⟨by rfl, ?_⟩) ?_
            rotate_left
            · intro w; go_simp; try with_reducible rfl
            go_simp
            refine wpAny_ready (rs := [8]) (by kernel_rfl) (by simp) ?_
            refine AllReady.cons rfl (fun KK hK => ?_) ?_
            · skip
              go_simp
              refine hK _ _ ?_
              clear hK KK
              refine wpAny_ready (rs := [9]) (by kernel_rfl) (by simp) ?_
              refine AllReady.cons rfl (fun KK hK => ?_) ?_
              · skip
                refine step_append_lies _ (by rfl) _ _ 45 (by rfl) w.heap.size 64 j0 _ 8 120 Tryd.underlying45 HJ.out.1 HJ.out.2.1 HJ.out.2.2.1 HJ.out.2.2.2 rfl (by decide) (.slice av i cv) i (flR ps) (by rfl) (HOW.out _ (HU2.out.1.alloc HU2.out.1.size _)) ⟨u2.heap.size, 0, none⟩ 1 1 [.int .i64 1, .slice (some ⟨g1, 0, none⟩) 1 1, .slice none 0 0, .int .i64 1, .slice (some ⟨g2, 0, none⟩) 1 1, .slice none 0 0, .bool bk, .bool false] (by rfl) (by rfl) (World.news_of_block (cs := #[.int .i64 1, .slice (some ⟨g1, 0, none⟩) 1 1, .slice none 0 0, .int .i64 1, .slice (some ⟨g2, 0, none⟩) 1 1, .slice none 0 0, .bool bk, .bool false]) (t := 64) (fr := (0, 0)) (heap_alloc_new u2 _)) (by simp [Value.oneCell']) (by omega) (by unfold maxLen; omega) (by omega) (by have := HSZ.out; have := HU2.out.1.size; simp; omega) _ rfl (fun z cap5 w5 hown hgrow hat hlt5 => ?_)
                obtain ⟨⟨x1, x2⟩, hf⟩ := HMO.out _ w5 g1 g2 z cap5 (HU2.out.1.alloc HU2.out.1.size _) (HU2.out.2.1.later ((Below.refl _ u2).alloc (Nat.le_refl _) _)) (HU2.out.2.2.later ((Below.refl _ u2).alloc (Nat.le_refl _) _)) hown hgrow
                have HFF : Hid (MnS w H G K (i + 1) (.slice (some ⟨z, 0, none⟩) (i + 1) cap5) (ps ++ [(mnRl i, mnP g1 g2)]) (w5.setCell ⟨H, 1, none⟩ (.slice (some ⟨z, 0, none⟩) (i + 1) cap5))) := hf
                refine hK _ _ ?_
                clear hK KK hown hgrow hat hlt5 hf
                try simp only [Act.put, List.setIfInBounds_toArray, List.set_cons_zero, List.set_cons_succ]
                refine wpAny_take (i := 10) (v := ?_) rfl (by kernel_rfl) (by kernel_rfl) (by kernel_rfl) (fun _ _ _ h => h) (Or.inl ⟨by rfl, ?_⟩) ?_
                rotate_left
                · intro w; go_simp; try with_reducible rfl
                go_simp
                refine wpAny_ready (rs := [11]) (by kernel_rfl) (by simp) ?_
                refine AllReady.cons rfl (fun KK hK => ?_) ?_
                · skip
                  go_simp
                  refine hK _ _ ?_
                  clear hK KK
                  refine wpAny_done (by kernel_rfl) ?_ _
                  go_wp2
                  go_roundw
                  case rel => exact ⟨i + 1, cap5, some ⟨z, 0, none⟩, _, by omega, by go_num, HFF.out⟩
                  case measure => simp [intOf]; omega
                exact AllReady.nil
              exact AllReady.nil
            exact AllReady.nil
          exact AllReady.nil
        exact AllReady.nil
      refine AllReady.cons rfl (fun KK hK => ?_) ?_
      · skip
        go_simp
        refine (HST.out _).mono ?_
        rintro e u1 ⟨g1, rfl, hg1, hv1⟩
        have HU1 : Hid (Below wr.heap.size wr u1 ∧ IRow u1 g1 [0]) := ⟨below_undrew (by simpa using hv1), hg1⟩
        have c1 := (HCE.out u1 HU1.out.1)
        clear hg1 hv1
        try dsimp only
        refine hK _ _ ?_
        clear hK KK
        refine wpAny_ready (rs := [1, 3]) (by kernel_rfl) (by simp) ?_
        refine AllReady.cons rfl (fun KK hK => ?_) ?_
        · skip
          go_simp
          refine hK _ _ ?_
          clear hK KK
          refine wpAny_ready (rs := [3]) (by kernel_rfl) (by simp) ?_
          refine AllReady.cons rfl (fun KK hK => ?_) ?_
          · skip
            go_simp
            refine (HST.out _).mono ?_
            rintro e u2 ⟨g2, rfl, hg2, hv2⟩
            have HU2 : Hid (Below wr.heap.size wr u2 ∧ IRow u2 g1 [0] ∧ IRow u2 g2 [0]) := ⟨HU1.out.1.trans (hv2.mono HU1.out.1.size), HU1.out.2.later hv2, hg2⟩
            have c2 := (HCE.out u2 HU2.out.1)
            have c3 := (HCE.out (u2.alloc (.cells #[.int .i64 1, .slice (some ⟨g1, 0, none⟩) 1 1, .slice none 0 0, .int .i64 1, .slice (some ⟨g2, 0, none⟩) 1 1, .slice none 0 0, .bool bk, .bool false] 64)) (HU2.out.1.alloc HU2.out.1.size _))
            clear hg2 hv2
            try dsimp only
            refine hK _ _ ?_
            clear hK KK
            refine wpAny_take (i := 7) (v := ?_) rfl (by kernel_rfl) (by kernel_rfl) (by kernel_rfl) (fun _ _ _ h => h) (Or.inl ⟨by rfl, ?_⟩) ?_
            rotate_left
            · intro w; go_simp; try with_reducible rfl
            go_simp
            refine wpAny_ready (rs := [8]) (by kernel_rfl) (by simp) ?_
            refine AllReady.cons rfl (fun KK hK => ?_) ?_
            · skip
              go_simp
              refine hK _ _ ?_
              clear hK KK
              refine wpAny_ready (rs := [9]) (by kernel_rfl) (by simp) ?_
              refine AllReady.cons rfl (fun KK hK => ?_) ?_
              · skip
                refine step_append_lies _ (by rfl) _ _ 45 (by rfl) w.heap.size 64 j0 _ 8 120 Tryd.underlying45 HJ.out.1 HJ.out.2.1 HJ.out.2.2.1 HJ.out.2.2.2 rfl (by decide) (.slice av i cv) i (flR ps) (by rfl) (HOW.out _ (HU2.out.1.alloc HU2.out.1.size _)) ⟨u2.heap.size, 0, none⟩ 1 1 [.int .i64 1, .slice (some ⟨g1, 0, none⟩) 1 1, .slice none 0 0, .int .i64 1, .slice (some ⟨g2, 0, none⟩) 1 1, .slice none 0 0, .bool bk, .bool false] (by rfl) (by rfl) (World.news_of_block (cs := #[.int .i64 1, .slice (some ⟨g1, 0, none⟩) 1 1, .slice none 0 0, .int .i64 1, .slice (some ⟨g2, 0, none⟩) 1 1, .slice none 0 0, .bool bk, .bool false]) (t := 64) (fr := (0, 0)) (heap_alloc_new u2 _)) (by simp [Value.oneCell']) (by omega) (by unfold maxLen; omega) (by omega) (by have := HSZ.out; have := HU2.out.1.size; simp; omega) _ rfl (fun z cap5 w5 hown hgrow hat hlt5 => ?_)
                obtain ⟨⟨x1, x2⟩, hf⟩ := HMO.out _ w5 g1 g2 z cap5 (HU2.out.1.alloc HU2.out.1.size _) (HU2.out.2.1.later ((Below.refl _ u2).alloc (Nat.le_refl _) _)) (HU2.out.2.2.later ((Below.refl _ u2).alloc (Nat.le_refl _) _)) hown hgrow
                have HFF : Hid (MnS w H G K (i + 1) (.slice (some ⟨z, 0, none⟩) (i + 1) cap5) (ps ++ [(mnRl i, mnP g1 g2)]) (w5.setCell ⟨H, 1, none⟩ (.slice (some ⟨z, 0, none⟩) (i + 1) cap5))) := hf
                refine hK _ _ ?_
                clear hK KK hown hgrow hat hlt5 hf
                try simp only [Act.put, List.setIfInBounds_toArray, List.set_cons_zero, List.set_cons_succ]
                refine wpAny_take (i := 10) (v := ?_) rfl (by kernel_rfl) (by kernel_rfl) (by kernel_rfl) (fun _ _ _ h => h) (Or.inl ⟨by rfl, ?_⟩) ?_
                rotate_left
                · intro w; go_simp; try with_reducible rfl
                go_simp
                refine wpAny_ready (rs := [11]) (by kernel_rfl) (by simp) ?_
                refine AllReady.cons rfl (fun KK hK => ?_) ?_
                · skip
                  go_simp
                  refine hK _ _ ?_
                  clear hK KK
                  refine wpAny_done (by kernel_rfl) ?_ _
                  go_wp2
                  go_roundw
                  case rel => exact ⟨i + 1, cap5, some ⟨z, 0, none⟩, _, by omega, by go_num, HFF.out⟩
                  case measure => simp [intOf]; omega
                exact AllReady.nil
              exact AllReady.nil
            exact AllReady.nil
          exact AllReady.nil
        refine AllReady.cons rfl (fun KK hK => ?_) ?_
        · skip
          go_simp
          refine (HST.out _).mono ?_
          rintro e u2 ⟨g2, rfl, hg2, hv2⟩
          have HU2 : Hid (Below wr.heap.size wr u2 ∧ IRow u2 g1 [0] ∧ IRow u2 g2 [0]) := ⟨HU1.out.1.trans (hv2.mono HU1.out.1.size), HU1.out.2.later hv2, hg2⟩
          have c2 := (HCE.out u2 HU2.out.1)
          have c3 := (HCE.out (u2.alloc (.cells #[.int .i64 1, .slice (some ⟨g1, 0, none⟩) 1 1, .slice none 0 0, .int .i64 1, .slice (some ⟨g2, 0, none⟩) 1 1, .slice none 0 0, .bool bk, .bool false] 64)) (HU2.out.1.alloc HU2.out.1.size _))
          clear hg2 hv2
          try dsimp only
          refine hK _ _ ?_
          clear hK KK
          refine wpAny_take (i := 7) (v := ?_) rfl (by kernel_rfl) (by kernel_rfl) (by kernel_rfl) (fun _ _ _ h => h) (Or.inl ⟨by rfl, ?_⟩) ?_
          rotate_left
          · intro w; go_simp; try with_reducible rfl
          go_simp
          refine wpAny_ready (rs := [1, 8]) (by kernel_rfl) (by simp) ?_
          refine AllReady.cons rfl (fun KK hK => ?_) ?_
          · skip
            go_simp
            refine hK _ _ ?_
            clear hK KK
            refine wpAny_ready (rs := [8]) (by kernel_rfl) (by simp) ?_
            refine AllReady.cons rfl (fun KK hK => ?_) ?_
            · skip
              go_simp
              refine hK _ _ ?_
              clear hK KK
              refine wpAny_ready (rs := [9]) (by kernel_rfl) (by simp) ?_
              refine AllReady.cons rfl (fun KK hK => ?_) ?_
              · skip
                refine step_append_lies _ (by rfl) _ _ 45 (by rfl) w.heap.size 64 j0 _ 8 120 Tryd.underlying45 HJ.out.1 HJ.out.2.1 HJ.out.2.2.1 HJ.out.2.2.2 rfl (by decide) (.slice av i cv) i (flR ps) (by rfl) (HOW.out _ (HU2.out.1.alloc HU2.out.1.size _)) ⟨u2.heap.size, 0, none⟩ 1 1 [.int .i64 1, .slice (some ⟨g1, 0, none⟩) 1 1, .slice none 0 0, .int .i64 1, .slice (some ⟨g2, 0, none⟩) 1 1, .slice none 0 0, .bool bk, .bool false] (by rfl) (by rfl) (World.news_of_block (cs := #[.int .i64 1, .slice (some ⟨g1, 0, none⟩) 1 1, .slice none 0 0, .int .i64 1, .slice (some ⟨g2, 0, none⟩) 1 1, .slice none 0 0, .bool bk, .bool false]) (t := 64) (fr := (0, 0)) (heap_alloc_new u2 _)) (by simp [Value.oneCell']) (by omega) (by unfold maxLen; omega) (by omega) (by have := HSZ.out; have := HU2.out.1.size; simp; omega) _ rfl (fun z cap5 w5 hown hgrow hat hlt5 => ?_)
                obtain ⟨⟨x1, x2⟩, hf⟩ := HMO.out _ w5 g1 g2 z cap5 (HU2.out.1.alloc HU2.out.1.size _) (HU2.out.2.1.later ((Below.refl _ u2).alloc (Nat.le_refl _) _)) (HU2.out.2.2.later ((Below.refl _ u2).alloc (Nat.le_refl _) _)) hown hgrow
                have HFF : Hid (MnS w H G K (i + 1) (.slice (some ⟨z, 0, none⟩) (i + 1) cap5) (ps ++ [(mnRl i, mnP g1 g2)]) (w5.setCell ⟨H, 1, none⟩ (.slice (some ⟨z, 0, none⟩) (i + 1) cap5))) := hf
                refine hK _ _ ?_
                clear hK KK hown hgrow hat hlt5 hf
                try simp only [Act.put, List.setIfInBounds_toArray, List.set_cons_zero, List.set_cons_succ]
                refine wpAny_take (i := 10) (v := ?_) rfl (by kernel_rfl) (by kernel_rfl) (by kernel_rfl) (fun _ _ _ h => h) (Or.inl ⟨by rfl, ?_⟩) ?_
                rotate_left
                · intro w; go_simp; try with_reducible rfl
                go_simp
                refine wpAny_ready (rs := [11]) (by kernel_rfl) (by simp) ?_
                refine AllReady.cons rfl (fun KK hK => ?_) ?_
                · skip
                  go_simp
                  refine hK _ _ ?_
                  clear hK KK
                  refine wpAny_done (by kernel_rfl) ?_ _
                  go_wp2
                  go_roundw
                  case rel => exact ⟨i + 1, cap5, some ⟨z, 0, none⟩, _, by omega, by go_num, HFF.out⟩
                  case measure => simp [intOf]; omega
                exact AllReady.nil
              exact AllReady.nil
            exact AllReady.nil
          refine AllReady.cons rfl (fun KK hK => ?_) ?_
          · skip
            go_simp
            refine hK _ _ ?_
            clear hK KK
            refine wpAny_ready (rs := [1]) (by kernel_rfl) (by simp) ?_
            refine AllReady.cons rfl (fun KK hK => ?_) ?_
            · skip
              go_simp
              refine hK _ _ ?_
              clear hK KK
              refine wpAny_ready (rs := [9]) (by kernel_rfl) (by simp) ?_
              refine AllReady.cons rfl (fun KK hK => ?_) ?_
              · skip
                refine step_append_lies _ (by rfl) _ _ 45 (by rfl) w.heap.size 64 j0 _ 8 120 Tryd.underlying45 HJ.out.1 HJ.out.2.1 HJ.out.2.2.1 HJ.out.2.2.2 rfl (by decide) (.slice av i cv) i (flR ps) (by rfl) (HOW.out _ (HU2.out.1.alloc HU2.out.1.size _)) ⟨u2.heap.size, 0, none⟩ 1 1 [.int .i64 1, .slice (some ⟨g1, 0, none⟩) 1 1, .slice none 0 0, .int .i64 1, .slice (some ⟨g2, 0, none⟩) 1 1, .slice none 0 0, .bool bk, .bool false] (by rfl) (by rfl) (World.news_of_block (cs := #[.int .i64 1, .slice (some ⟨g1, 0, none⟩) 1 1, .slice none 0 0, .int .i64 1, .slice (some ⟨g2, 0, none⟩) 1 1, .slice none 0 0, .bool bk, .bool false]) (t := 64) (fr := (0, 0)) (heap_alloc_new u2 _)) (by simp [Value.oneCell']) (by omega) (by unfold maxLen; omega) (by omega) (by have := HSZ.out; have := HU2.out.1.size; simp; omega) _ rfl (fun z cap5 w5 hown hgrow hat hlt5 => ?_)
                obtain ⟨⟨x1, x2⟩, hf⟩ := HMO.out _ w5 g1 g2 z cap5 (HU2.out.1.alloc HU2.out.1.size _) (HU2.out.2.1.later ((Below.refl _ u2).alloc (Nat.le_refl _) _)) (HU2.out.2.2.later ((Below.refl _ u2).alloc (Nat.le_refl _) _)) hown hgrow
                have HFF : Hid (MnS w H G K (i + 1) (.slice (some ⟨z, 0, none⟩) (i + 1) cap5) (ps ++ [(mnRl i, mnP g1 g2)]) (w5.setCell ⟨H, 1, none⟩ (.slice (some ⟨z, 0, none⟩) (i + 1) cap5))) := hf
                refine hK _ _ ?_
                clear hK KK hown hgrow hat hlt5 hf
                try simp only [Act.put, List.setIfInBounds_toArray, List.set_cons_zero, List.set_cons_succ]
                refine wpAny_take (i := 10) (v := ?_) rfl (by kernel_rfl) (by kernel_rfl) (by kernel_rfl) (fun _ _ _ h => h) (Or.inl ⟨by rfl, ?_⟩) ?_
                rotate_left
                · intro w; go_simp; try with_reducible rfl
                go_simp
                refine wpAny_ready (rs := [11]) (by kernel_rfl) (by simp) ?_
                refine AllReady.cons rfl (fun KK hK => ?_) ?_
                · skip
                  go_simp
                  refine hK _ _ ?_
                  clear hK KK
                  refine wpAny_done (by kernel_rfl) ?_ _
                  go_wp2
                  go_roundw
                  case rel => exact ⟨i + 1, cap5, some ⟨z, 0, none⟩, _, by omega, by go_num, HFF.out⟩
                  case measure => simp [intOf]; omega
                exact AllReady.nil
              exact AllReady.nil
            exact AllReady.nil
          exact AllReady.nil
        exact AllReady.nil
      exact AllReady.nil
    · have hii : ¬ (i : Int) < (RN : Int) := by omega
      obtain rfl : i = RN := by omega
      have hR := HMS.out.row
      have HROW : Hid (RowR wr 1 av ((List.range i).map mnRl).length ((List.range i).map mnRl)) := hR
      clear hR
      obtain ⟨⟨c0, c1⟩, _⟩ := box2 HMS.out.2.2.1
      have HCP : Hid (Calls Tryd.prog 18 #[.agg #[.slice (some ⟨G, 0, none⟩) K K, .slice av i cv]] wr (CmpP K ((List.range i).map mnRl) wr)) := by
        have h := compile_any 1 K ((List.range i).map mnRl) (some ⟨G, 0, none⟩) av K cv wr (HTD.out.later HMS.out.1) HROW.out (by simp; omega)
        rw [show ((List.range i).map mnRl).length = i by simp] at h
        exact h
      go_wp2_with fail
      refine HCP.out.mono ?_
      rintro e w4 ⟨hb4, hor⟩
      have HB4 : Hid (Below w.heap.size w w4) := HMS.out.1.trans (hb4.mono HMS.out.1.size)
      have hcm := mn_cm K i (by omega)
      have HNB : Hid (K ≤ 24 → ¬ BigC K (List.replicate i oneX)) := fun h => many_not_big K i h
      clear hb4 c0 c1 HCP
      rw [hcm] at hor
      rcases hor with ⟨hf, rfl⟩ | ⟨ht, ⟨rfl, hbig⟩ | ⟨tb, rfl, htw, hta, _⟩⟩
      · have h3 : ¬ (1 ≤ K ∧ K ≤ 24 ∧ i ≤ 40) := fun ⟨p1, p2, p3⟩ => by
          rw [decide_eq_true p1, decide_eq_true p2, decide_eq_true p3] at hf; cases hf
        clear hcm hf
        by_cases p1 : 1 ≤ K
        · have k1 : decide ((K : Int) ≥ 1) = true := decide_eq_true (by omega)
          by_cases p2 : K ≤ 24
          · have k2 : decide ((K : Int) ≤ 24) = true := decide_eq_true (by omega)
            have k3 : decide ((i : Int) ≤ 40) = false := decide_eq_false (by omega)
            clear h3 p1 p2
            go_wp2_with fail
            go_ret
            exact ⟨rfl, HB4.out⟩
          · have k2 : decide ((K : Int) ≤ 24) = false := decide_eq_false (by omega)
            clear h3 p1 p2
            go_wp2_with fail
            go_ret
            exact ⟨rfl, HB4.out⟩
        · have k1 : decide ((K : Int) ≥ 1) = false := decide_eq_false (by omega)
          clear h3 p1
          go_wp2_with fail
          go_ret
          exact ⟨rfl, HB4.out⟩
      · simp only [Bool.and_eq_true, decide_eq_true_eq] at ht
        exfalso
        rw [mn_left, mn_right, Int.toNat_natCast] at hbig
        rcases hbig with h | h <;> exact HNB.out ht.1.2 h
      · simp only [Bool.and_eq_true, decide_eq_true_eq] at ht
        have k1 : decide ((K : Int) ≥ 1) = true := decide_eq_true (by omega)
        have k2 : decide ((K : Int) ≤ 24) = true := decide_eq_true (by omega)
        have k3 : decide ((i : Int) ≤ 40) = true := decide_eq_true (by omega)
        obtain ⟨la, lb, _, _, _, _, htb, _⟩ := hta
        rw [show ((List.range i).map mnRl).length = i by simp] at htb
        obtain ⟨br, hbr⟩ : ∃ br, br = brkN ((List.range i).map mnRl) := ⟨_, rfl⟩
        have hbl : br < 2 ^ 64 := by rw [hbr]; exact Nat.lt_of_lt_of_le (brkN_lt _ (by simp; omega)) (by decide)
        rw [← hbr] at htb
        have HT4 : Hid (w4.heap[tb]? = some (.cells #[.pointer (some ⟨la, 0, none⟩), .pointer (some ⟨lb, 0, none⟩), .int .u64 (br : Int), .int .i64 (i : Int)] 58)) := htb
        have hdc := mn_dc i
        rw [← hbr] at hdc
        have HD1 : Hid (Calls Tryd.prog 22 #[.pointer (some ⟨tb, 0, none⟩), .int .u64 18446744073709551615, .int .u64 18446744073709551615] w4 fun e w' => e = .returned (.bool (decide (i = 0))) ∧ w' = w4) := by
          have h := decide_any w4 tb i br 18446744073709551615 18446744073709551615 _ _ htb (by omega) hbl (by decide) (by decide)
          rw [hdc] at h
          exact h
        obtain ⟨_, _, _, c3⟩ := box4 HT4.out
        clear hcm hbr hbl hdc htb htw ht
        obtain ⟨dz, hdz⟩ : ∃ dz, dz = decide (i = 0) := ⟨_, rfl⟩
        have hz : ((i : Int) == 0) = dz := by
          rw [hdz]
          by_cases h : i = 0
          · subst h; rfl
          · rw [decide_eq_false h, beq_eq_false_iff_ne]; omega
        rw [← hdz] at HD1
        clear hdz
        cases dz
        all_goals
          go_wp2_with fail
          refine HD1.out.mono ?_
          rintro e w5 ⟨rfl, hw5⟩
          subst hw5
          go_wp2_with fail
          go_ret
          exact ⟨rfl, HB4.out⟩
end Go.Proofs.YthdeadmnicmgfaaDoor
