/- The walk of DfaLimits. -/
import Derived.Test.YtpmmmgjiekikeaaDoorDfaLh
import Derived.Deep.CutBlock
namespace Go.Proofs.YtpmmmgjiekikeaaDoor
open Go.RowKit Go.Shelf Go.Maps
set_option linter.unusedVariables false
set_option linter.unusedSimpArgs false

/-- The cells of a part: a set of one class, or of two. -/
def paC (g c : Nat) : List Value := [.int .i64 1, .slice (some ⟨g, 0, none⟩) c c, .slice none 0 0]
def paF (g0 : Nat) (gs : List Nat) : List Value := paC g0 1 ++ gs.flatMap (fun g => paC g 2)
theorem paF_len (g0 : Nat) (gs : List Nat) : (paF g0 gs).length = (gs.length + 1) * 3 := by
  have key : ∀ gs : List Nat, (gs.flatMap (fun g => paC g 2)).length = gs.length * 3 := by
    intro gs
    induction gs with
    | nil => rfl
    | cons g gs ih =>
      rw [List.flatMap_cons, List.length_append, ih, List.length_cons]
      show 3 + gs.length * 3 = _
      omega
  unfold paF
  rw [List.length_append, key]
  show 3 + gs.length * 3 = _
  omega
theorem paF_snoc (g0 : Nat) (gs : List Nat) (g : Nat) : paF g0 (gs ++ [g]) = paF g0 gs ++ paC g 2 := by simp [paF, List.flatMap_append]
theorem paF_at (g0 : Nat) (gs : List Nat) (i : Nat) (hi : i < gs.length + 1) (j : Nat) (v : Value) : (paC ((g0 :: gs)[i]'(by simpa using hi)) (if i = 0 then 1 else 2))[j]? = some v → (paF g0 gs)[i * 3 + j]? = some v := by
  intro hv
  have hj : j < 3 := by
    have := (List.getElem?_eq_some_iff.1 hv).1
    simpa [paC] using this
  cases i with
  | zero =>
    unfold paF
    rw [List.getElem?_append_left (by simp [paC]; omega)]
    simpa using hv
  | succ i =>
    have key : ∀ (gs : List Nat) (i : Nat) (hi : i < gs.length), (paC gs[i] 2)[j]? = some v → (gs.flatMap (fun g => paC g 2))[i * 3 + j]? = some v := by
      intro gs
      induction gs with
      | nil => intro i hi; simp at hi
      | cons g gs ih =>
        intro i hi h
        rw [List.flatMap_cons]
        cases i with
        | zero => rw [List.getElem?_append_left (by simp [paC]; omega)]; simpa using h
        | succ i =>
          rw [List.getElem?_append_right (by simp [paC]; omega)]
          have := ih i (by simpa using hi) (by simpa using h)
          rw [← this]
          congr 1
          simp [paC]; omega
    unfold paF
    rw [List.getElem?_append_right (by simp [paC]; omega)]
    have h2 := key gs i (by simpa using hi) (by simpa using hv)
    rw [← h2]
    congr 1
    simp [paC]; omega
/-- Such a row reads as the expression. -/
theorem pa_in {V : World} {B g0 c : Nat} {a : Option Addr} {gs : List Nat} (ho : V.ownsRow B 38 3 (.slice a (gs.length + 1) c) (gs.length + 1) (paF g0 gs)) (h0 : IRow V g0 [0]) (hg : ∀ g, g ∈ gs → IRow V g [0, 1]) (hgl : gs.length ≤ 100) : InV V.heap.size V 2 (liN gs.length) [.int .i64 2, .slice none 0 0, .slice a (gs.length + 1) c] := by
  obtain ⟨g, rfl, hc⟩ := own_cellsN ho (by omega)
  have hkl : toL (liN gs.length).kids = liA :: List.replicate gs.length liB := toL_ofL _
  have hlen : (toL (liN gs.length).kids).length = gs.length + 1 := by rw [hkl]; simp
  have hg8 : gs.length + 1 ≤ 2600000000000 := by omega
  refine ⟨none, 0, some ⟨g, 0, none⟩, c, by rw [hlen]; rfl, rd_nil _ _, fun h => by simp [liN] at h, ⟨by simp [liN], fun _ => rfl⟩, by rw [hlen]; exact hg8, fun _ => ⟨g, 0, rfl, fun i hi => ?_⟩⟩
  rw [hlen] at hi
  have hat := paF_at g0 gs i hi
  have hcell : ∀ j v, (paC ((g0 :: gs)[i]'(by simpa using hi)) (if i = 0 then 1 else 2))[j]? = some v → V.cell? ⟨g, 0 + i * 3 + j, none⟩ = some v := fun j v hv => by
    have h1 := hat j v hv
    have hlt := (List.getElem?_eq_some_iff.1 h1).1
    rw [paF_len] at hlt
    rw [Nat.zero_add, hc _ hlt]; exact h1
  have e : (toL (liN gs.length).kids)[i] = if i = 0 then liA else liB := by
    simp only [hkl]
    cases i with
    | zero => rfl
    | succ i => simp
  refine ⟨_, ?_, hcell⟩
  rw [e]
  cases i with
  | zero => exact InV.leaf V 0 1 [0] (some ⟨g0, 0, none⟩) 1 h0.rd (by simp) (fun h => by cases h)
  | succ i => exact InV.leaf V 0 1 [0, 1] (some ⟨gs[i]'(by simpa using hi), 0, none⟩) 2 (hg _ (List.getElem_mem _)).rd (by simp) (fun h => by cases h)
/-- The expression so far, in memory. -/
def LiAt (w : World) (X g0 i c : Nat) (a : Option Addr) (gs : List Nat) (wr : World) : Prop :=
  gs.length = i ∧ wr.heap[X]? = some (.cells #[.int .i64 2, .slice none 0 0, .slice a (i + 1) c] 38) ∧ wr.ownsRow w.heap.size 38 3 (.slice a (i + 1) c) (i + 1) (paF g0 gs) ∧ (Value.slice a (i + 1) c).ownBlock ≠ some X ∧ IRow wr g0 [0] ∧ (∀ g, g ∈ gs → IRow wr g [0, 1]) ∧ Below w.heap.size w wr ∧ w.heap.size ≤ X
theorem LiAt.later {w : World} {X g0 i c : Nat} {a : Option Addr} {gs : List Nat} {wr V : World} (h : LiAt w X g0 i c a gs wr) (hV : Below wr.heap.size wr V) : LiAt w X g0 i c a gs V := by
  obtain ⟨h1, h2, h3, h4, h5, h6, h7, h8⟩ := h
  exact ⟨h1, (hV.block X (Array.getElem?_eq_some_iff.1 h2).1).trans h2, own_later5 h3 hV, h4, h5.later hV, fun g hg => (h6 g hg).later hV, h7.trans (hV.mono h7.size), h8⟩
theorem LiAt.step {w : World} {X g0 i c Gn g6 cap6 : Nat} {a : Option Addr} {gs : List Nat} {V w6 : World} (h : LiAt w X g0 i c a gs V) (hG : IRow V Gn [0, 1]) (h6 : w6.ownsRow w.heap.size 38 3 (.slice (some ⟨g6, 0, none⟩) (i + 1 + 1) cap6) (i + 1 + 1) (paF g0 gs ++ paC Gn 2)) (hgr : V.grownBy w6 (Value.slice a (i + 1) c).ownBlock) (hat : (Value.slice a (i + 1) c).ownBlock = some g6 ∨ g6 = V.heap.size) :
    (w6.cell? ⟨X, 2, none⟩ = some (.slice a (i + 1) c) ∧ w6.frozen? ⟨X, 2, none⟩ = false) ∧ LiAt w X g0 (i + 1) cap6 (some ⟨g6, 0, none⟩) (gs ++ [Gn]) (w6.setCell ⟨X, 2, none⟩ (.slice (some ⟨g6, 0, none⟩) (i + 1 + 1) cap6)) := by
  obtain ⟨h1, h2, h3, h4, h5, h5g, h7, h8⟩ := h
  have hXl := (Array.getElem?_eq_some_iff.1 h2).1
  have hX6 : w6.heap[X]? = some (.cells #[.int .i64 2, .slice none 0 0, .slice a (i + 1) c] 38) := (hgr.block X hXl (fun e => h4 e.symm)).trans h2
  have hgX : g6 ≠ X := by
    rcases hat with e | e
    · intro e2; rw [e2] at e; exact h4 e
    · omega
  have hI : ∀ g l, IRow V g l → IRow (w6.setCell ⟨X, 2, none⟩ (.slice (some ⟨g6, 0, none⟩) (i + 1 + 1) cap6)) g l := fun g l hg => by
    have hne : some g ≠ (Value.slice a (i + 1) c).ownBlock := fun e => by
      obtain ⟨_, _, cur, hcur⟩ := own_lt h3 e.symm
      exact ne_ty hg hcur (by decide) rfl
    have h9 : IRow w6 g l := (hgr.block g hg.lt hne).trans hg
    have hgx : g ≠ X := ne_ty h9 hX6 (by decide)
    exact (heap_setCell_other w6 ⟨X, 2, none⟩ g _ hgx).trans h9
  have hb6 : Below w.heap.size w w6 := h7.grown hgr h7.size (fun k e => (own_lt h3 e).1)
  refine ⟨⟨cell_of_row w6 X 2 _ _ _ hX6, Lib.frozen_of_heap hX6 2⟩, by simp [h1], ?_, ?_, fun e => hgX (Option.some.inj e), hI _ _ h5, fun g hg => ?_, hb6.setCell (p := ⟨X, 2, none⟩) h8 _, h8⟩
  · rw [heap_setCell_same w6 X 2 _ _ _ hX6]; rfl
  · rw [paF_snoc]
    refine h6.kept (grown_cell w6 X 2 _) ?_
    exact .inr fun e => hgX (Option.some.inj e)
  · rcases List.mem_append.1 hg with hg | hg
    · exact hI _ _ (h5g g hg)
    · rw [List.mem_singleton.1 hg]; exact hI _ _ hG
theorem info_nd : (Tryd.prog.info? 38).map (fun i => (i.zero, i.size, i.bytes)) = some (some (.agg #[.int .i64 0, .slice none 0 0, .slice none 0 0]), 3, 56) := by kernel_rfl
set_option maxRecDepth 100000 in
set_option maxHeartbeats 8000000 in
theorem dfaLimits_walk (n0 : Int) (w : World) (hT : TabD w) :
    Calls Tryd.prog 7 #[.int .i64 n0] w fun e w' => e = .returned (.bool true) ∧ Below w.heap.size w w' := by
  obtain ⟨A, hA⟩ : ∃ A : Nat, (A : Int) = n0 % 65536 := ⟨(n0 % 65536).toNat, by omega⟩
  have hand : bits .and .i64 n0 65535 = (A : Int) := by rw [and_low n0 65535 16 (by omega) (by decide)]; exact hA.symm
  obtain ⟨n, hn⟩ : ∃ n : Nat, (n : Int) = (A : Int) % 12 := ⟨((A : Int) % 12).toNat, by omega⟩
  have hrem : (A : Int).tmod 12 = (n : Int) := by rw [Int.tmod_eq_emod_of_nonneg (by omega)]; exact hn.symm
  have hn11 : (n : Int) ≤ 11 := by omega
  have HTD : Hid (TabD w) := hT
  have HSH : Hid (Calls Tryd.prog 12 #[] w fun e w' => e = .returned (.bool true) ∧ Below w.heap.size w w') := shown_any w hT
  obtain ⟨j0, ji, jz0, jz1, jz2⟩ := info_parts info_nd
  have HJ : Hid (Tryd.prog.info? 38 = some j0 ∧ j0.zero = some (.agg #[.int .i64 0, .slice none 0 0, .slice none 0 0]) ∧ j0.size = 3 ∧ j0.bytes = 56) := ⟨ji, jz0, jz1, jz2⟩
  clear hT hA hn ji jz0 jz1 jz2
  go_enter Tryd.func7, Tryd.ntmps7
  go_wp2_with fail
  refine HSH.out.mono ?_
  rintro e w1 ⟨rfl, hb1⟩
  have HB1 : Hid (Below w.heap.size w w1) := hb1
  clear hb1 HSH
  obtain ⟨G0, hG0⟩ : ∃ G, G = w1.heap.size := ⟨_, rfl⟩
  obtain ⟨V1, hV1⟩ : ∃ V, V = w1.alloc (.cells #[.int .i64 0] 3) := ⟨_, rfl⟩
  have HI1 : Hid (IRow V1 G0 [0]) := by rw [hV1, hG0]; exact heap_alloc_new w1 _
  have HBV1 : Hid (Below w.heap.size w V1) := by rw [hV1]; exact HB1.out.alloc HB1.out.size _
  go_wp2_with fail
  rw [← hG0, ← hV1]
  clear hG0 hV1
  refine (set_any _ _ _ _ rfl V1).mono ?_
  rintro e w2 ⟨rfl, hb2⟩
  have HI2 : Hid (IRow w2 G0 [0]) := HI1.out.later hb2
  have HB2 : Hid (Below w.heap.size w w2) := HBV1.out.trans (hb2.mono HBV1.out.size)
  clear hb2 HI1
  obtain ⟨P0, hP0⟩ : ∃ G, G = w2.heap.size := ⟨_, rfl⟩
  obtain ⟨V2, hV2⟩ : ∃ V, V = w2.alloc (.cells #[.int .i64 1, .slice (some ⟨G0, 0, none⟩) 1 1, .slice none 0 0] 38) := ⟨_, rfl⟩
  obtain ⟨V3, hV3⟩ : ∃ V, V = V2.alloc (.cells #[.int .i64 2, .slice none 0 0, .slice (some ⟨P0, 0, none⟩) 1 1] 38) := ⟨_, rfl⟩
  have HL3 : Hid (LiAt w (P0 + 1) G0 0 1 (some ⟨P0, 0, none⟩) [] V3) := by
    have hs2 : V2.heap.size = P0 + 1 := by rw [hV2, hP0]; simp
    have q1 : Below w2.heap.size w2 V2 := by rw [hV2]; exact (Below.refl _ w2).alloc (Nat.le_refl _) _
    have q2 : Below V2.heap.size V2 V3 := by rw [hV3]; exact (Below.refl _ V2).alloc (Nat.le_refl _) _
    have hp : V2.heap[P0]? = some (.cells #[.int .i64 1, .slice (some ⟨G0, 0, none⟩) 1 1, .slice none 0 0] 38) := by rw [hV2, hP0]; exact heap_alloc_new w2 _
    refine ⟨rfl, by rw [hV3, ← hs2]; exact heap_alloc_new V2 _, own_later5 (⟨rfl, .inr ⟨P0, 1, _, rfl, by rw [hP0]; exact HB2.out.size, hp, Nat.le_refl _, by unfold maxLen; omega, rfl, rfl⟩⟩ : V2.ownsRow w.heap.size 38 3 (.slice (some ⟨P0, 0, none⟩) 1 1) 1 (paF G0 [])) q2, fun e => by have h : P0 = P0 + 1 := Option.some.inj e; omega, (HI2.out.later q1).later q2, fun g hg => by simp at hg, ?_, by rw [hP0]; have := HB2.out.size; omega⟩
    have c1 := HB2.out.trans (q1.mono HB2.out.size)
    exact c1.trans (q2.mono c1.size)
  go_upto_region 4 with fail
  rw [← hP0, ← hV2, ← hV3]
  obtain ⟨X, hX⟩ : ∃ X, X = P0 + 1 := ⟨_, rfl⟩
  rw [← hX] at HL3 ⊢
  clear hP0 hV2 hV3 hX HI2
  go_wp2_with fail
  go_loopw [5] (fun x5 wr => ∃ (i c : Nat) (a : Option Addr) (gs : List Nat), i ≤ n ∧ x5 = .int .i64 (i : Int) ∧ LiAt w X G0 i c a gs wr) (fun x5 _ => n - (intOf x5).toNat)
  case atStart => exact ⟨0, 1, _, [], by omega, rfl, HL3.out⟩
  case round =>
    obtain ⟨i, c, a, gs, hi, hx5, hli⟩ := hrel
    subst hx5
    have HLI : Hid (LiAt w X G0 i c a gs wr) := hli
    clear hli HL3
    by_cases hlt : i < n
    · have hii : (i : Int) < (n : Int) := by omega
      have HXC : Hid (∀ V : World, Below wr.heap.size wr V → V.cell? ⟨X, 2, none⟩ = some (.slice a (i + 1) c)) := fun V hV => cell_of_row V X 2 _ _ _ (HLI.out.later hV).2.1
      go_wp2_with fail
      refine wp_region_any (by kernel_rfl) ?_
      try (change wpAny _ _ _ _ _ _ _ (World.drew _))
      refine wpAny_take (i := 0) (v := ?_) rfl (by kernel_rfl) (by kernel_rfl) (by kernel_rfl) (fun _ _ _ h => h) (Or.inl ⟨by rfl, ?_⟩) ?_
      rotate_left
      · intro w; go_simp; try with_reducible rfl
      go_simp
      refine wpAny_ready (rs := [1, 2]) (by kernel_rfl) (by simp) ?_
      refine AllReady.cons rfl (fun KK hK => ?_) ?_
      · skip
        have e1 := HXC.out _ ((Below.refl _ wr).drew)
        go_simp
        refine hK _ _ ?_
        clear hK KK e1
        refine wpAny_ready (rs := [2]) (by kernel_rfl) (by simp) ?_
        refine AllReady.cons rfl (fun KK hK => ?_) ?_
        · skip
          go_simp
          refine hK _ _ ?_
          clear hK KK
          refine wpAny_ready (rs := [3]) (by kernel_rfl) (by simp) ?_
          refine AllReady.cons rfl (fun KK hK => ?_) ?_
          · skip
            go_simp
            refine (set_any _ _ _ _ rfl _).mono ?_
            rintro e w5 ⟨rfl, hb5⟩
            have HV0 : Hid (Below wr.heap.size wr w5) := ((Below.refl _ wr).drew.alloc (by simp) _).trans (hb5.mono (by simp))
            have HG5 : Hid (IRow w5 wr.heap.size [0, 1]) := (show IRow (wr.drew.alloc (.cells #[.int .i64 0, .int .i64 1] 3)) wr.heap.size [0, 1] from heap_alloc_new wr.drew _).later hb5
            clear hb5
            try dsimp only
            refine hK _ _ ?_
            clear hK KK
            refine wpAny_ready (rs := [4]) (by kernel_rfl) (by simp) ?_
            refine AllReady.cons rfl (fun KK hK => ?_) ?_
            · skip
              go_simp
              refine hK _ _ ?_
              clear hK KK
              refine wpAny_ready (rs := [5]) (by kernel_rfl) (by simp) ?_
              refine AllReady.cons rfl (fun KK hK => ?_) ?_
              · skip
                refine step_append_lies _ (by rfl) _ _ 36 (by rfl) w.heap.size 38 j0 _ 3 56 Tryd.underlying36 HJ.out.1 HJ.out.2.1 HJ.out.2.2.1 HJ.out.2.2.2 rfl (by decide) (.slice a (i + 1) c) (i + 1) (paF G0 gs) (by rfl) (HLI.out.later (HV0.out.alloc HV0.out.size _)).2.2.1 ⟨w5.heap.size, 0, none⟩ 1 1 (paC wr.heap.size 2) (by rfl) (by rfl) (World.news_of_block (cs := #[.int .i64 1, .slice (some ⟨wr.heap.size, 0, none⟩) 2 2, .slice none 0 0]) (t := 38) (fr := (0, 0)) (heap_alloc_new w5 _)) (by simp [paC, Value.oneCell']) (by omega) (by unfold maxLen; omega) (by omega) (by have := HV0.out.size; have := (HLI.out).2.2.2.2.2.2.1.size; simp; omega) _ rfl (fun g6 cap6 w6 q1 q2 q3 q4 => ?_)
                have hst := (HLI.out.later (HV0.out.alloc HV0.out.size (.cells #[.int .i64 1, .slice (some ⟨wr.heap.size, 0, none⟩) 2 2, .slice none 0 0] 38))).step (HG5.out.later ((Below.refl _ w5).alloc (Nat.le_refl _) _)) q1 q2 q3
                have s1 := hst.1.1
                have s2 := hst.1.2
                have HST : Hid (LiAt w X G0 (i + 1) cap6 (some ⟨g6, 0, none⟩) (gs ++ [wr.heap.size]) (w6.setCell ⟨X, 2, none⟩ (.slice (some ⟨g6, 0, none⟩) (i + 1 + 1) cap6))) := hst.2
                refine hK _ _ ?_
                clear hK KK hst q1 q2 q3 q4
                try simp only [Act.put, List.setIfInBounds_toArray, List.set_cons_zero, List.set_cons_succ]
                refine wpAny_take (i := 6) (v := ?_) rfl (by kernel_rfl) (by kernel_rfl) (by kernel_rfl) (fun _ _ _ h => h) (Or.inl ⟨by rfl, ?_⟩) ?_
                rotate_left
                · intro w; go_simp; try with_reducible rfl
                go_simp
                refine wpAny_ready (rs := [7]) (by kernel_rfl) (by simp) ?_
                refine AllReady.cons rfl (fun KK hK => ?_) ?_
                · skip
                  go_simp
                  refine hK _ _ ?_
                  clear hK KK
                  refine wpAny_done (by kernel_rfl) ?_ _
                  go_wp2
                  go_roundw
                  case rel => exact ⟨i + 1, cap6, _, _, by omega, by go_num, HST.out⟩
                  case measure => simp [intOf]; omega
                exact AllReady.nil
              exact AllReady.nil
            exact AllReady.nil
          exact AllReady.nil
        exact AllReady.nil
      refine AllReady.cons rfl (fun KK hK => ?_) ?_
      · skip
        go_simp
        refine hK _ _ ?_
        clear hK KK
        refine wpAny_ready (rs := [1, 3]) (by kernel_rfl) (by simp) ?_
        refine AllReady.cons rfl (fun KK hK => ?_) ?_
        · skip
          have e1 := HXC.out (wr.alloc (.cells #[.int .i64 0, .int .i64 1] 3)).drew ((Below.refl _ wr).alloc (Nat.le_refl _) _).drew
          go_simp
          refine hK _ _ ?_
          clear hK KK e1
          refine wpAny_ready (rs := [3]) (by kernel_rfl) (by simp) ?_
          refine AllReady.cons rfl (fun KK hK => ?_) ?_
          · skip
            go_simp
            refine (set_any _ _ _ _ rfl _).mono ?_
            rintro e w5 ⟨rfl, hb5⟩
            have HV0 : Hid (Below wr.heap.size wr w5) := ((Below.refl _ wr).drew.alloc (by simp) _).trans (hb5.mono (by simp))
            have HG5 : Hid (IRow w5 wr.heap.size [0, 1]) := (show IRow (wr.drew.alloc (.cells #[.int .i64 0, .int .i64 1] 3)) wr.heap.size [0, 1] from heap_alloc_new wr.drew _).later hb5
            clear hb5
            try dsimp only
            refine hK _ _ ?_
            clear hK KK
            refine wpAny_ready (rs := [4]) (by kernel_rfl) (by simp) ?_
            refine AllReady.cons rfl (fun KK hK => ?_) ?_
            · skip
              go_simp
              refine hK _ _ ?_
              clear hK KK
              refine wpAny_ready (rs := [5]) (by kernel_rfl) (by simp) ?_
              refine AllReady.cons rfl (fun KK hK => ?_) ?_
              · skip
                refine step_append_lies _ (by rfl) _ _ 36 (by rfl) w.heap.size 38 j0 _ 3 56 Tryd.underlying36 HJ.out.1 HJ.out.2.1 HJ.out.2.2.1 HJ.out.2.2.2 rfl (by decide) (.slice a (i + 1) c) (i + 1) (paF G0 gs) (by rfl) (HLI.out.later (HV0.out.alloc HV0.out.size _)).2.2.1 ⟨w5.heap.size, 0, none⟩ 1 1 (paC wr.heap.size 2) (by rfl) (by rfl) (World.news_of_block (cs := #[.int .i64 1, .slice (some ⟨wr.heap.size, 0, none⟩) 2 2, .slice none 0 0]) (t := 38) (fr := (0, 0)) (heap_alloc_new w5 _)) (by simp [paC, Value.oneCell']) (by omega) (by unfold maxLen; omega) (by omega) (by have := HV0.out.size; have := (HLI.out).2.2.2.2.2.2.1.size; simp; omega) _ rfl (fun g6 cap6 w6 q1 q2 q3 q4 => ?_)
                have hst := (HLI.out.later (HV0.out.alloc HV0.out.size (.cells #[.int .i64 1, .slice (some ⟨wr.heap.size, 0, none⟩) 2 2, .slice none 0 0] 38))).step (HG5.out.later ((Below.refl _ w5).alloc (Nat.le_refl _) _)) q1 q2 q3
                have s1 := hst.1.1
                have s2 := hst.1.2
                have HST : Hid (LiAt w X G0 (i + 1) cap6 (some ⟨g6, 0, none⟩) (gs ++ [wr.heap.size]) (w6.setCell ⟨X, 2, none⟩ (.slice (some ⟨g6, 0, none⟩) (i + 1 + 1) cap6))) := hst.2
                refine hK _ _ ?_
                clear hK KK hst q1 q2 q3 q4
                try simp only [Act.put, List.setIfInBounds_toArray, List.set_cons_zero, List.set_cons_succ]
                refine wpAny_take (i := 6) (v := ?_) rfl (by kernel_rfl) (by kernel_rfl) (by kernel_rfl) (fun _ _ _ h => h) (Or.inl ⟨by rfl, ?_⟩) ?_
                rotate_left
                · intro w; go_simp; try with_reducible rfl
                go_simp
                refine wpAny_ready (rs := [7]) (by kernel_rfl) (by simp) ?_
                refine AllReady.cons rfl (fun KK hK => ?_) ?_
                · skip
                  go_simp
                  refine hK _ _ ?_
                  clear hK KK
                  refine wpAny_done (by kernel_rfl) ?_ _
                  go_wp2
                  go_roundw
                  case rel => exact ⟨i + 1, cap6, _, _, by omega, by go_num, HST.out⟩
                  case measure => simp [intOf]; omega
                exact AllReady.nil
              exact AllReady.nil
            exact AllReady.nil
          exact AllReady.nil
        refine AllReady.cons rfl (fun KK hK => ?_) ?_
        · skip
          go_simp
          refine (set_any _ _ _ _ rfl _).mono ?_
          rintro e w5 ⟨rfl, hb5⟩
          have HV0 : Hid (Below wr.heap.size wr w5) := ((Below.refl _ wr).drew.alloc (by simp) _).trans (hb5.mono (by simp))
          have HG5 : Hid (IRow w5 wr.heap.size [0, 1]) := (show IRow (wr.drew.alloc (.cells #[.int .i64 0, .int .i64 1] 3)) wr.heap.size [0, 1] from heap_alloc_new wr.drew _).later hb5
          clear hb5
          try dsimp only
          refine hK _ _ ?_
          clear hK KK
          refine wpAny_ready (rs := [1, 4]) (by kernel_rfl) (by simp) ?_
          refine AllReady.cons rfl (fun KK hK => ?_) ?_
          · skip
            have e1 := HXC.out _ (HV0.out)
            go_simp
            refine hK _ _ ?_
            clear hK KK e1
            refine wpAny_ready (rs := [4]) (by kernel_rfl) (by simp) ?_
            refine AllReady.cons rfl (fun KK hK => ?_) ?_
            · skip
              go_simp
              refine hK _ _ ?_
              clear hK KK
              refine wpAny_ready (rs := [5]) (by kernel_rfl) (by simp) ?_
              refine AllReady.cons rfl (fun KK hK => ?_) ?_
              · skip
                refine step_append_lies _ (by rfl) _ _ 36 (by rfl) w.heap.size 38 j0 _ 3 56 Tryd.underlying36 HJ.out.1 HJ.out.2.1 HJ.out.2.2.1 HJ.out.2.2.2 rfl (by decide) (.slice a (i + 1) c) (i + 1) (paF G0 gs) (by rfl) (HLI.out.later (HV0.out.alloc HV0.out.size _)).2.2.1 ⟨w5.heap.size, 0, none⟩ 1 1 (paC wr.heap.size 2) (by rfl) (by rfl) (World.news_of_block (cs := #[.int .i64 1, .slice (some ⟨wr.heap.size, 0, none⟩) 2 2, .slice none 0 0]) (t := 38) (fr := (0, 0)) (heap_alloc_new w5 _)) (by simp [paC, Value.oneCell']) (by omega) (by unfold maxLen; omega) (by omega) (by have := HV0.out.size; have := (HLI.out).2.2.2.2.2.2.1.size; simp; omega) _ rfl (fun g6 cap6 w6 q1 q2 q3 q4 => ?_)
                have hst := (HLI.out.later (HV0.out.alloc HV0.out.size (.cells #[.int .i64 1, .slice (some ⟨wr.heap.size, 0, none⟩) 2 2, .slice none 0 0] 38))).step (HG5.out.later ((Below.refl _ w5).alloc (Nat.le_refl _) _)) q1 q2 q3
                have s1 := hst.1.1
                have s2 := hst.1.2
                have HST : Hid (LiAt w X G0 (i + 1) cap6 (some ⟨g6, 0, none⟩) (gs ++ [wr.heap.size]) (w6.setCell ⟨X, 2, none⟩ (.slice (some ⟨g6, 0, none⟩) (i + 1 + 1) cap6))) := hst.2
                refine hK _ _ ?_
                clear hK KK hst q1 q2 q3 q4
                try simp only [Act.put, List.setIfInBounds_toArray, List.set_cons_zero, List.set_cons_succ]
                refine wpAny_take (i := 6) (v := ?_) rfl (by kernel_rfl) (by kernel_rfl) (by kernel_rfl) (fun _ _ _ h => h) (Or.inl ⟨by rfl, ?_⟩) ?_
                rotate_left
                · intro w; go_simp; try with_reducible rfl
                go_simp
                refine wpAny_ready (rs := [7]) (by kernel_rfl) (by simp) ?_
                refine AllReady.cons rfl (fun KK hK => ?_) ?_
                · skip
                  go_simp
                  refine hK _ _ ?_
                  clear hK KK
                  refine wpAny_done (by kernel_rfl) ?_ _
                  go_wp2
                  go_roundw
                  case rel => exact ⟨i + 1, cap6, _, _, by omega, by go_num, HST.out⟩
                  case measure => simp [intOf]; omega
                exact AllReady.nil
              exact AllReady.nil
            exact AllReady.nil
          refine AllReady.cons rfl (fun KK hK => ?_) ?_
          · skip
            go_simp
            refine hK _ _ ?_
            clear hK KK
            refine wpAny_ready (rs := [1]) (by kernel_rfl) (by simp) ?_
            refine AllReady.cons rfl (fun KK hK => ?_) ?_
            · skip
              have e1 := HXC.out (w5.alloc (.cells #[.int .i64 1, .slice (some ⟨wr.heap.size, 0, none⟩) 2 2, .slice none 0 0] 38)) (HV0.out.alloc HV0.out.size _)
              go_simp
              refine hK _ _ ?_
              clear hK KK e1
              refine wpAny_ready (rs := [5]) (by kernel_rfl) (by simp) ?_
              refine AllReady.cons rfl (fun KK hK => ?_) ?_
              · skip
                refine step_append_lies _ (by rfl) _ _ 36 (by rfl) w.heap.size 38 j0 _ 3 56 Tryd.underlying36 HJ.out.1 HJ.out.2.1 HJ.out.2.2.1 HJ.out.2.2.2 rfl (by decide) (.slice a (i + 1) c) (i + 1) (paF G0 gs) (by rfl) (HLI.out.later (HV0.out.alloc HV0.out.size _)).2.2.1 ⟨w5.heap.size, 0, none⟩ 1 1 (paC wr.heap.size 2) (by rfl) (by rfl) (World.news_of_block (cs := #[.int .i64 1, .slice (some ⟨wr.heap.size, 0, none⟩) 2 2, .slice none 0 0]) (t := 38) (fr := (0, 0)) (heap_alloc_new w5 _)) (by simp [paC, Value.oneCell']) (by omega) (by unfold maxLen; omega) (by omega) (by have := HV0.out.size; have := (HLI.out).2.2.2.2.2.2.1.size; simp; omega) _ rfl (fun g6 cap6 w6 q1 q2 q3 q4 => ?_)
                have hst := (HLI.out.later (HV0.out.alloc HV0.out.size (.cells #[.int .i64 1, .slice (some ⟨wr.heap.size, 0, none⟩) 2 2, .slice none 0 0] 38))).step (HG5.out.later ((Below.refl _ w5).alloc (Nat.le_refl _) _)) q1 q2 q3
                have s1 := hst.1.1
                have s2 := hst.1.2
                have HST : Hid (LiAt w X G0 (i + 1) cap6 (some ⟨g6, 0, none⟩) (gs ++ [wr.heap.size]) (w6.setCell ⟨X, 2, none⟩ (.slice (some ⟨g6, 0, none⟩) (i + 1 + 1) cap6))) := hst.2
                refine hK _ _ ?_
                clear hK KK hst q1 q2 q3 q4
                try simp only [Act.put, List.setIfInBounds_toArray, List.set_cons_zero, List.set_cons_succ]
                refine wpAny_take (i := 6) (v := ?_) rfl (by kernel_rfl) (by kernel_rfl) (by kernel_rfl) (fun _ _ _ h => h) (Or.inl ⟨by rfl, ?_⟩) ?_
                rotate_left
                · intro w; go_simp; try with_reducible rfl
                go_simp
                refine wpAny_ready (rs := [7]) (by kernel_rfl) (by simp) ?_
                refine AllReady.cons rfl (fun KK hK => ?_) ?_
                · skip
                  go_simp
                  refine hK _ _ ?_
                  clear hK KK
                  refine wpAny_done (by kernel_rfl) ?_ _
                  go_wp2
                  go_roundw
                  case rel => exact ⟨i + 1, cap6, _, _, by omega, by go_num, HST.out⟩
                  case measure => simp [intOf]; omega
                exact AllReady.nil
              exact AllReady.nil
            exact AllReady.nil
          exact AllReady.nil
        exact AllReady.nil
      exact AllReady.nil
    · obtain rfl : i = n := by omega
      have HBW : Hid (Below w.heap.size w wr) := HLI.out.2.2.2.2.2.2.1
      have hXb := HLI.out.2.1
      have e0 : wr.cell? ⟨X, 0, none⟩ = some (.int .i64 2) := cell_of_row wr X 0 _ _ _ hXb
      have e1 : wr.cell? ⟨X, 1, none⟩ = some (.slice none 0 0) := cell_of_row wr X 1 _ _ _ hXb
      have e2 : wr.cell? ⟨X, 2, none⟩ = some (.slice a (i + 1) c) := cell_of_row wr X 2 _ _ _ hXb
      have HIN : Hid (InV wr.heap.size wr 2 (liN i) [.int .i64 2, .slice none 0 0, .slice a (i + 1) c]) := by
        obtain ⟨h1, _, h3, _, h5, h6, _⟩ := HLI.out
        subst h1
        exact pa_in h3 h5 h6 (by omega)
      obtain ⟨G, hG⟩ : ∃ G, G = wr.heap.size := ⟨_, rfl⟩
      obtain ⟨V4, hV4⟩ : ∃ V, V = wr.alloc (.cells #[.int .i64 2, .slice none 0 0, .slice a (i + 1) c, .bool false] 40) := ⟨_, rfl⟩
      have HC : Hid (Calls Tryd.prog 14 #[.int .i64 2, .slice (some ⟨G, 0, none⟩) 1 1] V4 (fun e w' => BldP 2 [liX i] V4 e w' ∧ Below w.heap.size w w')) := by
        have hb : Below wr.heap.size wr V4 := by rw [hV4]; exact (Below.refl _ wr).alloc (Nat.le_refl _) _
        have hbw := HBW.out.trans (hb.mono HBW.out.size)
        refine (build_any 2 2 [liX i] (some ⟨G, 0, none⟩) 1 V4 (HTD.out.later hbw) (xrow_one (by rw [hV4, hG]; exact heap_alloc_new wr _) ((HIN.out.later hb 2).base hb.size 2)) (by simp)).mono ?_
        intro e w' h
        exact ⟨h, hbw.trans (h.1.mono hbw.size)⟩
      clear hXb
      go_wp2_with fail
      rw [← hG, ← hV4]
      clear hG hV4 e0 e1 e2
      refine HC.out.mono ?_
      rintro e w7 ⟨⟨_, hor⟩, hb7⟩
      have HB7 : Hid (Below w.heap.size w w7) := hb7
      clear hb7 HC
      rcases hor with ⟨h2, _⟩ | ⟨_, ⟨rfl, h2⟩ | ⟨lb, nx, ou, rfl, hma, hle, h400, _⟩⟩
      · rw [li_alw (by omega)] at h2; cases h2
      · have h8 : 8 ≤ i := by
          rcases Nat.lt_or_ge i 8 with h | h
          · exact absurd h2 (li_small (by omega))
          · exact h
        clear h2
        have hcs : i = 8 ∨ i = 9 ∨ i = 10 ∨ i = 11 := by omega
        clear HLI HIN
        rcases hcs with rfl | rfl | rfl | rfl
        all_goals
          go_wp2_with fail
          go_ret
          exact ⟨by simp, HB7.out⟩
      · rw [show (2 : Int).toNat = 2 from rfl] at hma hle
        have h7 : i ≤ 7 := by
          have h1 := li_low hle
          rcases Nat.lt_or_ge i 8 with h | h
          · omega
          · have : 2 ^ 9 ≤ 2 ^ (i + 1) := Nat.pow_le_pow_right (by decide) (by omega)
            omega
        have hlen : ou.length = 2 ^ (i + 1) := by
          have h1 := li_low hle
          have h2 := li_up h7 hle
          rw [hle.len]; omega
        obtain ⟨oa, oo, oc, o1, _⟩ := mch_out hma (by rw [hle.len]; exact asMet_pos hle.asMet)
        rw [hlen] at o1
        clear hma hle h400 HLI HIN hlen
        have hcs : i = 0 ∨ i = 1 ∨ i = 2 ∨ i = 3 ∨ i = 4 ∨ i = 5 ∨ i = 6 ∨ i = 7 := by omega
        rcases hcs with rfl | rfl | rfl | rfl | rfl | rfl | rfl | rfl
        all_goals
          go_wp2_with fail
          go_ret
          exact ⟨by simp, HB7.out⟩
end Go.Proofs.YtpmmmgjiekikeaaDoor
