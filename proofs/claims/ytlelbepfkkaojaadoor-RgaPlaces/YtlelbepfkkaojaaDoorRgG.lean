/- The walk of note. -/
import Derived.Test.YtlelbepfkkaojaaDoorRgF
import Derived.Test.YtlelbepfkkaojaaDoorBasV
namespace Go.Proofs.YtlelbepfkkaojaaDoor
open Go.RowKit Go.Shelf Go.Maps Go.Sort
set_option linter.unusedVariables false
set_option linter.unusedSimpArgs false

theorem maxI_run (a b c : Int) (h : c = max a b) (W : World) : (Builtin.max_ #[3, 3] 3 #[.int .i64 a, .int .i64 b]).run Tryd.prog W = .ok (.int .i64 c) W := by
  rw [run_max_int2, h]
  congr 2
  split <;> omega
/-- What note leaves: the text of one operation more. -/
def EndN (W w : World) (P B : Nat) (ve vo vi : Value) (Q M : Nat) (rs : List El) (L : List Bool) (O : List Opn) : Prop :=
  ∃ vo', TxM w P B ve vo' vi Q M rs L O (mD O) (topO O) ∧ Chg W w (OwnT P ve vo vi Q M) ∧ ∀ k, vo'.ownBlock = some k → vo.ownBlock = some k ∨ W.heap.size ≤ k
set_option maxHeartbeats 4000000 in
theorem note_rga {P B Q M : Nat} {ve vo vi : Value} {rs : List El} {L : List Bool} {O : List Opn} (x : Opn) (hxa : (Lit.int .i64 x.a).wf = true) (hl : O.length ≤ 99000) (W : World) (h : TxM W P B ve vo vi Q M rs L O (mD O) (topO O)) (hB : B ≤ W.heap.size) :
    Calls Tryd.prog 20 #[.pointer (some ⟨P, 0, none⟩), x.val] W fun e w' => e = .returned (.tuple #[]) ∧ EndN W w' P B ve vo vi Q M rs L (O ++ [x]) := by
  obtain ⟨i0, ji, jz0, jz1, jz2⟩ := info_parts info_P
  have HJ : Hid (Tryd.prog.info? 32 = some i0 ∧ i0.zero = some op0.val ∧ i0.size = 7 ∧ i0.bytes = 56) := ⟨ji, jz0, jz1, jz2⟩
  obtain ⟨sa, cap, rfl, hcap, hcm⟩ := own_sl h.ops
  obtain ⟨xc, xa, xs, xi, xrc, xra, xch⟩ := x
  obtain ⟨x, hx⟩ : ∃ x : Opn, x = ⟨xc, xa, xs, xi, xrc, xra, xch⟩ := ⟨_, rfl⟩
  obtain ⟨W0, hW0⟩ : ∃ W0, W0 = W.alloc (.cells #[.int .i64 xc, .int .i64 xa, .int .i64 xs, .bool xi, .int .i64 xrc, .int .i64 xra, .int .i32 xch] 32) := ⟨_, rfl⟩
  have hg0 : Below W.heap.size W W0 := by rw [hW0]; exact (gw_alloc W _).below
  have hNb : W0.heap[W.heap.size]? = some (.cells #[.int .i64 xc, .int .i64 xa, .int .i64 xs, .bool xi, .int .i64 xrc, .int .i64 xra, .int .i32 xch] 32) := by rw [hW0]; exact heap_alloc_new W _
  have hPW := (Array.getElem?_eq_some_iff.1 h.blk).1
  have hMW := h.map.lt
  -- a world in which the box is as it was
  have HBX : Hid (∀ V : World, V.heap[W.heap.size]? = W0.heap[W.heap.size]? → V.cell? ⟨W.heap.size, 0, none⟩ = some (.int .i64 xc) ∧ V.cell? ⟨W.heap.size, 1, none⟩ = some (.int .i64 xa) ∧ V.cell? ⟨W.heap.size, 2, none⟩ = some (.int .i64 xs) ∧ V.cell? ⟨W.heap.size, 3, none⟩ = some (.bool xi) ∧ V.cell? ⟨W.heap.size, 4, none⟩ = some (.int .i64 xrc) ∧ V.cell? ⟨W.heap.size, 5, none⟩ = some (.int .i64 xra) ∧ V.cell? ⟨W.heap.size, 6, none⟩ = some (.int .i32 xch)) := by
    intro V hV
    rw [hNb] at hV
    exact ⟨cell_of_row V _ 0 _ _ _ hV, cell_of_row V _ 1 _ _ _ hV, cell_of_row V _ 2 _ _ _ hV, cell_of_row V _ 3 _ _ _ hV, cell_of_row V _ 4 _ _ _ hV, cell_of_row V _ 5 _ _ _ hV, cell_of_row V _ 6 _ _ _ hV⟩
  have HOW : Hid (∀ V : World, Below W0.heap.size W0 V → V.ownsRow B 32 7 (.slice sa O.length cap) O.length (flatP O)) := fun V hV => (h.later (hg0.trans (hV.mono hg0.size))).ops
  have HCE : Hid (∀ V : World, Below W0.heap.size W0 V → V.cell? ⟨P, 2, none⟩ = some (.slice sa O.length cap) ∧ V.heap[W.heap.size]? = W0.heap[W.heap.size]?) := fun V hV => ⟨(h.later (hg0.trans (hV.mono hg0.size))).cells.2.2.1, hV.block _ (Array.getElem?_eq_some_iff.1 hNb).1⟩
  -- behind the append and the store: the map's store, and the last one
  have HFIN : Hid (∀ (V w1 : World) (g c1 : Nat), Below W0.heap.size W0 V → w1.ownsRow B 32 7 (.slice (some ⟨g, 0, none⟩) (O.length + 1) c1) (O.length + 1) (flatP O ++ encP x) → V.grownBy w1 (Value.slice sa O.length cap).ownBlock → ((Value.slice sa O.length cap).ownBlock = some g ∨ g = V.heap.size) →
      (w1.cell? ⟨P, 2, none⟩ = some (.slice sa O.length cap) ∧ w1.frozen? ⟨P, 2, none⟩ = false) ∧
      ∀ W1, W1 = w1.setCell ⟨P, 2, none⟩ (.slice (some ⟨g, 0, none⟩) (O.length + 1) c1) →
        W1.cell? ⟨P, 3, none⟩ = some (.map (some M)) ∧ W1.heap[W.heap.size]? = W0.heap[W.heap.size]? ∧
        ∃ w2, (Instr.mapUpdate 46 (.map (some M)) (.int .i64 xa) (.agg #[.int .i64 xc, .int .i64 xa, .int .i64 xs, .bool xi, .int .i64 xrc, .int .i64 xra, .int .i32 xch])).run Tryd.prog W1.drew = .ok () w2 ∧
          w2.cell? ⟨P, 4, none⟩ = some (.int .i64 (topO O)) ∧ w2.frozen? ⟨P, 4, none⟩ = false ∧ w2.heap[W.heap.size]? = W0.heap[W.heap.size]? ∧
          ∀ q, EndN W ((w2.drewN q).setCell ⟨P, 4, none⟩ (.int .i64 (topO (O ++ [x])))) P B ve (.slice sa O.length cap) vi Q M rs L (O ++ [x])) := by
    intro V w1 g c1 hV q1 q2 q3
    have hVW := hg0.trans (hV.mono hg0.size)
    have q1' : w1.ownsRow B 32 7 (.slice (some ⟨g, 0, none⟩) (O.length + 1) c1) (O ++ [x]).length (flatP (O ++ [x])) := by
      rw [flatP_app, flatP_one, List.length_append]; exact q1
    have hat : AtX V (Value.slice sa O.length cap).ownBlock (.slice (some ⟨g, 0, none⟩) (O.length + 1) c1) := fun k hk => by
      have e : g = k := Option.some.inj hk
      rcases q3 with r | r
      · exact .inl (e ▸ r)
      · exact .inr (by omega)
    obtain ⟨z1, z2, z3, z4, z5, z6⟩ := note_ops h hVW q1' q2 hat (by simp)
    refine ⟨⟨z1, z2⟩, ?_⟩
    rintro W1 rfl
    have hb1 : (w1.setCell ⟨P, 2, none⟩ (.slice (some ⟨g, 0, none⟩) (O.length + 1) c1)).heap[W.heap.size]? = W0.heap[W.heap.size]? := by
      rw [Below.heap_setCell w1 ⟨P, 2, none⟩ _ W.heap.size (fun e => by have e2 : W.heap.size = P := e; omega)]
      have hVb := hV.block W.heap.size (Array.getElem?_eq_some_iff.1 hNb).1
      refine (q2.block W.heap.size (Array.getElem?_eq_some_iff.1 (hVb.trans hNb)).1 (fun e => ?_)).trans hVb
      have := (h.ops.lt _ e.symm).2
      omega
    obtain ⟨w2, r1, r2, r3⟩ := World.ownsMap.update (w := (w1.setCell ⟨P, 2, none⟩ (.slice (some ⟨g, 0, none⟩) (O.length + 1) c1)).drew) (val := x.val) z4.drew (int_keyed Tryd.underlying3) Tryd.underlying46 (by unfold maxLen; omega) (keyOf_int_mk Tryd.underlying3 hxa) (ps := []) (d := .held x.val) rfl
    have r2' : w2.ownsMap Tryd.prog 3 RH M (O.length + 1) (mD (O ++ [x])) := by rw [mD_snoc, hx]; rw [hx] at r2; exact r2
    obtain ⟨y1, y2⟩ := note_map (W := (w1.setCell ⟨P, 2, none⟩ (.slice (some ⟨g, 0, none⟩) (O.length + 1) c1)).drew) (by exact ⟨z3.blk, z3.elm, z3.ops, z3.idx, z3.map, z3.hP, z3.hM⟩) r2' (by simp) r3
    have hP2 := y1.cells
    refine ⟨z3.cells.2.2.2.1, hb1, w2, by rw [hx] at r1; exact r1, hP2.2.2.2.2.1, hP2.2.2.2.2.2 4, ?_, fun q => ?_⟩
    · have hVb := hb1.trans hNb
      refine (r3.block W.heap.size (Array.getElem?_eq_some_iff.1 hVb).1 (fun e => ?_)).trans hb1
      have := Option.some.inj e
      omega
    · have hdr : TxM (w2.drewN q) P B ve (.slice (some ⟨g, 0, none⟩) (O.length + 1) c1) vi Q M rs L (O ++ [x]) (mD (O ++ [x])) (topO O) := ⟨y1.blk, y1.elm, y1.ops, y1.idx, y1.map, y1.hP, y1.hM⟩
      obtain ⟨t1, t2⟩ := note_top (topO (O ++ [x])) hdr
      have hsub : ∀ k, OwnT P ve (.slice (some ⟨g, 0, none⟩) (O.length + 1) c1) vi Q M k → k < W.heap.size → OwnT P ve (.slice sa O.length cap) vi Q M k := by
        intro k hk hlt
        rcases hk with r | r | r | r | r
        · exact .inl r
        · exact .inr (.inl r)
        · rcases z6 k r with r | r
          · exact .inr (.inr (.inl r))
          · omega
        · exact .inr (.inr (.inr (.inl r)))
        · exact .inr (.inr (.inr (.inr r)))
      refine ⟨_, t1, ?_, z6⟩
      have y2' : Chg (w1.setCell ⟨P, 2, none⟩ (.slice (some ⟨g, 0, none⟩) (O.length + 1) c1)) (w2.drewN q) (OwnT P ve (.slice (some ⟨g, 0, none⟩) (O.length + 1) c1) vi Q M) := by
        obtain ⟨u1, u2, u3, u4, u5⟩ := y2
        exact cg_drewN (Q := OwnT P ve (.slice (some ⟨g, 0, none⟩) (O.length + 1) c1) vi Q M) ⟨u1, u2, u3, u4, u5⟩ q
      exact cg_trans (cg_trans z5 y2' (fun k hk r => hsub k r hk)) t2 (fun k hk r => hsub k r hk)
  have hmx := fun V => maxI_run (topO O) xc (topO (O ++ [x])) (by rw [topO_snoc, hx]) V
  have HBW : Hid (B ≤ W0.heap.size) := Nat.le_trans hB hg0.size
  obtain ⟨EN, HEN, HFIN2⟩ : ∃ EN : World → Prop, Hid (∀ w', EN w' → EndN W w' P B ve (.slice sa O.length cap) vi Q M rs L (O ++ [x])) ∧ Hid (∀ (V w1 : World) (g c1 : Nat), Below W0.heap.size W0 V → w1.ownsRow B 32 7 (.slice (some ⟨g, 0, none⟩) (O.length + 1) c1) (O.length + 1) (flatP O ++ encP x) → V.grownBy w1 (Value.slice sa O.length cap).ownBlock → ((Value.slice sa O.length cap).ownBlock = some g ∨ g = V.heap.size) →
      (w1.cell? ⟨P, 2, none⟩ = some (.slice sa O.length cap) ∧ w1.frozen? ⟨P, 2, none⟩ = false) ∧
      ∀ W1, W1 = w1.setCell ⟨P, 2, none⟩ (.slice (some ⟨g, 0, none⟩) (O.length + 1) c1) →
        W1.cell? ⟨P, 3, none⟩ = some (.map (some M)) ∧ W1.heap[W.heap.size]? = W0.heap[W.heap.size]? ∧
        ∃ w2, (Instr.mapUpdate 46 (.map (some M)) (.int .i64 xa) (.agg #[.int .i64 xc, .int .i64 xa, .int .i64 xs, .bool xi, .int .i64 xrc, .int .i64 xra, .int .i32 xch])).run Tryd.prog W1.drew = .ok () w2 ∧
          w2.cell? ⟨P, 4, none⟩ = some (.int .i64 (topO O)) ∧ w2.frozen? ⟨P, 4, none⟩ = false ∧ w2.heap[W.heap.size]? = W0.heap[W.heap.size]? ∧
          ∀ q, EN ((w2.drewN q).setCell ⟨P, 4, none⟩ (.int .i64 (topO (O ++ [x]))))) := ⟨_, fun _ h => h, HFIN⟩
  clear HFIN
  obtain ⟨H, hH⟩ : ∃ H, H = W.heap.size := ⟨_, rfl⟩
  rw [← hH] at HBX HCE HFIN2
  simp only [Opn.val]
  rw [← hx]
  have hx2 : encP x = [.int .i64 xc, .int .i64 xa, .int .i64 xs, .bool xi, .int .i64 xrc, .int .i64 xra, .int .i32 xch] := by rw [hx]; rfl
  have HN : Hid (O.length ≤ 99000) := hl
  rw [hx2] at HFIN2
  clear hx2 hxa h hx hg0 hNb hPW hMW ji jz0 jz1 jz2 hB hcap hcm
  generalize O.length = n at *
  generalize flatP O = fl at *
  generalize topO O = tp at *
  generalize topO (O ++ [x]) = tq at *
  go_enter Tryd.func20, Tryd.ntmps20
  go_upto_region 1 with fail
  rw [← hH, ← hW0]
  clear hH hW0
  obtain ⟨c2, _⟩ := HCE.out W0 (Below.refl _ _)
  obtain ⟨b0, b1, b2, b3, b4, b5, b6⟩ := HBX.out W0 rfl
  have d2 := (HCE.out (W0.alloc (.cells #[.int .i64 xc, .int .i64 xa, .int .i64 xs, .bool xi, .int .i64 xrc, .int .i64 xra, .int .i32 xch] 32)) ((Below.refl _ W0).alloc (Nat.le_refl _) _)).1
  go_region_law (refine step_append_lies _ (by rfl) _ _ 22 (by rfl) B 32 i0 _ 7 56 Tryd.underlying22 HJ.out.1 HJ.out.2.1 HJ.out.2.2.1 HJ.out.2.2.2 rfl (by decide) (.slice sa n cap) n fl (by rfl) (HOW.out _ (((Below.refl _ W0).drew).alloc (by simp) _)) ⟨W0.heap.size, 0, none⟩ 1 1 [.int .i64 xc, .int .i64 xa, .int .i64 xs, .bool xi, .int .i64 xrc, .int .i64 xra, .int .i32 xch] (by rfl) (by rfl) (World.news_of_block (cs := #[.int .i64 xc, .int .i64 xa, .int .i64 xs, .bool xi, .int .i64 xrc, .int .i64 xra, .int .i32 xch]) (t := 32) (fr := (0, 0)) (heap_alloc_new W0.drew _)) (by simp [Value.oneCell']) (by omega) (by have := HN.out; unfold maxLen; omega) (by have := HN.out; omega) (by have := HBW.out; simp; omega) _ rfl ?_; intro g c1 w1 hown hgrow hat hlt; have hfar := (HFIN2.out _ w1 g c1 (((Below.refl _ W0).drew).alloc (by simp) _) hown hgrow hat).1; have hfz := hfar.2; have hcz := hfar.1; clear hfar)
  all_goals
    obtain ⟨_, hq⟩ := HFIN2.out _ w1 g c1 (((Below.refl _ W0).drew).alloc (by simp) _) hown hgrow hat
    clear hown hgrow hat hlt hfz hcz c2 d2 b0 b1 b2 b3 b4 b5 b6 HFIN2
    obtain ⟨W1, hW1⟩ : ∃ W1, W1 = w1.setCell ⟨P, 2, none⟩ (.slice (some ⟨g, 0, none⟩) (n + 1) c1) := ⟨_, rfl⟩
    obtain ⟨k3, kb, w2, hup, t4, f4, kb2, hEN⟩ := hq W1 hW1
    rw [← hW1]
    have HE2 : Hid (∀ q, EN ((w2.drewN q).setCell ⟨P, 4, none⟩ (.int .i64 tq))) := hEN
    clear hW1 hq hEN
    obtain ⟨b0, b1, b2, b3, b4, b5, b6⟩ := HBX.out W1 kb
    obtain ⟨e0, _, _, _, _, _, _⟩ := HBX.out w2 kb2
    clear kb kb2 HBX HOW HCE
    go_upto_region 2 with fail
    go_region
    go_upto_region 3 with fail
    go_region
    go_end0
    exact ⟨rfl, HEN.out _ (HE2.out 1)⟩
end Go.Proofs.YtlelbepfkkaojaaDoor
