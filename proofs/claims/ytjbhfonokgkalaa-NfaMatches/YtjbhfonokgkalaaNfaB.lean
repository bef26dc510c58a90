/- The walks of add and lead. -/
import Derived.Test.YtjbhfonokgkalaaNfaA
namespace Go.Proofs.Ytjbhfonokgkalaa
open Go.RowKit
set_option linter.unusedVariables false
set_option linter.unusedSimpArgs false

set_option maxHeartbeats 4000000 in
theorem add_any (B U : Nat) (w : World) (bm : Nat) (l : List St) (st en : Nat) (r : Bool) (cl : List Int) (ca : Option Addr) (cn cc : Nat) (h : MAt B U w bm l st en) (hc : w.ownsRow U 3 1 (.slice ca cn cc) cl.length (cl.map (Value.int .i64))) (hl : l.length ≤ 1000000) :
    Calls Try.prog 81 #[.pointer (some ⟨bm, 0, none⟩), .agg #[.bool r, .slice ca cn cc, .slice none 0 0]] w fun e w' => e = .returned (nI l.length) ∧ MAt B w'.heap.size w' bm (l ++ [⟨r, cl, []⟩]) st en ∧ MStep B w w' := by
  obtain ⟨hb, hBU, hU, v, hm, xs, cv, nv, hx⟩ := h
  obtain ⟨i0, ji, jz0, jz1, jz2⟩ := info_parts info_St
  have HJ : Hid (Try.prog.info? 77 = some i0 ∧ i0.zero = some (.agg #[.bool false, .slice none 0 0, .slice none 0 0]) ∧ i0.size = 3 ∧ i0.bytes = 56) := ⟨ji, jz0, jz1, jz2⟩
  obtain ⟨a, c, rfl⟩ := own_sl1 hx.1
  obtain ⟨n, hn⟩ : ∃ n, n = l.length := ⟨_, rfl⟩
  have HN : Hid (n = l.length) := hn
  have hnl : (n : Int) ≤ 1000000 := by omega
  obtain ⟨W0, hW0⟩ : ∃ W0, W0 = w.alloc (.cells #[.bool r, .slice ca cn cc, .slice none 0 0] 77) := ⟨_, rfl⟩
  obtain ⟨H, hH⟩ : ∃ H, H = w.heap.size := ⟨_, rfl⟩
  have HB0 : Hid (Below w.heap.size w W0) := by rw [hW0]; exact (Below.refl _ w).alloc (Nat.le_refl _) _
  have HX : Hid (MRowX B U w (.slice a l.length c) l xs cv nv) := hx
  have hm0 : W0.heap[bm]? = some (.cells #[.slice a l.length c, nI st, nI en] 66) := (HB0.out.block bm (Array.getElem?_eq_some_iff.1 hm).1).trans hm
  have hbx : W0.heap[H]? = some (.cells #[.bool r, .slice ca cn cc, .slice none 0 0] 77) := by rw [hW0, hH]; exact heap_alloc_new w _
  rw [← hn] at hm0
  have HMB : Hid (∀ V : World, Below W0.heap.size W0 V → V.cell? ⟨bm, 0, none⟩ = some (.slice a n c) ∧ V.cell? ⟨H, 0, none⟩ = some (.bool r) ∧ V.cell? ⟨H, 1, none⟩ = some (.slice ca cn cc) ∧ V.cell? ⟨H, 2, none⟩ = some (.slice none 0 0) ∧ V.frozen? ⟨bm, 0, none⟩ = false) := by
    intro V hV
    exact ⟨upC hV (cell_of_row W0 bm 0 _ _ _ hm0), upC hV (cell_of_row W0 H 0 _ _ _ hbx), upC hV (cell_of_row W0 H 1 _ _ _ hbx), upC hV (cell_of_row W0 H 2 _ _ _ hbx), Lib.frozen_of_heap ((hV.block bm (Array.getElem?_eq_some_iff.1 hm0).1).trans hm0) _⟩
  have HOW : Hid (∀ V : World, Below W0.heap.size W0 V → V.ownsRow B 77 3 (.slice a n c) n xs) := by
    intro V hV
    have h1 := own_later5 hx.1 (HB0.out.trans (hV.mono HB0.out.size))
    rw [← hn] at h1
    exact h1
  have HBW : Hid (B ≤ W0.heap.size) := Nat.le_trans hBU (Nat.le_trans hU HB0.out.size)
  have HFAR : Hid (∀ (V V' : World), Below W0.heap.size W0 V → V.grownBy V' (Value.slice a n c).ownBlock → V'.cell? ⟨bm, 0, none⟩ = some (.slice a n c) ∧ V'.cell? ⟨H, 0, none⟩ = some (.bool r) ∧ V'.cell? ⟨H, 1, none⟩ = some (.slice ca cn cc) ∧ V'.cell? ⟨H, 2, none⟩ = some (.slice none 0 0) ∧ V'.frozen? ⟨bm, 0, none⟩ = false) := by
    intro V V' hV hg
    obtain ⟨c0, c1, c2, c3, _⟩ := HMB.out V hV
    have hmV := (hV.block bm (Array.getElem?_eq_some_iff.1 hm0).1).trans hm0
    have e1 : some bm ≠ (Value.slice a n c).ownBlock := fun e => own_ne (HOW.out W0 (Below.refl _ _)) hm0 (by decide) e.symm
    have e2 : some H ≠ (Value.slice a n c).ownBlock := fun e => by
      have := (hx.1.lt H (by rw [← hn]; exact e.symm)).2
      omega
    exact ⟨hg.cell c0 e1, hg.cell c1 e2, hg.cell c2 e2, hg.cell c3 e2, Lib.frozen_of_heap ((hg.block bm (Array.getElem?_eq_some_iff.1 hmV).1 e1).trans hmV) _⟩
  have HFIN : Hid (∀ (V w1 : World) (g cap : Nat), Below W0.heap.size W0 V → w1.ownsRow B 77 3 (.slice (some ⟨g, 0, none⟩) (n + 1) cap) (n + 1) (xs ++ [.bool r, .slice ca cn cc, .slice none 0 0]) → V.grownBy w1 (Value.slice a n c).ownBlock →
      MAt B (w1.setCell ⟨bm, 0, none⟩ (.slice (some ⟨g, 0, none⟩) (n + 1) cap)).heap.size (w1.setCell ⟨bm, 0, none⟩ (.slice (some ⟨g, 0, none⟩) (n + 1) cap)) bm (l ++ [⟨r, cl, []⟩]) st en ∧ MStep B w (w1.setCell ⟨bm, 0, none⟩ (.slice (some ⟨g, 0, none⟩) (n + 1) cap))) := by
    intro V w1 g cap hV q1 q2
    rw [hn] at q1 q2 ⊢
    exact add_mem hb hBU hU hm hx hc (HB0.out.trans (hV.mono HB0.out.size)) q1 q2
  clear ji jz0 jz1 jz2 hm hx hm0 hbx hc hb hBU hU
  rw [← hn]
  clear hn hl
  go_enter Try.func81, Try.ntmps81
  go_upto_region 1 with fail
  rw [← hH, ← hW0]
  clear hH hW0
  obtain ⟨c0, c1, c2, c3, _⟩ := HMB.out W0 (Below.refl _ _)
  have d0 := (HMB.out (W0.alloc (.cells #[.bool r, .slice ca cn cc, .slice none 0 0] 77)) ((Below.refl _ W0).alloc (Nat.le_refl _) _)).1
  go_region_law (refine step_append_lies _ (by rfl) _ _ 64 (by rfl) B 77 i0 _ 3 56 Try.underlying64 HJ.out.1 HJ.out.2.1 HJ.out.2.2.1 HJ.out.2.2.2 rfl (by decide) (.slice a n c) n xs (by rfl) (HOW.out _ (((Below.refl _ W0).drew).alloc (by simp) _)) ⟨W0.heap.size, 0, none⟩ 1 1 [.bool r, .slice ca cn cc, .slice none 0 0] (by rfl) (by rfl) (World.news_of_block (cs := #[.bool r, .slice ca cn cc, .slice none 0 0]) (t := 77) (fr := (0, 0)) (heap_alloc_new W0.drew _)) (by simp [Value.oneCell']) (by omega) (by unfold maxLen; omega) (by omega) (by have := HBW.out; simp; omega) _ rfl ?_; intro g cap w1 hown hgrow hat hlt; have hfar := HFAR.out _ _ (((Below.refl _ W0).drew).alloc (by simp) _) hgrow; have hfz := hfar.2.2.2.2; have hcz := hfar.1; clear hfar)
  all_goals
    have HF : Hid (MAt B (w1.setCell ⟨bm, 0, none⟩ (.slice (some ⟨g, 0, none⟩) (n + 1) cap)).heap.size (w1.setCell ⟨bm, 0, none⟩ (.slice (some ⟨g, 0, none⟩) (n + 1) cap)) bm (l ++ [⟨r, cl, []⟩]) st en ∧ MStep B w (w1.setCell ⟨bm, 0, none⟩ (.slice (some ⟨g, 0, none⟩) (n + 1) cap))) := HFIN.out _ w1 g cap (((Below.refl _ W0).drew).alloc (by simp) _) hown hgrow
    clear hown hgrow hat hlt c0 c1 c2 c3 d0
    go_wp2
    go_ret
    exact ⟨by simp [nI], HF.out⟩

set_option maxHeartbeats 8000000 in
theorem lead_any (B U : Nat) (w : World) (bm : Nat) (l : List St) (st en f t : Nat) (h : MAt B U w bm l st en) (hf : f < l.length) (hl : szS l ≤ 1000000) :
    Calls Try.prog 82 #[.pointer (some ⟨bm, 0, none⟩), nI f, nI t] w fun e w' => e = .returned (.tuple #[]) ∧ MAt B w'.heap.size w' bm (leadS l f t) st en ∧ MStep B w w' := by
  obtain ⟨hb, hBU, hU, v, hm, xs, cv, nv, hx⟩ := h
  obtain ⟨i0, ji, jz0, jz1, jz2⟩ := info_parts info_i
  have HJ : Hid (Try.prog.info? 3 = some i0 ∧ i0.zero = some (.int .i64 0) ∧ i0.size = 1 ∧ i0.bytes = 8) := ⟨ji, jz0, jz1, jz2⟩
  obtain ⟨s, hs⟩ : ∃ s, l[f]? = some s := ⟨_, List.getElem?_eq_getElem hf⟩
  have hnx := szS_next l f s hs
  have hll := szS_len l
  obtain ⟨a1, a2, a3, a4, a5, a6, a7, a8⟩ := hx.2 f s hs
  obtain ⟨na, nc, hnv⟩ := own_sl1 a5
  obtain ⟨g0, c0, rfl⟩ : ∃ g0 c0, v = .slice (some ⟨g0, 0, none⟩) l.length c0 := by
    rcases hx.1.2 with ⟨_, h0⟩ | ⟨g, cap, cur, hv, _⟩
    · omega
    · exact ⟨g, cap, hv⟩
  obtain ⟨n, hn⟩ : ∃ n, n = l.length := ⟨_, rfl⟩
  obtain ⟨nn, hnn⟩ : ∃ nn, nn = s.next.length := ⟨_, rfl⟩
  have hnl : (n : Int) ≤ 1000000 := by omega
  have hnnl : (nn : Int) ≤ 1000000 := by omega
  have hcf : w.cell? ⟨g0, f * 3 + 2, none⟩ = some (.slice na nn nc) := by
    rw [hnn, ← hnv]
    have h1 := hx.1.cells (g := g0) rfl (f * 3 + 2) _ a3
    simpa [Addr.add] using h1
  have hg0 : ∃ cur, w.heap[g0]? = some (.cells cur 77 (0, 0)) := by
    rcases hx.1.2 with ⟨hv, h0⟩ | ⟨g, cap, cur, hv, _, hg, _⟩
    · cases hv
    · cases hv; exact ⟨cur, hg⟩
  obtain ⟨cur, hg0⟩ := hg0
  have HNE : Hid (some bm ≠ (Value.slice na nn nc).ownBlock ∧ some g0 ≠ (Value.slice na nn nc).ownBlock) := by
    rw [hnv, ← hnn] at a5
    exact ⟨fun e => own_ne a5 hm (by decide) e.symm, fun e => own_ne a5 hg0 (by decide) e.symm⟩
  have HV : Hid (∀ V : World, Below w.heap.size w V → V.cell? ⟨bm, 0, none⟩ = some (.slice (some ⟨g0, 0, none⟩) n c0) ∧ V.cell? ⟨g0, f * 3 + 2, none⟩ = some (.slice na nn nc) ∧ V.frozen? ⟨g0, f * 3 + 2, none⟩ = false ∧ V.ownsRow B 3 1 (.slice na nn nc) nn (s.next.map nI)) := by
    intro V hV
    refine ⟨upC hV ?_, upC hV hcf, Lib.frozen_of_heap ((hV.block g0 (Array.getElem?_eq_some_iff.1 hg0).1).trans hg0) _, ?_⟩
    · rw [hn]; exact cell_of_row w bm 0 _ _ _ hm
    · have := own_later5 a5 hV
      rw [hnv, ← hnn] at this
      exact this
  have HFAR : Hid (∀ (V V' : World), Below w.heap.size w V → V.grownBy V' (Value.slice na nn nc).ownBlock → V'.cell? ⟨bm, 0, none⟩ = some (.slice (some ⟨g0, 0, none⟩) n c0) ∧ V'.cell? ⟨g0, f * 3 + 2, none⟩ = some (.slice na nn nc) ∧ V'.frozen? ⟨g0, f * 3 + 2, none⟩ = false) := by
    intro V V' hV hg
    obtain ⟨d0, d1, d2, _⟩ := HV.out V hV
    refine ⟨hg.cell d0 HNE.out.1, hg.cell d1 HNE.out.2, ?_⟩
    have hgV := (hV.block g0 (Array.getElem?_eq_some_iff.1 hg0).1).trans hg0
    exact Lib.frozen_of_heap ((hg.block g0 (Array.getElem?_eq_some_iff.1 hgV).1 HNE.out.2).trans hgV) _
  have HFIN : Hid (∀ (V w1 : World) (g cap : Nat), Below w.heap.size w V → w1.ownsRow B 3 1 (.slice (some ⟨g, 0, none⟩) (nn + 1) cap) (nn + 1) (s.next.map nI ++ [nI t]) → V.grownBy w1 (Value.slice na nn nc).ownBlock → ((Value.slice na nn nc).ownBlock = some g ∨ g = V.heap.size) →
      MAt B (w1.setCell ⟨g0, f * 3 + 2, none⟩ (.slice (some ⟨g, 0, none⟩) (nn + 1) cap)).heap.size (w1.setCell ⟨g0, f * 3 + 2, none⟩ (.slice (some ⟨g, 0, none⟩) (nn + 1) cap)) bm (leadS l f t) st en ∧ MStep B w (w1.setCell ⟨g0, f * 3 + 2, none⟩ (.slice (some ⟨g, 0, none⟩) (nn + 1) cap))) := by
    intro V w1 g cap hV q1 q2 q3
    rw [hnn] at q1 q2 q3 ⊢
    rw [← hnv] at q2 q3
    refine lead_mem hb hBU hU hm hx hs hV q1 q2 ?_
    rcases q3 with q3 | q3
    · exact .inl q3
    · exact .inr (fun k hk => by simp [Value.ownBlock] at hk; omega)
  have HBW : Hid (B ≤ w.heap.size) := Nat.le_trans hBU hU
  obtain ⟨e0, e1, _, _⟩ := HV.out w (Below.refl _ _)
  have hd := HV.out (w.alloc (.cells #[.int .i64 (t : Int)] 3)) ((Below.refl _ w).alloc (Nat.le_refl _) _)
  have d0 := hd.1
  have d1 := hd.2.1
  have hfi : (f : Int) < (n : Int) := by omega
  have hf0 : (0 : Int) ≤ (f : Int) := by omega
  unfold nI
  clear ji jz0 jz1 jz2 hb hBU hU hm hx hs hnx hll a1 a2 a3 a4 a5 a6 a7 a8 hnv hn hnn hcf hg0 hd hl hf
  go_enter Try.func82, Try.ntmps82
  go_region_law (refine step_append_lies _ (by rfl) _ _ 23 (by rfl) B 3 i0 _ 1 8 Try.underlying23 HJ.out.1 HJ.out.2.1 HJ.out.2.2.1 HJ.out.2.2.2 rfl (by decide) (.slice na nn nc) nn (s.next.map nI) (by rfl) (HV.out _ (((Below.refl _ w).drew).alloc (by simp) _)).2.2.2 ⟨w.heap.size, 0, none⟩ 1 1 [nI t] (by rfl) (by rfl) (World.news_of_block (cs := #[.int .i64 (t : Int)]) (t := 3) (fr := (0, 0)) (heap_alloc_new w.drew _)) (by simp [Value.oneCell', nI]) (by omega) (by unfold maxLen; omega) (by omega) (by have := HBW.out; simp; omega) _ rfl ?_; intro g cap w1 hown hgrow hat hlt; have hfar := HFAR.out _ _ (((Below.refl _ w).drew).alloc (by simp) _) hgrow; have hfz := hfar.2.2; have hcz := hfar.1; have hcw := hfar.2.1; clear hfar)
  all_goals
    have HF : Hid (MAt B (w1.setCell ⟨g0, f * 3 + 2, none⟩ (.slice (some ⟨g, 0, none⟩) (nn + 1) cap)).heap.size (w1.setCell ⟨g0, f * 3 + 2, none⟩ (.slice (some ⟨g, 0, none⟩) (nn + 1) cap)) bm (leadS l f t) st en ∧ MStep B w (w1.setCell ⟨g0, f * 3 + 2, none⟩ (.slice (some ⟨g, 0, none⟩) (nn + 1) cap))) := HFIN.out _ w1 g cap (((Below.refl _ w).drew).alloc (by simp) _) hown hgrow hat
    go_wp2
    go_end0
    exact ⟨rfl, HF.out⟩
end Go.Proofs.Ytjbhfonokgkalaa
