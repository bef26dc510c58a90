/- The walk of an index's split. -/
import Derived.Test.YtlelbepfkkaojaaDoorIxE
namespace Go.Proofs.YtlelbepfkkaojaaDoor
open Go.RowKit
set_option linter.unusedVariables false
set_option linter.unusedSimpArgs false

/-- What split leaves. -/
def CutP (P B : Nat) (v : Value) (n c : Nat) (Bs : List (List Bool)) (W : World) (w' : World) : Prop := ∃ v', IxB w' P B v' n c Bs ∧ Chg W w' (OwnX P v) ∧ AtX W v.ownBlock v'
theorem bk_put {W : World} {g o : Nat} {A D : List Value} {l : List Bool} (h : BkAt W g o A D l) (m : List Bool) : BkAt (((W.setCell ⟨g, o, none⟩ (.int .i64 (m.length : Int))).setCell ⟨g, o + 1, none⟩ (.int .i64 (cnt m : Int))).setCell ⟨g, o + 2, none⟩ (.int .u64 (wd m : Int))) g o A D m := by
  refine ⟨h.1, ?_⟩
  have h1 := (blk_set h.1 h.2 (.int .i64 (m.length : Int))).1
  have h2 := (blk_set h.1 h1 (.int .i64 (cnt m : Int))).2.1
  exact (blk_set h.1 h2 (.int .u64 (wd m : Int))).2.2
theorem cut_set (Bs : List (List Bool)) (i : Nat) (h : i < Bs.length) : (Bs.set i ((Bs.getD i []).take 32)).take (i + 1) ++ (Bs.getD i []).drop 32 :: (Bs.set i ((Bs.getD i []).take 32)).drop (i + 1) = cutB Bs i := by
  unfold cutB
  have ht : (Bs.take i ++ [(Bs.getD i []).take 32]).length = i + 1 := by rw [List.length_append, List.length_take, List.length_singleton]; omega
  rw [rows_set Bs i _ h, show Bs.take i ++ (Bs.getD i []).take 32 :: Bs.drop (i + 1) = (Bs.take i ++ [(Bs.getD i []).take 32]) ++ Bs.drop (i + 1) by simp, List.take_left' ht, List.drop_left' ht]
  simp
set_option maxHeartbeats 8000000 in
theorem split_any (P B n c i : Nat) (v : Value) (Bs : List (List Bool)) (W : World) (h : IxB W P B v n c Bs) (hi : i < Bs.length) (h64 : (Bs.getD i []).length = 64) (hB : B ≤ W.heap.size) (hl : Bs.length ≤ 100000) :
    Calls Tryd.prog 49 #[.pointer (some ⟨P, 0, none⟩), .int .i64 (i : Int)] W fun e w' => e = .returned (.tuple #[]) ∧ CutP P B v n c (cutB Bs i) W w' := by
  obtain ⟨g, cap, A, D, rfl, hb, hBg, hcap, hcm, hback⟩ := own_blk h.2.1 i hi
  obtain ⟨l, hlq⟩ : ∃ l, l = Bs.getD i [] := ⟨_, rfl⟩
  have hcs := cut_set Bs i hi
  rw [← hlq] at hb h64 hcs
  have hw := wd_lt64 l (by omega)
  have e1 : bits .and .u64 (wd l : Int) 4294967295 = (wd (l.take 32) : Int) := by
    rw [show (4294967295 : Int) = ((2 ^ 32 - 1 : Nat) : Int) from rfl, u64_and_nat _ _ (by omega) (by omega), low_mask, (wd_cut l 32).1]
  have e2 : (wd l : Int) / 4294967296 = (wd (l.drop 32) : Int) := by
    rw [(wd_cut l 32).2]; omega
  have lt : (l.take 32).length = 32 := by rw [List.length_take]; omega
  have ld : (l.drop 32).length = 32 := by rw [List.length_drop]; omega
  have HN1 : Hid (∀ W, Calls Tryd.prog 56 #[.int .i64 32, .int .u64 (wd (l.take 32) : Int)] W fun e w' => e = .returned (.agg #[.int .i64 32, .int .i64 (cnt (l.take 32) : Int), .int .u64 (wd (l.take 32) : Int)]) ∧ Below W.heap.size W w') := by
    intro W
    have := newBlock_any (l.take 32) (by omega) W
    rw [encB, lt] at this
    refine this.mono ?_
    rintro e w' ⟨rfl, rfl⟩
    exact ⟨rfl, (Below.refl _ W).alloc (Nat.le_refl _) _⟩
  have HN2 : Hid (∀ W, Calls Tryd.prog 56 #[.int .i64 32, .int .u64 (wd (l.drop 32) : Int)] W fun e w' => e = .returned (.agg #[.int .i64 32, .int .i64 (cnt (l.drop 32) : Int), .int .u64 (wd (l.drop 32) : Int)]) ∧ Below W.heap.size W w') := by
    intro W
    have := newBlock_any (l.drop 32) (by omega) W
    rw [encB, ld] at this
    refine this.mono ?_
    rintro e w' ⟨rfl, rfl⟩
    exact ⟨rfl, (Below.refl _ W).alloc (Nat.le_refl _) _⟩
  obtain ⟨Bs1, hBs1⟩ : ∃ Bs1, Bs1 = Bs.set i (l.take 32) := ⟨_, rfl⟩
  have hl1 : Bs1.length = Bs.length := by rw [hBs1]; simp
  rw [← hBs1] at hcs
  have HP1 : Hid (∀ w1, Below W.heap.size W w1 → IxB w1 P B (.slice (some ⟨g, 0, none⟩) Bs.length cap) n c Bs ∧ BkAt w1 g (i * 3) A D l) := by
    intro w1 hb1
    refine ⟨h.keep (Q := fun _ => False) (cg_below hb1 _) (fun _ _ h => h), hb.1, ?_⟩
    exact (hb1.block g (Array.getElem?_eq_some_iff.1 hb.2).1).trans hb.2
  have HP2 : Hid (∀ w1 w2, Below W.heap.size W w1 → w2 = ((w1.setCell ⟨g, i * 3, none⟩ (.int .i64 32)).setCell ⟨g, i * 3 + 1, none⟩ (.int .i64 (cnt (l.take 32) : Int))).setCell ⟨g, i * 3 + 2, none⟩ (.int .u64 (wd (l.take 32) : Int)) → IxB w2 P B (.slice (some ⟨g, 0, none⟩) Bs.length cap) n c Bs1 ∧ Chg W w2 (fun k => k = g)) := by
    rintro w1 w2 hb1 rfl
    obtain ⟨p1, p2⟩ := HP1.out w1 hb1
    have k := bk_put p2 (l.take 32)
    rw [lt] at k
    have ho := hback _ _ k
    rw [← hBs1] at ho
    have hc : Chg w1 (((w1.setCell ⟨g, i * 3, none⟩ (.int .i64 ((32 : Nat) : Int))).setCell ⟨g, i * 3 + 1, none⟩ (.int .i64 (cnt (l.take 32) : Int))).setCell ⟨g, i * 3 + 2, none⟩ (.int .u64 (wd (l.take 32) : Int))) (fun k => k = g) :=
      cg_trans (cg_trans (cg_set w1 g _ _) (cg_set _ g _ _) (fun k _ r => r)) (cg_set _ g _ _) (fun k _ r => r)
    exact ⟨ix_block (i := i) p1 hl1 ho hc, cg_trans (cg_below hb1 _) hc (fun k _ r => r)⟩
  have HP3 : Hid (∀ w2 w3, IxB w2 P B (.slice (some ⟨g, 0, none⟩) Bs.length cap) n c Bs1 → Chg W w2 (fun k => k = g) → Below w2.heap.size w2 w3 → Calls Tryd.prog 57 #[.slice (some ⟨g, 0, none⟩) Bs.length cap, .int .i64 ((i : Int) + 1), .slice (some ⟨w3.heap.size, 0, none⟩) 1 1] (w3.alloc (.cells #[.int .i64 32, .int .i64 (cnt (l.drop 32) : Int), .int .u64 (wd (l.drop 32) : Int)] 77))
      fun e w' => ∃ g' cap', e = .returned (.slice (some ⟨g', 0, none⟩) (Bs.length + 1) cap') ∧ w'.cell? ⟨P, 2, none⟩ = some (.slice (some ⟨g, 0, none⟩) Bs.length cap) ∧ w'.frozen? ⟨P, 2, none⟩ = false ∧ CutP P B (.slice (some ⟨g, 0, none⟩) Bs.length cap) n c (cutB Bs i) W (w'.setCell ⟨P, 2, none⟩ (.slice (some ⟨g', 0, none⟩) (Bs.length + 1) cap'))) := by
    intro w2 w3 k1 k2 k3
    obtain ⟨w4, hw4⟩ : ∃ w4, w4 = w3.alloc (.cells #[.int .i64 32, .int .i64 (cnt (l.drop 32) : Int), .int .u64 (wd (l.drop 32) : Int)] 77) := ⟨_, rfl⟩
    rw [← hw4]
    have b4 : Below w2.heap.size w2 w4 := by rw [hw4]; exact k3.alloc k3.size _
    have i4 : IxB w4 P B (.slice (some ⟨g, 0, none⟩) Bs.length cap) n c Bs1 := k1.keep (Q := fun _ => False) (cg_below b4 _) (fun _ _ h => h)
    have hv : w4.heap[w3.heap.size]? = some (.cells (encB (l.drop 32)).toArray 77) := by
      rw [hw4, heap_alloc_new, encB, ld]; rfl
    have hP3 : P < w3.heap.size := Nat.lt_of_lt_of_le (Array.getElem?_eq_some_iff.1 k1.1).1 k3.size
    have hg3 : g < w3.heap.size := Nat.lt_of_lt_of_le ((k1.2.1).lt g rfl).2 k3.size
    have hs4 : w3.heap.size ≤ w4.heap.size := by rw [hw4]; simp
    have := insert_any Bs1 (l.drop 32) B (.slice (some ⟨g, 0, none⟩) Bs.length cap) w3.heap.size (i + 1) w4 i4.2.1 (by have := k2.2.2.2.1; have := k3.size; omega) (by omega) hv (by intro e; have : g = w3.heap.size := Option.some.inj e; omega) (by omega)
    rw [show ((i + 1 : Nat) : Int) = (i : Int) + 1 by omega, hcs] at this
    refine this.mono ?_
    rintro e w' ⟨v', rfl, ho, hgb, hat⟩
    have hlc : (cutB Bs i).length = Bs.length + 1 := cut_len Bs i hi
    rcases ho.2 with ⟨_, h0⟩ | ⟨g', cap', cur', rfl, hb', hg', hn', hm', hs', ht'⟩
    · omega
    have hc5 : Chg W w' (fun k => k = g) := cg_trans (cg_trans k2 (cg_below b4 (fun _ => False)) (fun k _ r => r.elim)) (cg_gb hgb) (fun k _ r => (Option.some.inj r).symm)
    have hPg : P ≠ g := fun e => k1.2.2.1 (by rw [e]; rfl)
    have hP5 : w'.heap[P]? = some (.cells #[.int .i64 (n : Int), .int .i64 (c : Int), .slice (some ⟨g, 0, none⟩) Bs.length cap] 62) := cg_heap hc5 h.1 hPg
    have hPW : P < W.heap.size := (Array.getElem?_eq_some_iff.1 h.1).1
    have hgW : g < W.heap.size := ((h.2.1).lt g rfl).2
    have hWs : W.heap.size ≤ w4.heap.size := by have := k2.2.2.2.1; have := b4.size; omega
    have hne : g' ≠ P := fun e => by
      rcases hat g' rfl with r | r
      · exact hPg (e ▸ (Option.some.inj r).symm)
      · omega
    refine ⟨g', cap', by rw [hlc], cell_of_row w' P 2 _ _ _ hP5, Lib.frozen_of_heap hP5 _, ⟨.slice (some ⟨g', 0, none⟩) (Bs.length + 1) cap', ⟨?_, ?_, ?_, h.2.2.2⟩, ?_, ?_⟩⟩
    · rw [heap_setX w' P 2 _ _ _ _ hP5]; rfl
    · refine cg_own (cg_set w' P 2 _) (v := .slice (some ⟨g', 0, none⟩) (Bs.length + 1) cap') ?_ (fun k hk e => hne (by rw [← e]; exact Option.some.inj hk))
      rw [hlc] at ho ⊢
      exact ho
    · intro e
      exact hne (Option.some.inj e)
    · exact cg_trans (cg_trans (Q := OwnX P (.slice (some ⟨g, 0, none⟩) Bs.length cap)) (cg_refl W _) hc5 (fun k _ r => .inr (by rw [r]; rfl))) (cg_set w' P 2 _) (fun k _ r => .inl r)
    · intro k hk
      rcases hat k hk with r | r
      · exact .inl r
      · exact .inr (by omega)
  obtain ⟨_, _, c2, _⟩ := h.cells
  obtain ⟨_, _, d2, _⟩ := hb.cells
  have hi0 : (0 : Int) ≤ (i : Int) := by omega
  have hi1 : (i : Int) < (Bs.length : Int) := by omega
  have hi2 : (i : Int) + 1 ≤ 100001 := by omega
  have hwi : IntKind.i64.wrap ((i : Int) + 1) = (i : Int) + 1 := by rw [IntKind.wrap_i64]; omega
  clear h hb hback hB hBg hcap hlq hcs hw lt ld hl1 hBs1 hi h64
  generalize Bs.length = N at c2 hi1 HP1 HP2 HP3 hl ⊢
  generalize cnt (l.take 32) = t1 at HN1 HP2
  generalize wd (l.take 32) = t2 at HN1 HP2 e1
  generalize cnt (l.drop 32) = t3 at HN2 HP3
  generalize wd (l.drop 32) = t4 at HN2 HP3 e2
  go_enter Tryd.func49, Tryd.ntmps49
  go_upto_region 1 with fail
  go_region_with (first | (go_at_call 56; refine (HN1.out _).mono ?_; rintro e w1 ⟨rfl, hb1⟩; have HB1 : Hid (Below W.heap.size W w1) := below_undrew hb1; clear hb1; have c2 : w1.cell? ⟨P, 2, none⟩ = some (.slice (some ⟨g, 0, none⟩) N cap) := (HP1.out w1 HB1.out).1.cells.2.2.1; have x0 := (HP1.out w1 HB1.out).2.cells.1; have x1 := (HP1.out w1 HB1.out).2.cells.2.1; have x2 := (HP1.out w1 HB1.out).2.cells.2.2.1; have y0 := (HP1.out w1 HB1.out).2.cells.2.2.2 (i * 3); have y1 := (HP1.out w1 HB1.out).2.cells.2.2.2 (i * 3 + 1); have y2 := (HP1.out w1 HB1.out).2.cells.2.2.2 (i * 3 + 2)))
  all_goals
    obtain ⟨W2, hW2⟩ : ∃ W2, W2 = ((w1.setCell ⟨g, i * 3, none⟩ (.int .i64 32)).setCell ⟨g, i * 3 + 1, none⟩ (.int .i64 (t1 : Int))).setCell ⟨g, i * 3 + 2, none⟩ (.int .u64 (t2 : Int)) := ⟨_, rfl⟩
    rw [← hW2]
    have HK : Hid (IxB W2 P B (.slice (some ⟨g, 0, none⟩) N cap) n c Bs1 ∧ Chg W W2 (fun k => k = g)) := HP2.out w1 W2 HB1.out hW2
    clear HP1 HP2 HN1 HB1 x0 x1 x2 y0 y1 y2 hW2 c2 e1 d2
    have c2 : W2.cell? ⟨P, 2, none⟩ = some (.slice (some ⟨g, 0, none⟩) N cap) := HK.out.1.cells.2.2.1
    go_upto_region 2 with fail
    go_region_with (first | (go_at_call 56; refine (HN2.out _).mono ?_; rintro e w3 ⟨rfl, hb3⟩; have HB3 : Hid (Below W2.heap.size W2 w3) := below_undrew hb3; clear hb3; have c3 : ∀ o : Obj, (w3.alloc o).cell? ⟨P, 2, none⟩ = some (.slice (some ⟨g, 0, none⟩) N cap) := fun o => (HK.out.1.keep (Q := fun _ => False) (cg_below (HB3.out.alloc HB3.out.size o) _) (fun _ _ h => h)).cells.2.2.1; have c2 : w3.cell? ⟨P, 2, none⟩ = some (.slice (some ⟨g, 0, none⟩) N cap) := (HK.out.1.keep (Q := fun _ => False) (cg_below HB3.out _) (fun _ _ h => h)).cells.2.2.1) | (go_at_call 57; refine (HP3.out W2 w3 HK.out.1 HK.out.2 HB3.out).mono ?_; rintro e w5 ⟨g', cap', rfl, z1, z2, z3⟩; have HZ : Hid (CutP P B (.slice (some ⟨g, 0, none⟩) N cap) n c (cutB Bs i) W (w5.setCell ⟨P, 2, none⟩ (.slice (some ⟨g', 0, none⟩) (N + 1) cap'))) := z3; clear z3))
    all_goals
      go_wp2
      go_end0
      exact ⟨rfl, HZ.out⟩
end Go.Proofs.YtlelbepfkkaojaaDoor
