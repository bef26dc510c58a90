/- The walks of an index's Set, split, Insert. -/
import Derived.Test.YtlelbepfkkaojaaDoorIxD
import Derived.Test.YtlelbepfkkaojaaDoorIxI
import Derived.Deep.RegionWith
namespace Go.Proofs.YtlelbepfkkaojaaDoor
open Go.RowKit
set_option linter.unusedVariables false
set_option linter.unusedSimpArgs false

theorem ix_cell0 {W : World} {P B n c : Nat} {v : Value} {Bs : List (List Bool)} (h : IxB W P B v n c Bs) (n' : Nat) : IxB (W.setCell ⟨P, 0, none⟩ (.int .i64 (n' : Int))) P B v n' c Bs :=
  ⟨heap_setX W P 0 _ _ _ _ h.1, cg_own (cg_set W P 0 _) h.2.1 (fun k hk e => h.2.2.1 (e ▸ hk)), h.2.2⟩
theorem ix_cell1 {W : World} {P B n c : Nat} {v : Value} {Bs : List (List Bool)} (h : IxB W P B v n c Bs) (c' : Nat) : IxB (W.setCell ⟨P, 1, none⟩ (.int .i64 (c' : Int))) P B v n c' Bs :=
  ⟨heap_setX W P 1 _ _ _ _ h.1, cg_own (cg_set W P 1 _) h.2.1 (fun k hk e => h.2.2.1 (e ▸ hk)), h.2.2⟩
/-- A block is another one. -/
theorem ix_block {W W1 : World} {P B n c g cap i : Nat} {Bs Bs' : List (List Bool)} (h : IxB W P B (.slice (some ⟨g, 0, none⟩) Bs.length cap) n c Bs) (hl : Bs'.length = Bs.length) (ho : W1.ownsRow B 77 3 (.slice (some ⟨g, 0, none⟩) Bs.length cap) Bs.length (flatB Bs')) (hc : Chg W W1 (fun k => k = g)) : IxB W1 P B (.slice (some ⟨g, 0, none⟩) Bs.length cap) n c Bs' :=
  ⟨cg_heap hc h.1 (fun e => h.2.2.1 (by rw [e]; rfl)), by rw [hl]; exact ho, h.2.2⟩
/-- What Set and Insert leave. -/
def PutP (P B : Nat) (v : Value) (L : List Bool) (W : World) (w' : World) : Prop := ∃ v', IxAt w' P B v' L ∧ Chg W w' (OwnX P v) ∧ AtX W v.ownBlock v'
set_option maxHeartbeats 4000000 in
theorem setX_any (P B : Nat) (v : Value) (L : List Bool) (n : Nat) (b : Bool) (W : World) (h : IxAt W P B v L) (hL : L.length ≤ 100000) (hn : n < L.length) :
    Calls Tryd.prog 39 #[.pointer (some ⟨P, 0, none⟩), .int .i64 (n : Int), .bool b] W fun e w' => e = .returned (.bool true) ∧ PutP P B v (L.set n b) W w' := by
  obtain ⟨Bs, hg, hf, hx⟩ := h
  have hbl := blocks_le hg hf
  have hlen : (L.set n b).length = L.length := by simp
  have HH : Hid (Calls Tryd.prog 43 #[.pointer (some ⟨P, 0, none⟩), .int .i64 (n : Int)] W fun e w' => e = .returned (.bool true) ∧ w' = W) := by
    have := thas_any L.length (n : Int) P 0 W hx.cells.1
    have e : hasI L.length (n : Int) = true := by unfold hasI; rw [decide_eq_true (by omega), decide_eq_true (by omega)]; rfl
    rw [e] at this
    exact this
  obtain ⟨c0, c1, c2, fz⟩ := hx.cells
  obtain ⟨i, p, f1, f2, f3, f4⟩ := fnd_in Bs n (by rw [hf]; omega)
  have HF : Hid (Calls Tryd.prog 44 #[.pointer (some ⟨P, 0, none⟩), .int .i64 (n : Int)] W fun e w' => e = .returned (.tuple #[.int .i64 (i : Int), .int .i64 (p : Int)]) ∧ w' = W) := by
    have := find_any P B _ _ v Bs (n : Int) W hx (by omega) (by omega) (by omega)
    rw [f1] at this
    exact this
  obtain ⟨g, cap, A, D, rfl, hb, _, hcap, hcm, hback⟩ := own_blk hx.2.1 i f2
  obtain ⟨d, hd⟩ : ∃ d : Int, d = (cnt ((Bs.getD i []).set p b) : Int) - (cnt (Bs.getD i []) : Int) := ⟨_, rfl⟩
  have hcs := cnt_set (Bs.getD i []) p b f3
  have hcL := cnt_set L n b hn
  have hgd : L.getD n false = (Bs.getD i []).getD p false := by rw [← getD_flat Bs i p f2 f3, ← f4, hf]
  rw [hgd] at hcL
  have hcl := cnt_le (L.set n b)
  rw [List.length_set] at hcl
  have hw : wrap64 ((cnt L : Int) + d) = (cnt (L.set n b) : Int) := by rw [hd]; unfold wrap64; omega
  have HS : Hid (∀ q, Calls Tryd.prog 51 #[.pointer (some ⟨g, i * 3, none⟩), .int .i64 (p : Int), .bool b] (W.drewN q) fun e w' => e = .returned (.int .i64 d) ∧ IxB w' P B (.slice (some ⟨g, 0, none⟩) Bs.length cap) L.length (cnt L) (Bs.set i ((Bs.getD i []).set p b)) ∧ Chg W w' (fun k => k = g)) := by
    intro q
    refine (set_any (Bs.getD i []) p b g (i * 3) A D (W.drewN q) f3 (good_at hg i f2).2 hb).mono ?_
    rintro e w' ⟨rfl, r1, r2⟩
    exact ⟨ret_int hd.symm, ix_block (i := i) hx (by simp) (hback w' _ r1) r2, r2⟩
  have HFIN : Hid (∀ w1, IxB w1 P B (.slice (some ⟨g, 0, none⟩) Bs.length cap) L.length (cnt L) (Bs.set i ((Bs.getD i []).set p b)) → Chg W w1 (fun k => k = g) → PutP P B (.slice (some ⟨g, 0, none⟩) Bs.length cap) (L.set n b) W (w1.setCell ⟨P, 1, none⟩ (.int .i64 (cnt (L.set n b) : Int)))) := by
    intro w1 k1 k2
    refine ⟨_, ⟨_, good_set hg i ((Bs.getD i []).set p b) (by rw [List.length_set]; exact good_at hg i f2), ?_, ?_⟩, cg_trans (cg_trans (Q := OwnX P (.slice (some ⟨g, 0, none⟩) Bs.length cap)) (cg_refl W _) k2 (fun k _ r => .inr (by rw [r]; rfl))) (cg_set w1 P 1 _) (fun k _ r => .inl r), fun k hk => .inl hk⟩
    · rw [set_flat Bs i p b f2 f3, hf, ← f4]
    · rw [hlen]
      exact ix_cell1 k1 _
  have hi0 : (0 : Int) ≤ (i : Int) := by omega
  have hi1 : (i : Int) < (Bs.length : Int) := by omega
  have f1 := fz 1
  clear hx hg hf hL hbl f2 f3 f4 hb hcap hback hd hcs hcL hgd hcl fz
  generalize cnt L = x at c1 hw HS HFIN
  generalize cnt (L.set n b) = y at hw HFIN
  go_enter Tryd.func39, Tryd.ntmps39
  have hw2 : IntKind.i64.wrap ((x : Int) + d) = (y : Int) := by rw [← hw]; unfold wrap64; exact IntKind.wrap_i64 _
  go_upto_region 4 with (first | (go_at_call 43; refine HH.out.mono ?_; rintro e w' ⟨rfl, rfl⟩) | (go_at_call 44; refine HF.out.mono ?_; rintro e w' ⟨rfl, rfl⟩))
  go_region_with (first | (go_at_call 51; refine (HS.out 1).mono ?_; rintro e w1 ⟨rfl, k1, k2⟩; have p1 : w1.cell? ⟨P, 1, none⟩ = some (.int .i64 (x : Int)) := k1.cells.2.1; have p2 : w1.frozen? ⟨P, 1, none⟩ = false := k1.cells.2.2.2 1; have HP := HFIN.out w1 k1 k2; have HPP : Hid (PutP P B (.slice (some ⟨g, 0, none⟩) Bs.length cap) (L.set n b) _ (w1.setCell ⟨P, 1, none⟩ (.int .i64 (y : Int)))) := HP; clear HP k1 k2))
  all_goals
    try rw [hw2]
    go_wp2
    go_ret
    exact ⟨rfl, HPP.out⟩
/-- No mark there. -/
theorem setX_none (P B : Nat) (v : Value) (L : List Bool) (n : Int) (b : Bool) (W : World) (h : IxAt W P B v L) (hn : ¬ (0 ≤ n ∧ n < (L.length : Int))) :
    Calls Tryd.prog 39 #[.pointer (some ⟨P, 0, none⟩), .int .i64 n, .bool b] W fun e w' => e = .returned (.bool false) ∧ w' = W := by
  obtain ⟨Bs, hg, hf, hx⟩ := h
  have HH : Hid (Calls Tryd.prog 43 #[.pointer (some ⟨P, 0, none⟩), .int .i64 n] W fun e w' => e = .returned (.bool false) ∧ w' = W) := by
    have := thas_any L.length n P 0 W hx.cells.1
    have e : hasI L.length n = false := by
      unfold hasI
      rw [← Bool.decide_and]
      exact decide_eq_false hn
    rw [e] at this
    exact this
  clear hx hg hf hn
  go_enter Tryd.func39, Tryd.ntmps39
  go_wp2_with (first | (go_at_call 43; refine HH.out.mono ?_; rintro e w' ⟨rfl, rfl⟩))
  go_ret
  exact ⟨rfl, rfl⟩
end Go.Proofs.YtlelbepfkkaojaaDoor
