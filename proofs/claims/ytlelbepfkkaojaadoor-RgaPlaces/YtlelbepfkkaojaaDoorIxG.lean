/- The walk of an index's Insert. -/
import Derived.Test.YtlelbepfkkaojaaDoorIxF
namespace Go.Proofs.YtlelbepfkkaojaaDoor
open Go.RowKit
set_option linter.unusedVariables false
set_option linter.unusedSimpArgs false

/-- Where Insert comes to, in an index that has marks: the block of the mark ahead. -/
theorem fnd_ahead (Bs : List (List Bool)) (hg : GoodB Bs) (a : Nat) (ha : a ≤ Bs.flatten.length) (hne : 0 < Bs.length) :
    ∃ (i p : Nat), fnd Bs ((a : Int) - 1) = (i, (p : Int) - 1) ∧ i < Bs.length ∧ p ≤ (Bs.getD i []).length ∧ a = (Bs.take i).flatten.length + p ∧ (1 ≤ p ∨ i = 0 ∧ p = 0) := by
  rcases Nat.eq_zero_or_pos a with rfl | h0
  · refine ⟨0, 0, ?_, hne, by omega, by simp, .inr ⟨rfl, rfl⟩⟩
    cases Bs with
    | nil => simp at hne
    | cons b r =>
      have := (hg b (by simp)).1
      rw [fnd, if_pos (by omega)]
  · obtain ⟨i, p, h1, h2, h3, h4⟩ := fnd_in Bs (a - 1) (by omega)
    refine ⟨i, p + 1, ?_, h2, by omega, by omega, .inl (by omega)⟩
    rw [show (a : Int) - 1 = ((a - 1 : Nat) : Int) by omega, h1]
    congr 1
    omega
theorem good_ins {Bs : List (List Bool)} {i : Nat} (h : ∀ b ∈ Bs, b.length ≤ 64) (hz : ∀ j, j < Bs.length → j ≠ i → 1 ≤ (Bs.getD j []).length) (hi : i < Bs.length) (b : List Bool) (hb : 1 ≤ b.length ∧ b.length ≤ 64) : GoodB (Bs.set i b) := by
  intro x hx
  obtain ⟨j, hj, rfl⟩ := List.mem_iff_getElem.1 hx
  rw [List.getElem_set]
  split
  · exact hb
  · rename_i hne
    have hj' : j < Bs.length := by simpa using hj
    have := hz j hj' (fun e => hne e.symm)
    simp [hj'] at this
    exact ⟨this, h _ (List.getElem_mem hj')⟩
/-- What there is ahead of Insert's last part: a block that is not full, and the place in it. -/
def Rdy (P B : Nat) (v : Value) (L : List Bool) (a : Nat) (W w : World) (v' : Value) (Bs : List (List Bool)) (i p : Nat) : Prop :=
  IxB w P B v' L.length (cnt L) Bs ∧ (∀ b ∈ Bs, b.length ≤ 64) ∧ (∀ j, j < Bs.length → j ≠ i → 1 ≤ (Bs.getD j []).length) ∧ Bs.flatten = L ∧ i < Bs.length ∧ p ≤ (Bs.getD i []).length ∧ (Bs.getD i []).length < 64 ∧ a = (Bs.take i).flatten.length + p ∧ Chg W w (OwnX P v) ∧ AtX W v.ownBlock v' ∧ Bs.length ≤ 100001
theorem rdy_put {P B : Nat} {v v' : Value} {L : List Bool} {a : Nat} {W w : World} {Bs : List (List Bool)} {i p g cap : Nat} (h : Rdy P B v L a W w (.slice (some ⟨g, 0, none⟩) Bs.length cap) Bs i p) (b : Bool) (w1 : World)
    (ho : w1.ownsRow B 77 3 (.slice (some ⟨g, 0, none⟩) Bs.length cap) Bs.length (flatB (Bs.set i (ins (Bs.getD i []) p b)))) (hc : Chg (w.setCell ⟨P, 0, none⟩ (.int .i64 ((L.length + 1 : Nat) : Int))) w1 (fun k => k = g)) (hL : a ≤ L.length) (hPW : P < W.heap.size) :
    IxB w1 P B (.slice (some ⟨g, 0, none⟩) Bs.length cap) (L.length + 1) (cnt L) (Bs.set i (ins (Bs.getD i []) p b)) ∧ PutP P B v (ins L a b) W (w1.setCell ⟨P, 1, none⟩ (.int .i64 (cnt (ins L a b) : Int))) := by
  obtain ⟨hx, h1, h2, hf, hi, hp, hl, ha, hcg, hat, _⟩ := h
  have k0 := ix_cell0 hx (L.length + 1)
  have k1 : IxB w1 P B (.slice (some ⟨g, 0, none⟩) Bs.length cap) (L.length + 1) (cnt L) (Bs.set i (ins (Bs.getD i []) p b)) := ix_block (i := i) k0 (by simp) ho hc
  have hil := ins_len (Bs.getD i []) p b hp
  refine ⟨k1, _, ⟨_, good_ins h1 h2 hi (ins (Bs.getD i []) p b) (by omega), ?_, ?_⟩, ?_, hat⟩
  · rw [ins_flat Bs i p b hi hp, hf, ← ha]
  · have := ins_len L a b hL
    rw [this]
    exact ix_cell1 k1 _
  · have hgo : ∀ k, k < W.heap.size → k = g → OwnX P v k := by
      intro k hk e
      rcases hat g rfl with r | r
      · exact .inr (e ▸ r)
      · omega
    exact cg_trans (cg_trans (cg_trans hcg (cg_set w P 0 _) (fun k _ r => .inl r)) hc hgo) (cg_set w1 P 1 _) (fun k _ r => .inl r)
/-- Insert's last part, from region 9 on. -/
def InsQ (P B : Nat) (v : Value) (L : List Bool) (b : Bool) (a : Nat) (W : World) (e : Ending) (w' : World) : Prop := e = .returned (.bool true) ∧ PutP P B v (ins L a b) W w'
theorem insX_none (P B : Nat) (v : Value) (L : List Bool) (n : Int) (b : Bool) (W : World) (h : IxAt W P B v L) (hn : ¬ (0 ≤ n ∧ n ≤ (L.length : Int))) :
    Calls Tryd.prog 38 #[.pointer (some ⟨P, 0, none⟩), .int .i64 n, .bool b] W fun e w' => e = .returned (.bool false) ∧ w' = W := by
  obtain ⟨Bs, hg, hf, hx⟩ := h
  have HH : Hid (Calls Tryd.prog 41 #[.pointer (some ⟨P, 0, none⟩)] W fun e w' => e = .returned (.int .i64 (L.length : Int)) ∧ w' = W) := tlen_any _ P 0 W hx.cells.1
  clear hx hg hf
  by_cases h0 : n < 0
  · have hd : decide (n < 0) = true := by simpa using h0
    clear hn h0
    go_enter Tryd.func38, Tryd.ntmps38
    go_wp2
    go_ret
    exact ⟨rfl, rfl⟩
  · have hd : decide (n < 0) = false := by simpa using h0
    have h1 : (L.length : Int) < n := by omega
    have hd1 : decide ((L.length : Int) < n) = true := by simpa using h1
    clear hn
    generalize (L.length : Int) = N at HH h1 hd1
    go_enter Tryd.func38, Tryd.ntmps38
    go_wp2_with (first | (go_at_call 41; refine HH.out.mono ?_; rintro e w' ⟨rfl, rfl⟩))
    go_ret
    exact ⟨rfl, rfl⟩
theorem ins_call {P B : Nat} {v : Value} {L : List Bool} {a : Nat} {W w : World} {Bs : List (List Bool)} {i p g cap : Nat} (h : Rdy P B v L a W w (.slice (some ⟨g, 0, none⟩) Bs.length cap) Bs i p) (b : Bool) (hL : a ≤ L.length) (hPW : P < W.heap.size) (q : Nat) :
    Calls Tryd.prog 50 #[.pointer (some ⟨g, i * 3, none⟩), .int .i64 (p : Int), .bool b] ((w.setCell ⟨P, 0, none⟩ (.int .i64 ((L.length + 1 : Nat) : Int))).drewN q) fun e w' => e = .returned (.int .i64 ((b.toNat : Nat) : Int)) ∧ w'.cell? ⟨P, 1, none⟩ = some (.int .i64 (cnt L : Int)) ∧ w'.frozen? ⟨P, 1, none⟩ = false ∧ PutP P B v (ins L a b) W (w'.setCell ⟨P, 1, none⟩ (.int .i64 (cnt (ins L a b) : Int))) := by
  have k0 := ix_cell0 h.1 (L.length + 1)
  obtain ⟨g', cap', A, D, hv, hb, _, hcap, hcm, hback⟩ := own_blk k0.2.1 i h.2.2.2.2.1
  cases hv
  refine (insertB_any (Bs.getD i []) p b g (i * 3) A D ((w.setCell ⟨P, 0, none⟩ (.int .i64 ((L.length + 1 : Nat) : Int))).drewN q) h.2.2.2.2.2.1 h.2.2.2.2.2.2.1 hb).mono ?_
  rintro e w' ⟨rfl, r1, r2⟩
  obtain ⟨k1, k2⟩ := rdy_put (v' := v) h b w' (hback w' _ r1) r2 hL hPW
  exact ⟨rfl, k1.cells.2.1, k1.cells.2.2.2 1, k2⟩
theorem tail_facts {P B : Nat} {v : Value} {L : List Bool} {a : Nat} {W w : World} {Bs : List (List Bool)} {i p g cap : Nat} (h : Rdy P B v L a W w (.slice (some ⟨g, 0, none⟩) Bs.length cap) Bs i p) (b : Bool) (hL : a ≤ L.length) (hl : L.length ≤ 100000) (hPW : P < W.heap.size) :
    ∃ W9, w.setCell ⟨P, 0, none⟩ (.int .i64 ((L.length : Int) + 1)) = W9 ∧ w.cell? ⟨P, 0, none⟩ = some (.int .i64 (L.length : Int)) ∧ w.frozen? ⟨P, 0, none⟩ = false ∧ W9.cell? ⟨P, 1, none⟩ = some (.int .i64 (cnt L : Int)) ∧ W9.cell? ⟨P, 2, none⟩ = some (.slice (some ⟨g, 0, none⟩) Bs.length cap) ∧ W9.frozen? ⟨P, 1, none⟩ = false ∧
      (∀ q, Calls Tryd.prog 50 #[.pointer (some ⟨g, i * 3, none⟩), .int .i64 (p : Int), .bool b] (W9.drewN q) fun e w' => e = .returned (.int .i64 ((b.toNat : Nat) : Int)) ∧ w'.cell? ⟨P, 1, none⟩ = some (.int .i64 (cnt L : Int)) ∧ w'.frozen? ⟨P, 1, none⟩ = false ∧ PutP P B v (ins L a b) W (w'.setCell ⟨P, 1, none⟩ (.int .i64 (cnt (ins L a b) : Int)))) ∧
      IntKind.i64.wrap ((p : Int) - 1 + 1) = (p : Int) ∧ IntKind.i64.wrap (p : Int) = (p : Int) ∧ IntKind.i64.wrap ((cnt L : Int) + ((b.toNat : Nat) : Int)) = (cnt (ins L a b) : Int) ∧ (L.length : Int) + 1 ≤ 100001 ∧ (0 : Int) ≤ (i : Int) ∧ (i : Int) < (Bs.length : Int) := by
  have h2 := h.2.2.2.2.2.1
  have h3 := h.2.2.2.2.2.2.1
  have h4 := h.2.2.2.2.1
  have h5 := cnt_ins L a b
  have h6 := cnt_le L
  have h7 := toNat_le1 b
  have hk := ix_cell0 h.1 (L.length + 1)
  refine ⟨w.setCell ⟨P, 0, none⟩ (.int .i64 ((L.length + 1 : Nat) : Int)), rfl, h.1.cells.1, h.1.cells.2.2.2 0, hk.cells.2.1, hk.cells.2.2.1, hk.cells.2.2.2 1, fun q => ins_call h b hL hPW q, by rw [IntKind.wrap_i64]; omega, by rw [IntKind.wrap_i64]; omega, by rw [IntKind.wrap_i64, h5]; omega, by omega, by omega, by omega⟩
set_option maxHeartbeats 8000000 in
theorem insX_room (P B : Nat) (v : Value) (L : List Bool) (a : Nat) (b : Bool) (W : World) (Bs : List (List Bool)) (hg : GoodB Bs) (hf : Bs.flatten = L) (hx : IxB W P B v L.length (cnt L) Bs) (hL : L.length ≤ 100000) (hn : a ≤ L.length) (hB : B ≤ W.heap.size) (i p : Nat) (f1 : fnd Bs ((a : Int) - 1) = (i, (p : Int) - 1)) (f2 : i < Bs.length) (f3 : p ≤ (Bs.getD i []).length) (f4 : a = (Bs.take i).flatten.length + p) (h64 : (Bs.getD i []).length < 64) :
    Calls Tryd.prog 38 #[.pointer (some ⟨P, 0, none⟩), .int .i64 (a : Int), .bool b] W (InsQ P B v L b a W) := by
  have HH : Hid (Calls Tryd.prog 41 #[.pointer (some ⟨P, 0, none⟩)] W fun e w' => e = .returned (.int .i64 (L.length : Int)) ∧ w' = W) := tlen_any _ P 0 W hx.cells.1
  have hd : decide ((a : Int) < 0) = false := by apply decide_eq_false; omega
  have hd1 : decide ((L.length : Int) < (a : Int)) = false := by apply decide_eq_false; omega
  have hd2 : decide (L.length < a) = false := by apply decide_eq_false; omega
  have hPW : P < W.heap.size := (Array.getElem?_eq_some_iff.1 hx.1).1
  have hw1 : IntKind.i64.wrap ((a : Int) - 1) = (a : Int) - 1 := by rw [IntKind.wrap_i64]; omega
  obtain ⟨c0, c1, c2, fz⟩ := hx.cells
  have HL : Hid (a ≤ L.length ∧ L.length ≤ 100000 ∧ P < W.heap.size) := ⟨hn, hL, hPW⟩
  have hbl := blocks_le hg hf
  obtain ⟨g, cap, A, D, rfl, hb, _, hcap, hcm, hback⟩ := own_blk hx.2.1 i f2
  have HRD : Hid (Rdy P B (.slice (some ⟨g, 0, none⟩) Bs.length cap) L a W W (.slice (some ⟨g, 0, none⟩) Bs.length cap) Bs i p) :=
    ⟨hx, fun b hb => (hg b hb).2, fun j hj _ => (good_at hg j hj).1, hf, f2, f3, h64, f4, cg_refl W _, fun k hk => .inl hk, by omega⟩
  have HF : Hid (Calls Tryd.prog 44 #[.pointer (some ⟨P, 0, none⟩), .int .i64 ((a : Int) - 1)] W fun e w' => e = .returned (.tuple #[.int .i64 (i : Int), .int .i64 ((p : Int) - 1)]) ∧ w' = W) := by
    have := find_any P B _ _ (.slice (some ⟨g, 0, none⟩) Bs.length cap) Bs ((a : Int) - 1) W hx (by omega) (by omega) (by omega)
    rw [f1] at this
    exact this
  have HLN : Hid (Calls Tryd.prog 41 #[.pointer (some ⟨g, i * 3, none⟩)] W fun e w' => e = .returned (.int .i64 ((Bs.getD i []).length : Int)) ∧ w' = W) := tlen_any _ g (i * 3) W hb.cells.1
  have hne : ((i : Int) == (Bs.length : Int)) = false := by rw [beq_eq_false_iff_ne]; omega
  have hn64 : (((Bs.getD i []).length : Int) == 64) = false := by rw [beq_eq_false_iff_ne]; omega
  obtain ⟨NN, hNN⟩ : ∃ NN, NN = Bs.length := ⟨_, rfl⟩
  clear hx hg hf hL hbl f1 f2 f3 f4 hb hback h64 hcap hn hPW c0 c1 fz hB
  obtain ⟨W9, hW9, hx1, hx2, y1, y2, y3, hic, hwp, hwp2, hws, hwl, hi0, hi1⟩ := tail_facts HRD.out b HL.out.1 HL.out.2.1 HL.out.2.2
  have HIC : Hid (∀ q, Calls Tryd.prog 50 #[.pointer (some ⟨g, i * 3, none⟩), .int .i64 (p : Int), .bool b] (W9.drewN q) fun e w' => e = .returned (.int .i64 ((b.toNat : Nat) : Int)) ∧ w'.cell? ⟨P, 1, none⟩ = some (.int .i64 (cnt L : Int)) ∧ w'.frozen? ⟨P, 1, none⟩ = false ∧ PutP P B (.slice (some ⟨g, 0, none⟩) Bs.length cap) (ins L a b) W (w'.setCell ⟨P, 1, none⟩ (.int .i64 (cnt (ins L a b) : Int)))) := hic
  clear hic
  rw [← hNN] at y2 hi1
  generalize cnt (ins L a b) = xs at hws HIC
  generalize cnt L = xc at hws HIC y1
  generalize ((b.toNat : Nat) : Int) = xb at hws HIC
  rw [← hNN] at c2 hne
  clear hNN HRD HL
  generalize ((Bs.getD i []).length : Int) = ly at HLN hn64
  go_enter Tryd.func38, Tryd.ntmps38
  go_upto_region 9 with (first | (go_at_call_of 41 (Value.pointer (some ⟨P, 0, none⟩)); refine HH.out.mono ?_; rintro e w' ⟨rfl, hw⟩; have hw := hw.symm; subst hw) | (go_at_call 44; refine HF.out.mono ?_; rintro e w' ⟨rfl, hw⟩; have hw := hw.symm; subst hw) | (go_at_call 41; refine HLN.out.mono ?_; rintro e w' ⟨rfl, hw⟩; have hw := hw.symm; subst hw))
  clear HF HLN HH hd hd1 hd2 hw1 hne hn64 c2
  go_upto_region 10 with fail
  try rw [hW9]
  clear hW9 hx1 hx2
  go_region_with (first | (go_at_call 50; refine (HIC.out 1).mono ?_; rintro e w1 ⟨rfl, z1, z2, z3⟩; have HZ : Hid (PutP P B (.slice (some ⟨g, 0, none⟩) Bs.length cap) (ins L a b) W (w1.setCell ⟨P, 1, none⟩ (.int .i64 (xs : Int)))) := z3; clear z3))
  all_goals
    try rw [hws]
    go_wp2
    go_ret
    exact ⟨rfl, HZ.out⟩
theorem own_alloc' {w : World} {B : Nat} {e : TypeId} {size : Nat} {v : Value} {n : Nat} {xs : List Value} (h : w.ownsRow B e size v n xs) (o : Obj) : (w.alloc o).ownsRow B e size v n xs :=
  cg_own (cg_below ((Below.refl _ w).alloc (Nat.le_refl _) o) (fun _ => False)) h (fun _ _ h => h)
theorem app_facts {P B : Nat} {v : Value} {W W1 w' : World} {g cap : Nat} (h : IxB W P B v 0 0 []) (hW1 : W1 = W.alloc (.cells #[.int .i64 0, .int .i64 0, .int .u64 0] 77))
    (h1 : w'.ownsRow B 77 3 (.slice (some ⟨g, 0, none⟩) (0 + 1) cap) (0 + 1) ([] ++ encB [])) (h2 : W1.grownBy w' v.ownBlock) (h3 : v.ownBlock = some g ∨ g = W1.heap.size) :
    w'.cell? ⟨P, 2, none⟩ = some v ∧ w'.frozen? ⟨P, 2, none⟩ = false ∧ Rdy P B v [] 0 W (w'.setCell ⟨P, 2, none⟩ (.slice (some ⟨g, 0, none⟩) 1 cap)) (.slice (some ⟨g, 0, none⟩) [([] : List Bool)].length cap) [[]] 0 0 := by
  have b1 : Below W.heap.size W W1 := by rw [hW1]; exact (Below.refl _ W).alloc (Nat.le_refl _) _
  have hc : Chg W w' (fun k => v.ownBlock = some k) := cg_trans (cg_below b1 _) (cg_gb h2) (fun k _ r => r)
  have hP := cg_heap hc h.1 h.2.2.1
  have hPW : P < W.heap.size := (Array.getElem?_eq_some_iff.1 h.1).1
  have hs : W.heap.size < W1.heap.size := by rw [hW1]; simp
  have hne : g ≠ P := fun e => by
    rcases h3 with r | r
    · exact h.2.2.1 (e ▸ r)
    · omega
  refine ⟨cell_of_row w' P 2 _ _ _ hP, Lib.frozen_of_heap hP _, ⟨?_, ?_, ?_, h.2.2.2⟩, fun b hb => ?_, fun j hj hj2 => ?_, rfl, by simp, by simp, by simp, by simp, ?_, ?_, by simp⟩
  · rw [heap_setX w' P 2 _ _ _ _ hP]; rfl
  · exact cg_own (cg_set w' P 2 _) (v := .slice (some ⟨g, 0, none⟩) 1 cap) h1 (fun k hk e => hne (by rw [← e]; exact Option.some.inj hk))
  · exact fun e => hne (Option.some.inj e)
  · simp at hb; subst hb; simp
  · simp at hj; omega
  · exact cg_trans (cg_trans (Q := OwnX P v) (cg_refl W _) hc (fun k _ r => .inr r)) (cg_set w' P 2 _) (fun k _ r => .inl r)
  · intro k hk
    have e : g = k := Option.some.inj hk
    rcases h3 with r | r
    · exact .inl (e ▸ r)
    · exact .inr (by omega)
set_option maxHeartbeats 8000000 in
theorem insX_empty (P B : Nat) (v : Value) (b : Bool) (W : World) (hx : IxB W P B v 0 0 []) (hB : B ≤ W.heap.size) :
    Calls Tryd.prog 38 #[.pointer (some ⟨P, 0, none⟩), .int .i64 0, .bool b] W (InsQ P B v [] b 0 W) := by
  have HH : Hid (Calls Tryd.prog 41 #[.pointer (some ⟨P, 0, none⟩)] W fun e w' => e = .returned (.int .i64 0) ∧ w' = W) := tlen_any _ P 0 W hx.cells.1
  have hPW : P < W.heap.size := (Array.getElem?_eq_some_iff.1 hx.1).1
  obtain ⟨c0, c1, c2, fz⟩ := hx.cells
  have HF : Hid (Calls Tryd.prog 44 #[.pointer (some ⟨P, 0, none⟩), .int .i64 (-1)] W fun e w' => e = .returned (.tuple #[.int .i64 0, .int .i64 (-1)]) ∧ w' = W) := find_any P B _ _ v [] (-1) W hx (by omega) (by omega) (by simp)
  obtain ⟨i0, hi, hz0, hz1, hz2⟩ := info_parts info_B
  have HI : Hid (Tryd.prog.info? 77 = some i0 ∧ i0.zero = some (.agg #[.int .i64 0, .int .i64 0, .int .u64 0]) ∧ i0.size = 3 ∧ i0.bytes = 24) := ⟨hi, hz0, hz1, hz2⟩
  obtain ⟨W1, hW1⟩ : ∃ W1, W1 = W.alloc (.cells #[.int .i64 0, .int .i64 0, .int .u64 0] 77) := ⟨_, rfl⟩
  have hs1 : W1.heap.size = W.heap.size + 1 := by rw [hW1]; simp
  have HO : Hid (W1.ownsRow B 77 3 v 0 []) := by
    rw [hW1]
    exact own_alloc' hx.2.1 _
  have HN : Hid (∀ j u, (encB [])[j]? = some u → W1.cell? ((⟨W.heap.size, 0, none⟩ : Addr).add j) = some u) := by
    intro j u hu
    rw [add_lit]
    exact news_B (by rw [hW1]; exact heap_alloc_new W _) j u hu
  have HB1 : Hid (B ≤ W1.heap.size) := by show B ≤ _; omega
  have HAP : Hid (∀ g cap w', w'.ownsRow B 77 3 (.slice (some ⟨g, 0, none⟩) (0 + 1) cap) (0 + 1) ([] ++ encB []) → W1.grownBy w' v.ownBlock → (v.ownBlock = some g ∨ g = W1.heap.size) → w'.cell? ⟨P, 2, none⟩ = some v ∧ w'.frozen? ⟨P, 2, none⟩ = false ∧ Rdy P B v [] 0 W (w'.setCell ⟨P, 2, none⟩ (.slice (some ⟨g, 0, none⟩) 1 cap)) (.slice (some ⟨g, 0, none⟩) [([] : List Bool)].length cap) [[]] 0 0) := fun g cap w' h1 h2 h3 => app_facts hx hW1 h1 h2 h3
  have HL : Hid (0 ≤ ([] : List Bool).length ∧ ([] : List Bool).length ≤ 100000 ∧ P < W.heap.size) := ⟨by simp, by simp, hPW⟩
  obtain ⟨sa, vc, rfl, hvc, hvm⟩ := own_sl hx.2.1
  have hsl : ([] : List (List Bool)).length = 0 := rfl
  rw [hsl] at c2 HO HAP ⊢
  clear hx hPW c0 c1 fz hi hz0 hz1 hz2 hvc hs1 hsl hB
  go_enter Tryd.func38, Tryd.ntmps38
  go_upto_region 5 with (first | (go_at_call_of 41 (Value.pointer (some ⟨P, 0, none⟩)); refine HH.out.mono ?_; rintro e w' ⟨rfl, hw⟩; have hw := hw.symm; subst hw) | (go_at_call 44; refine HF.out.mono ?_; rintro e w' ⟨rfl, hw⟩; have hw := hw.symm; subst hw))
  clear HF HH
  go_upto_region 6 with (at_builtin; rw [← hW1]; refine wpList_append_lies _ rfl _ _ 60 rfl B 77 i0 _ 3 24 Tryd.underlying60 HI.out.1 HI.out.2.1 HI.out.2.2.1 HI.out.2.2.2 rfl (by decide) (.slice sa 0 vc) 0 [] rfl HO.out ⟨W.heap.size, 0, none⟩ 1 1 (encB []) rfl rfl HN.out (flatB_one' []) (by decide) (by decide) (by decide) HB1.out _ rfl (fun g cap w5 h1 h2 h3 _ => ?_); have z := HAP.out g cap w5 h1 h2 h3; have z1 := z.1; have z2 := z.2.1; have HRD : Hid (Rdy P B (.slice sa 0 vc) [] 0 W (w5.setCell ⟨P, 2, none⟩ (.slice (some ⟨g, 0, none⟩) 1 cap)) (.slice (some ⟨g, 0, none⟩) [([] : List Bool)].length cap) [[]] 0 0) := z.2.2; clear z h1 h2 h3)
  clear HAP HO HN HI HB1 hW1 c2 z1 z2
  obtain ⟨W5, hW5⟩ : ∃ W5, W5 = w5.setCell ⟨P, 2, none⟩ (.slice (some ⟨g, 0, none⟩) 1 cap) := ⟨_, rfl⟩
  rw [← hW5] at HRD ⊢
  clear hW5
  obtain ⟨W9, hW9, hx1, hx2, y1, y2, y3, hic, _, _, hws, _, _, _⟩ := tail_facts HRD.out b HL.out.1 HL.out.2.1 HL.out.2.2
  have c2 : W5.cell? ⟨P, 2, none⟩ = some (.slice (some ⟨g, 0, none⟩) 1 cap) := HRD.out.1.cells.2.2.1
  obtain ⟨g', cap', A, D, hv, hb, _⟩ := own_blk HRD.out.1.2.1 0 (by simp)
  cases hv
  have HLN : Hid (Calls Tryd.prog 41 #[.pointer (some ⟨g, 0, none⟩)] W5 fun e w' => e = .returned (.int .i64 0) ∧ w' = W5) := tlen_any _ g 0 W5 hb.cells.1
  have HIC : Hid (∀ q, Calls Tryd.prog 50 #[.pointer (some ⟨g, 0, none⟩), .int .i64 0, .bool b] (W9.drewN q) fun e w' => e = .returned (.int .i64 ((b.toNat : Nat) : Int)) ∧ w'.cell? ⟨P, 1, none⟩ = some (.int .i64 0) ∧ w'.frozen? ⟨P, 1, none⟩ = false ∧ PutP P B (.slice sa 0 vc) (ins [] 0 b) W (w'.setCell ⟨P, 1, none⟩ (.int .i64 (cnt (ins [] 0 b) : Int)))) := hic
  replace hx1 : W5.cell? ⟨P, 0, none⟩ = some (.int .i64 0) := hx1
  replace hW9 : W5.setCell ⟨P, 0, none⟩ (.int .i64 1) = W9 := hW9
  replace y1 : W9.cell? ⟨P, 1, none⟩ = some (.int .i64 0) := y1
  replace y2 : W9.cell? ⟨P, 2, none⟩ = some (.slice (some ⟨g, 0, none⟩) 1 cap) := y2
  replace hws : IntKind.i64.wrap ((0 : Int) + ((b.toNat : Nat) : Int)) = (cnt (ins [] 0 b) : Int) := hws
  have hws2 : IntKind.i64.wrap ((b.toNat : Nat) : Int) = (cnt (ins [] 0 b) : Int) := by rw [← hws, Int.zero_add]
  clear hic HRD HL hb
  generalize cnt (ins [] 0 b) = xs at hws hws2 HIC
  generalize ((b.toNat : Nat) : Int) = xb at hws hws2 HIC
  go_upto_region 9 with (first | (go_at_call 41; refine HLN.out.mono ?_; rintro e w' ⟨rfl, hw⟩; have hw := hw.symm; subst hw))
  clear HLN c2
  go_upto_region 10 with fail
  try rw [hW9]
  clear hW9 hx1 hx2
  go_region_with (first | (go_at_call 50; refine (HIC.out 1).mono ?_; rintro e w1 ⟨rfl, z1, z2, z3⟩; have HZ : Hid (PutP P B (.slice sa 0 vc) (ins [] 0 b) W (w1.setCell ⟨P, 1, none⟩ (.int .i64 (xs : Int)))) := z3; clear z3))
  all_goals
    (try rw [hws]); (try rw [hws2])
    go_wp2
    go_ret
    exact ⟨rfl, HZ.out⟩
theorem cut_take (Bs : List (List Bool)) (i j : Nat) (hi : i < Bs.length) : (j ≤ i → (cutB Bs i).take j = Bs.take j) ∧ (i + 2 ≤ j → ((cutB Bs i).take j).flatten = (Bs.take (j - 1)).flatten) := by
  have ht : (Bs.take i).length = i := by rw [List.length_take]; omega
  unfold cutB
  constructor
  · intro h
    rw [List.take_append_of_le_length (by omega), List.take_take, Nat.min_eq_left h]
  · intro h
    have e : Bs.take (j - 1) = Bs.take i ++ Bs.getD i [] :: (Bs.drop (i + 1)).take (j - 2 - i) := by
      have h2 := rows_at Bs i hi
      generalize hD : Bs.drop (i + 1) = D at h2
      generalize hT : Bs.take i = T at h2 ht
      generalize Bs.getD i [] = x at h2
      subst h2
      rw [List.take_append, List.take_of_length_le (by omega), ht, show j - 1 - i = (j - 2 - i) + 1 by omega, List.take_succ_cons]
    rw [e, List.take_append, List.take_of_length_le (by omega), ht, show j - i = (j - 2 - i) + 1 + 1 by omega, List.take_succ_cons, List.take_succ_cons]
    simp only [List.flatten_append, List.flatten_cons]
    rw [← List.append_assoc ((Bs.getD i []).take 32), List.take_append_drop]
theorem take_mono (Bs : List (List Bool)) : (j k : Nat) → j ≤ k → (Bs.take j).flatten.length ≤ (Bs.take k).flatten.length := by
  intro j k h
  have e : Bs.take j = (Bs.take k).take j := by rw [List.take_take, Nat.min_eq_left h]
  have e2 := congrArg List.length (congrArg List.flatten (List.take_append_drop j (Bs.take k)))
  rw [List.flatten_append, List.length_append, ← e] at e2
  omega
/-- In the cut row the place is in one of the halves. -/
theorem cut_place (Bs : List (List Bool)) (hg : GoodB Bs) (a i p : Nat) (ha : a ≤ Bs.flatten.length) (f2 : i < Bs.length) (f3 : p ≤ (Bs.getD i []).length) (f4 : a = (Bs.take i).flatten.length + p) (f5 : 1 ≤ p ∨ i = 0 ∧ p = 0) (h64 : (Bs.getD i []).length = 64) :
    ∃ (j r : Nat), fnd (cutB Bs i) ((a : Int) - 1) = (j, (r : Int) - 1) ∧ j < (cutB Bs i).length ∧ r ≤ ((cutB Bs i).getD j []).length ∧ ((cutB Bs i).getD j []).length < 64 ∧ a = ((cutB Bs i).take j).flatten.length + r := by
  obtain ⟨j, r, g1, g2, g3, g4, g5⟩ := fnd_ahead (cutB Bs i) (cut_good hg i f2 h64) a (by rw [cut_flat Bs i f2]; exact ha) (by rw [cut_len Bs i f2]; omega)
  refine ⟨j, r, g1, g2, g3, ?_, g4⟩
  have hgd := cut_getD Bs i j f2
  by_cases h1 : j < i
  · exfalso
    have e1 := (cut_take Bs i (j + 1) f2).1 (by omega)
    have e2 := take_snoc (cutB Bs i) j g2
    have e3 := congrArg List.length e2
    rw [e1, List.length_append] at e3
    have e4 := take_mono Bs (j + 1) i (by omega)
    omega
  · rw [if_neg h1] at hgd
    by_cases h2 : j = i
    · rw [if_pos h2] at hgd
      rw [hgd, List.length_take]; omega
    · rw [if_neg h2] at hgd
      by_cases h3 : j = i + 1
      · rw [if_pos h3] at hgd
        rw [hgd, List.length_drop]; omega
      · exfalso
        have e1 := (cut_take Bs i j f2).2 (by omega)
        rw [e1] at g4
        have e2 := take_snoc Bs i f2
        have e3 := congrArg List.length e2
        rw [List.length_append] at e3
        have e4 := take_mono Bs (i + 1) (j - 1) (by omega)
        omega
set_option maxHeartbeats 8000000 in
theorem insX_full (P B : Nat) (v : Value) (L : List Bool) (a : Nat) (b : Bool) (W : World) (Bs : List (List Bool)) (hg : GoodB Bs) (hf : Bs.flatten = L) (hx : IxB W P B v L.length (cnt L) Bs) (hL : L.length ≤ 100000) (hn : a ≤ L.length) (hB : B ≤ W.heap.size) (i p : Nat) (f1 : fnd Bs ((a : Int) - 1) = (i, (p : Int) - 1)) (f2 : i < Bs.length) (f3 : p ≤ (Bs.getD i []).length) (f4 : a = (Bs.take i).flatten.length + p) (f5 : 1 ≤ p ∨ i = 0 ∧ p = 0) (h64 : (Bs.getD i []).length = 64) :
    Calls Tryd.prog 38 #[.pointer (some ⟨P, 0, none⟩), .int .i64 (a : Int), .bool b] W (InsQ P B v L b a W) := by
  have HH : Hid (Calls Tryd.prog 41 #[.pointer (some ⟨P, 0, none⟩)] W fun e w' => e = .returned (.int .i64 (L.length : Int)) ∧ w' = W) := tlen_any _ P 0 W hx.cells.1
  have hd : decide ((a : Int) < 0) = false := by apply decide_eq_false; omega
  have hd1 : decide ((L.length : Int) < (a : Int)) = false := by apply decide_eq_false; omega
  have hd2 : decide (L.length < a) = false := by apply decide_eq_false; omega
  have hPW : P < W.heap.size := (Array.getElem?_eq_some_iff.1 hx.1).1
  have hw1 : IntKind.i64.wrap ((a : Int) - 1) = (a : Int) - 1 := by rw [IntKind.wrap_i64]; omega
  obtain ⟨c0, c1, c2, fz⟩ := hx.cells
  have HL : Hid (a ≤ L.length ∧ L.length ≤ 100000 ∧ P < W.heap.size) := ⟨hn, hL, hPW⟩
  have hbl := blocks_le hg hf
  obtain ⟨j, r, g1, g2, g3, g4, g5⟩ := cut_place Bs hg a i p (by rw [hf]; exact hn) f2 f3 f4 f5 h64
  have hlc := cut_len Bs i f2
  obtain ⟨g0, cap0, A, D, rfl, hb, _, hcap, hcm, hback⟩ := own_blk hx.2.1 i f2
  have HF : Hid (Calls Tryd.prog 44 #[.pointer (some ⟨P, 0, none⟩), .int .i64 ((a : Int) - 1)] W fun e w' => e = .returned (.tuple #[.int .i64 (i : Int), .int .i64 ((p : Int) - 1)]) ∧ w' = W) := by
    have := find_any P B _ _ (.slice (some ⟨g0, 0, none⟩) Bs.length cap0) Bs ((a : Int) - 1) W hx (by omega) (by omega) (by omega)
    rw [f1] at this
    exact this
  have HLN : Hid (Calls Tryd.prog 41 #[.pointer (some ⟨g0, i * 3, none⟩)] W fun e w' => e = .returned (.int .i64 64) ∧ w' = W) := by
    have := tlen_any _ g0 (i * 3) W hb.cells.1
    rw [h64] at this
    exact this
  have HSP : Hid (Calls Tryd.prog 49 #[.pointer (some ⟨P, 0, none⟩), .int .i64 (i : Int)] W fun e w' => e = .returned (.tuple #[]) ∧ ∃ g cap, Rdy P B (.slice (some ⟨g0, 0, none⟩) Bs.length cap0) L a W w' (.slice (some ⟨g, 0, none⟩) (cutB Bs i).length cap) (cutB Bs i) j r) := by
    refine (split_any P B _ _ i _ Bs W hx f2 h64 hB (by omega)).mono ?_
    rintro e w' ⟨rfl, v', q1, q2, q3⟩
    obtain ⟨g, cap, _, _, rfl, _⟩ := own_blk q1.2.1 j g2
    have hgc := cut_good hg i f2 h64
    exact ⟨rfl, g, cap, q1, fun b hb => (hgc b hb).2, fun k hk _ => (good_at hgc k hk).1, by rw [cut_flat Bs i f2]; exact hf, g2, g3, g4, g5, q2, q3, by omega⟩
  have HF2 : Hid (∀ w' g cap, Rdy P B (.slice (some ⟨g0, 0, none⟩) Bs.length cap0) L a W w' (.slice (some ⟨g, 0, none⟩) (cutB Bs i).length cap) (cutB Bs i) j r → Calls Tryd.prog 44 #[.pointer (some ⟨P, 0, none⟩), .int .i64 ((a : Int) - 1)] w' fun e w'' => e = .returned (.tuple #[.int .i64 (j : Int), .int .i64 ((r : Int) - 1)]) ∧ w'' = w') := by
    intro w' g cap h
    have := find_any P B _ _ (.slice (some ⟨g, 0, none⟩) (cutB Bs i).length cap) (cutB Bs i) ((a : Int) - 1) w' h.1 (by omega) (by omega) (by omega)
    rw [g1] at this
    exact this
  have hne : ((i : Int) == (Bs.length : Int)) = false := by rw [beq_eq_false_iff_ne]; omega
  have hii0 : (0 : Int) ≤ (i : Int) := by omega
  have hii1 : (i : Int) < (Bs.length : Int) := by omega
  clear hx hg hf hL hbl f1 f2 f3 f4 f5 hb hback h64 hcap hn hPW c0 c1 fz hB g1 g2 g3 g4 g5 hlc
  generalize Bs.length = NN at *
  go_enter Tryd.func38, Tryd.ntmps38
  go_upto_region 7 with (first | (go_at_call_of 41 (Value.pointer (some ⟨P, 0, none⟩)); refine HH.out.mono ?_; rintro e w' ⟨rfl, hw⟩; have hw := hw.symm; subst hw) | (go_at_call 44; refine HF.out.mono ?_; rintro e w' ⟨rfl, hw⟩; have hw := hw.symm; subst hw) | (go_at_call 41; refine HLN.out.mono ?_; rintro e w' ⟨rfl, hw⟩; have hw := hw.symm; subst hw))
  clear HF HLN HH hd hd1 hd2 hne c2
  go_upto_region 8 with (first | (go_at_call 49; refine HSP.out.mono ?_; rintro e w3 ⟨rfl, g, cap, hrd⟩; have HRD : Hid (Rdy P B (.slice (some ⟨g0, 0, none⟩) NN cap0) L a W w3 (.slice (some ⟨g, 0, none⟩) (cutB Bs i).length cap) (cutB Bs i) j r) := hrd; clear hrd))
  obtain ⟨N3, hN3⟩ : ∃ N3, N3 = (cutB Bs i).length := ⟨_, rfl⟩
  have HF3 : Hid (Calls Tryd.prog 44 #[.pointer (some ⟨P, 0, none⟩), .int .i64 ((a : Int) - 1)] w3 fun e w'' => e = .returned (.tuple #[.int .i64 (j : Int), .int .i64 ((r : Int) - 1)]) ∧ w'' = w3) := HF2.out w3 g cap HRD.out
  obtain ⟨W9, hW9, hx1, hx2, y1, y2, y3, hic, hwp, hwp2, hws, hwl, hi0, hi1⟩ := tail_facts HRD.out b HL.out.1 HL.out.2.1 HL.out.2.2
  have HIC : Hid (∀ q, Calls Tryd.prog 50 #[.pointer (some ⟨g, j * 3, none⟩), .int .i64 (r : Int), .bool b] (W9.drewN q) fun e w' => e = .returned (.int .i64 ((b.toNat : Nat) : Int)) ∧ w'.cell? ⟨P, 1, none⟩ = some (.int .i64 (cnt L : Int)) ∧ w'.frozen? ⟨P, 1, none⟩ = false ∧ PutP P B (.slice (some ⟨g0, 0, none⟩) NN cap0) (ins L a b) W (w'.setCell ⟨P, 1, none⟩ (.int .i64 (cnt (ins L a b) : Int)))) := hic
  clear hic
  rw [← hN3] at y2 hi1
  generalize cnt (ins L a b) = xs at hws HIC
  generalize cnt L = xc at hws HIC y1
  generalize ((b.toNat : Nat) : Int) = xb at hws HIC
  clear hN3 HRD HL HSP HF2
  go_upto_region 9 with (first | (go_at_call 44; refine HF3.out.mono ?_; rintro e w' ⟨rfl, hw⟩; have hw := hw.symm; subst hw))
  clear HF3 hw1
  go_upto_region 10 with fail
  try rw [hW9]
  clear hW9 hx1 hx2
  go_region_with (first | (go_at_call 50; refine (HIC.out 1).mono ?_; rintro e w1 ⟨rfl, z1, z2, z3⟩; have HZ : Hid (PutP P B (.slice (some ⟨g0, 0, none⟩) NN cap0) (ins L a b) W (w1.setCell ⟨P, 1, none⟩ (.int .i64 (xs : Int)))) := z3; clear z3))
  all_goals
    try rw [hws]
    go_wp2
    go_ret
    exact ⟨rfl, HZ.out⟩
theorem insX_any (P B : Nat) (v : Value) (L : List Bool) (a : Nat) (b : Bool) (W : World) (h : IxAt W P B v L) (hL : L.length ≤ 100000) (hn : a ≤ L.length) (hB : B ≤ W.heap.size) :
    Calls Tryd.prog 38 #[.pointer (some ⟨P, 0, none⟩), .int .i64 (a : Int), .bool b] W (InsQ P B v L b a W) := by
  obtain ⟨Bs, hg, hf, hx⟩ := h
  rcases Nat.eq_zero_or_pos Bs.length with h0 | h0
  · obtain rfl : Bs = [] := List.eq_nil_of_length_eq_zero h0
    have hl : L = [] := by rw [← hf]; rfl
    subst hl
    have ha : a = 0 := by simpa using hn
    subst ha
    exact insX_empty P B v b W hx hB
  · obtain ⟨i, p, f1, f2, f3, f4, f5⟩ := fnd_ahead Bs hg a (by rw [hf]; exact hn) h0
    rcases Nat.lt_or_ge (Bs.getD i []).length 64 with h64 | h64
    · exact insX_room P B v L a b W Bs hg hf hx hL hn hB i p f1 f2 f3 f4 h64
    · have := (good_at hg i f2).2
      exact insX_full P B v L a b W Bs hg hf hx hL hn hB i p f1 f2 f3 f4 f5 (by omega)
end Go.Proofs.YtlelbepfkkaojaaDoor
