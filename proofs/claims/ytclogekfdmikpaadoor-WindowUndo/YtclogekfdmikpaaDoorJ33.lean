/- The walk of run, by the closure 1 of Splice. Written by mkrun.py. -/
import Derived.Test.YtclogekfdmikpaaDoorJ24
import Derived.Test.YtclogekfdmikpaaDoorJ17
import Derived.Deep.RegionWith
namespace Go.Proofs.YtclogekfdmikpaaDoor
open Go.RowKit
set_option linter.unusedVariables false
set_option linter.unusedSimpArgs false

def RunQ (nx : List (List Nat)) (xs cls : List Int) (p gone B : Nat) (sv : Value) (w : World) (e : Ending) (w' : World) : Prop :=
 ∃ v' r, e = .returned (.tuple #[v', .int .i64 ((r : Nat) : Int)]) ∧ RdN nx xs cls p gone r ∧ w'.ownsRow B 3 1 v' ((spl xs p gone cls).length + 1) (jv (rowF ((spl xs p gone cls).length + 1) (stI nx (spl xs p gone cls)))) ∧ w.grownBy w' sv.ownBlock ∧ AtB w sv.ownBlock v'
theorem zeros_rd (W : World) (n : Nat) (H : Nat) (t : TypeId) (h : W.heap[H]? = some (.cells (iv (List.replicate n 0)).toArray t)) : Rd .i64 W (some ⟨H, 0, none⟩) n (List.replicate n 0) := by
 refine ⟨by simp, fun _ => ⟨H, 0, rfl, fun i hi => ?_⟩⟩
 rw [Nat.zero_add, cell_of_row W H i _ _ _ h]
 simp [iv, hi]
set_option maxHeartbeats 8000000 in
theorem run1_any (nx : List (List Nat)) (ou : List Nat) (K la : Nat) (w : World) (xs cls : List Int) (p gone come n B : Nat) (sv : Value) (c1 : Value) (hlt : ∀ row i, stR nx row i < nx.length) (hwd : ∀ s, s < nx.length → (nx.getD s []).length = K)
 (hM : ∀ W, w.grownBy W sv.ownBlock → MchAt W la K nx ou) (hn : xs.length = n) (hp : p + gone ≤ n) (hc : cls.length = come) (hcl : Cls K (spl xs p gone cls)) (hB : B ≤ w.heap.size)
 (hcf : ∀ W, w.grownBy W sv.ownBlock → ∀ k, k < (spl xs p gone cls).length → Calls Tryd.prog 31 #[.int .i64 (k : Int), c1] W fun e w' => e = .returned (.int .i64 ((spl xs p gone cls).getD k 0)) ∧ ∃ q, w' = W.drewN q)
 (hown : w.ownsRow B 3 1 sv (n + 1) (jv (rowF (n + 1) (stI nx xs)))) (hl : n + come ≤ 100000) :
 Calls Tryd.prog 29 #[.func (.func 30) #[.pointer (some ⟨la, 0, none⟩)] #[], .func (.func 31) #[] #[c1], sv, .agg #[.int .i64 (p : Int), .int .i64 (gone : Int), .int .i64 (come : Int)]] w (RunQ nx xs cls p gone B sv w) := by
 obtain ⟨g, cap, rfl, hnc, hcm⟩ := own_someF hown (by omega)
 obtain ⟨c0, f0⟩ := own_cellF hown (p + gone) (by omega)
 obtain ⟨W0, hW0⟩ : ∃ W0, W0 = w.alloc (.cells #[.int .i64 (p : Int), .int .i64 (gone : Int), .int .i64 (come : Int)] 75) := ⟨_, rfl⟩
 obtain ⟨N, hN⟩ : ∃ N, N = w.heap.size := ⟨_, rfl⟩
 have hgw : g < w.heap.size := (own_lt hown rfl).2.1
 have gb0 : w.grownBy W0 (some g) := by rw [hW0]; exact gb_alloc (gb_refl w _) _
 have HX : Hid (∀ W, w.grownBy W (some g) → W.heap[N]? = some (.cells #[.int .i64 (p : Int), .int .i64 (gone : Int), .int .i64 (come : Int)] 75) → W.cell? ⟨N, 0, none⟩ = some (.int .i64 (p : Int)) ∧ W.cell? ⟨N, 1, none⟩ = some (.int .i64 (gone : Int)) ∧ W.cell? ⟨N, 2, none⟩ = some (.int .i64 (come : Int))) := fun W _ h => ⟨cell_of_row W N 0 _ _ _ h, cell_of_row W N 1 _ _ _ h, cell_of_row W N 2 _ _ _ h⟩
 have hb0 : W0.heap[N]? = some (.cells #[.int .i64 (p : Int), .int .i64 (gone : Int), .int .i64 (come : Int)] 75) := by rw [hW0, hN]; exact heap_alloc_new w _
 obtain ⟨a0, a1, a2⟩ := HX.out W0 gb0 hb0
 have c0' : W0.cell? ⟨g, p + gone, none⟩ = some (.int .i64 (stI nx xs (p + gone))) := by rw [hW0, World.cell?_alloc_lt _ _ _ hgw]; exact c0
 have hmk := make_i come (by omega)
 obtain ⟨pg, hpgd⟩ : ∃ pg, pg = p + gone := ⟨_, rfl⟩
 rw [← hpgd] at c0'
 have hpg : (p : Int) + (gone : Int) = (pg : Int) := by omega
 have hpgn : pg < n + 1 := by omega
 have HPG : Hid (pg = p + gone) := hpgd
 have HGT : Hid (w.grownBy W0 (some g)) := gb0
 have hi1 : (p : Int) + (gone : Int) ≤ 100000 := by omega
 obtain ⟨L1, hL1⟩ : ∃ L1, L1 = n - gone + come + 1 := ⟨_, rfl⟩
 obtain ⟨e0, he0⟩ : ∃ e0, e0 = p + come := ⟨_, rfl⟩
 have HL1 : Hid (L1 = n - gone + come + 1) := hL1
 have HE0 : Hid (e0 = p + come) := he0
 obtain ⟨p1, hp1⟩ : ∃ p1, p1 = p + 1 := ⟨_, rfl⟩
 obtain ⟨q1, hq1⟩ : ∃ q1, q1 = pg + 1 := ⟨_, rfl⟩
 have hw1 : IntKind.i64.wrap ((p : Int) + 1) = (p1 : Int) := by rw [IntKind.wrap_i64]; omega
 have hw2 : IntKind.i64.wrap (pg : Int) = (pg : Int) := by rw [IntKind.wrap_i64]; omega
 have hw3 : IntKind.i64.wrap ((pg : Int) + 1) = (q1 : Int) := by rw [IntKind.wrap_i64]; omega
 have HREP : Hid (Calls Tryd.prog 28 #[.slice (some ⟨g, 0, none⟩) (n + 1) cap, .int .i64 (p1 : Int), .int .i64 (q1 : Int), .slice (some ⟨W0.heap.size, 0, none⟩) come come] ((W0.drew).alloc (.cells (iv (List.replicate come 0)).toArray 3)) fun e w2 => ∃ g2 cap2, e = .returned (.slice (some ⟨g2, 0, none⟩) L1 cap2) ∧ L1 ≤ cap2 ∧ cap2 ≤ 9223372036854775807 ∧ w2.ownsRow B 3 1 (.slice (some ⟨g2, 0, none⟩) L1 cap2) L1 (jv (rowF L1 (fun k => if k ≤ p then stI nx xs k else if k ≤ p + come then 0 else stI nx xs (k + gone - come)))) ∧ w.grownBy w2 (some g) ∧ (some g = some g2 ∨ w.heap.size ≤ g2) ∧ w2.heap[N]? = some (.cells #[.int .i64 (p : Int), .int .i64 (gone : Int), .int .i64 (come : Int)] 75)) := by
  obtain ⟨W1, hW1⟩ : ∃ W1, W1 = (W0.drew).alloc (.cells (iv (List.replicate come 0)).toArray 3) := ⟨_, rfl⟩
  have gb1 : w.grownBy W1 (some g) := by rw [hW1]; exact gb_alloc (gb_drew gb0) _
  have hsz0 : W0.heap.size = w.heap.size + 1 := by rw [hW0]; simp
  have hsz1 : W1.heap.size = w.heap.size + 2 := by rw [hW1]; simp; exact hsz0
  have hw0b : Below w.heap.size w W1 := by
   rw [hW1, hW0]
   exact (((Below.refl _ w).alloc (Nat.le_refl _) _).drew).alloc (by simp) _
  have ho1 : W1.ownsRow B 3 1 (.slice (some ⟨g, 0, none⟩) (n + 1) cap) (n + 1) (jv (rowF (n + 1) (stI nx xs))) := hown.kept (row := none) ⟨hw0b.os, hw0b.tape, hw0b.output, hw0b.size, fun k hk _ => hw0b.block k hk⟩ (Classical.em _)
  have hzb : W1.heap[W0.heap.size]? = some (.cells (iv (List.replicate come 0)).toArray 3) := by rw [hW1]; exact heap_alloc_new W0.drew _
  have hbN : W1.heap[N]? = some (.cells #[.int .i64 (p : Int), .int .i64 (gone : Int), .int .i64 (come : Int)] 75) := by
   rw [hW1]
   rw [Below.heap_alloc _ _ _ (by show N < W0.heap.size; rw [hsz0, hN]; omega)]
   exact hb0
  have hrl : (rowF (n + 1) (stI nx xs)).length = n + 1 := rowF_len _ _
  have hr := repI_any (rowF (n + 1) (stI nx xs)) (List.replicate come 0) B (.slice (some ⟨g, 0, none⟩) (n + 1) cap) (some ⟨W0.heap.size, 0, none⟩) come come p1 q1 W1 (by rw [hrl]; exact ho1) (by rw [hsz1]; omega) (by omega) (by rw [hrl]; omega) (zeros_rd W1 come _ _ hzb) (fun h => by cases h) (fun b off e1 e2 => by have e3 : W0.heap.size = b := by { cases e1; rfl }; have e4 : some g = some b := e2; injection e4 with e5; omega) (by rw [hrl]; omega)
  rw [← hW1]
  refine hr.mono ?_
  rintro e w2 ⟨v', rfl, ho2, hgb, hat⟩
  rw [hp1, hq1, hpgd, rowF_rep n p gone come (stI nx xs) hp, rowF_len, ← hL1] at ho2
  obtain ⟨g2, cap2, rfl, d1, d2⟩ := own_someF ho2 (by omega)
  have hat' : some g = some g2 ∨ w.heap.size ≤ g2 := by
   rcases hat g2 rfl with h | h
   ·exact .inl h
   ·exact .inr (by rw [hsz1] at h; omega)
  refine ⟨g2, cap2, rfl, d1, d2, ho2, gb_trans gb1 hgb (fun k hk => .inl hk), hat', ?_⟩
  rw [hgb.block N (by rw [hsz1, hN]; omega) (fun e => by have e4 : some N = some g := e; injection e4 with e5; omega)]
  exact hbN
 have HM : Hid (∀ W, w.grownBy W (some g) → MchAt W la K nx ou) := hM
 have HCF : Hid (∀ W, w.grownBy W (some g) → ∀ k, k < (spl xs p gone cls).length → Calls Tryd.prog 31 #[.int .i64 (k : Int), c1] W fun e w' => e = .returned (.int .i64 ((spl xs p gone cls).getD k 0)) ∧ ∃ q, w' = W.drewN q) := hcf
 have HOW : Hid (w.ownsRow B 3 1 (.slice (some ⟨g, 0, none⟩) (n + 1) cap) (n + 1) (jv (rowF (n + 1) (stI nx xs)))) := hown
 have HLT : Hid (∀ row i, stR nx row i < nx.length) := hlt
 have HWD : Hid (∀ s, s < nx.length → (nx.getD s []).length = K) := hwd
 have HCL : Hid (Cls K (spl xs p gone cls)) := hcl
 have HLN : Hid (xs.length = n ∧ cls.length = come ∧ p + gone ≤ n) := ⟨hn, hc, hp⟩
 have HNW : Hid (N = w.heap.size ∧ g < w.heap.size ∧ B ≤ w.heap.size) := ⟨hN, hgw, hB⟩
 have HB0 : Hid (W0.heap[N]? = some (.cells #[.int .i64 (p : Int), .int .i64 (gone : Int), .int .i64 (come : Int)] 75)) := hb0
 clear hpgd hp1 hq1 hL1 he0 c0 f0 hb0 gb0 hM hcf hown hlt hwd hcl hn hc hp hgw hB
 go_enter Tryd.func29, Tryd.ntmps29
 go_upto_region 1 with fail
 rw [← hW0, ← hN]
 clear hW0 hN
 go_upto_region 2 with fail
 have HS1 : Hid (((W0.drew).alloc (.cells (iv (List.replicate come 0)).toArray 3)).cell? ⟨N, 0, none⟩ = some (.int .i64 (p : Int)) ∧ ((W0.drew).alloc (.cells (iv (List.replicate come 0)).toArray 3)).cell? ⟨N, 1, none⟩ = some (.int .i64 (gone : Int)) ∧ ((W0.drew).alloc (.cells (iv (List.replicate come 0)).toArray 3)).cell? ⟨N, 2, none⟩ = some (.int .i64 (come : Int))) :=
  ⟨(World.cell?_alloc_lt _ _ _ (World.block_lt_of_cell? W0 _ a0)).trans a0, (World.cell?_alloc_lt _ _ _ (World.block_lt_of_cell? W0 _ a1)).trans a1, (World.cell?_alloc_lt _ _ _ (World.block_lt_of_cell? W0 _ a2)).trans a2⟩
 refine wp_region_noPanic ?_
 refine wp_region_held_drew (S := (fun w' => w'.cell? ⟨N, 0, none⟩ = some (.int .i64 (p : Int)) ∧ w'.cell? ⟨N, 1, none⟩ = some (.int .i64 (gone : Int)) ∧ w'.cell? ⟨N, 2, none⟩ = some (.int .i64 (come : Int)))) (by kernel_rfl) (⟨a0, a1, a2⟩) (fun hHeld => ?_)
 clear a0 a1 a2 c0'
 refine wpAnyH_take (i := 0) (v := ?_) rfl (by kernel_rfl) (by kernel_rfl) (by kernel_rfl) (fun _ _ _ h => h) (Or.inl ⟨by rfl, ?_⟩) (by assumption) ?_
 rotate_left
 ·intro W' hSw; obtain ⟨s0, s1, s2⟩ := hSw; go_simp; try with_reducible rfl
 try simp only [Act.put, List.getElem_toArray, List.getElem_cons_succ, List.getElem_cons_zero, List.setIfInBounds_toArray, List.set_cons_zero, List.set_cons_succ]
 refine wpAnyH_take (i := 1) (v := ?_) rfl (by kernel_rfl) (by kernel_rfl) (by kernel_rfl) (fun _ _ _ h => h) (Or.inl ⟨by rfl, ?_⟩) (by assumption) ?_
 rotate_left
 ·intro W' hSw; obtain ⟨s0, s1, s2⟩ := hSw; go_simp; try with_reducible rfl
 try simp only [Act.put, List.getElem_toArray, List.getElem_cons_succ, List.getElem_cons_zero, List.setIfInBounds_toArray, List.set_cons_zero, List.set_cons_succ]
 refine wpAnyH_take (i := 2) (v := ?_) rfl (by kernel_rfl) (by kernel_rfl) (by kernel_rfl) (fun _ _ _ h => h) (Or.inl ⟨by rfl, ?_⟩) (by assumption) ?_
 rotate_left
 ·intro W' hSw; obtain ⟨s0, s1, s2⟩ := hSw; go_simp; try with_reducible rfl
 try simp only [Act.put, List.getElem_toArray, List.getElem_cons_succ, List.getElem_cons_zero, List.setIfInBounds_toArray, List.set_cons_zero, List.set_cons_succ]
 refine wpAnyH_take (i := 3) (v := ?_) rfl (by kernel_rfl) (by kernel_rfl) (by kernel_rfl) (fun _ _ _ h => h) (Or.inl ⟨by rfl, ?_⟩) (by assumption) ?_
 rotate_left
 ·intro W' hSw; obtain ⟨s0, s1, s2⟩ := hSw; go_simp; try with_reducible rfl
 try simp only [Act.put, List.getElem_toArray, List.getElem_cons_succ, List.getElem_cons_zero, List.setIfInBounds_toArray, List.set_cons_zero, List.set_cons_succ]
 refine wpAnyH_take (i := 4) (v := ?_) rfl (by kernel_rfl) (by kernel_rfl) (by kernel_rfl) (fun _ _ _ h => h) (Or.inl ⟨by rfl, ?_⟩) (by assumption) ?_
 rotate_left
 ·intro W' hSw; obtain ⟨s0, s1, s2⟩ := hSw; go_simp; try with_reducible rfl
 try simp only [Act.put, List.getElem_toArray, List.getElem_cons_succ, List.getElem_cons_zero, List.setIfInBounds_toArray, List.set_cons_zero, List.set_cons_succ]
 refine wpAnyH_take (i := 5) (v := ?_) rfl (by kernel_rfl) (by kernel_rfl) (by kernel_rfl) (fun _ _ _ h => h) (Or.inl ⟨by rfl, ?_⟩) (by assumption) ?_
 rotate_left
 ·intro W' hSw; obtain ⟨s0, s1, s2⟩ := hSw; go_simp; try with_reducible rfl
 try simp only [Act.put, List.getElem_toArray, List.getElem_cons_succ, List.getElem_cons_zero, List.setIfInBounds_toArray, List.set_cons_zero, List.set_cons_succ]
 refine wpAnyH_take (i := 6) (v := ?_) rfl (by kernel_rfl) (by kernel_rfl) (by kernel_rfl) (fun _ _ _ h => h) (Or.inl ⟨by rfl, ?_⟩) (by assumption) ?_
 rotate_left
 ·intro W' hSw; obtain ⟨s0, s1, s2⟩ := hSw; go_simp; try with_reducible rfl
 try simp only [Act.put, List.getElem_toArray, List.getElem_cons_succ, List.getElem_cons_zero, List.setIfInBounds_toArray, List.set_cons_zero, List.set_cons_succ]
 refine wpAnyH_take (i := 7) (v := ?_) rfl (by kernel_rfl) (by kernel_rfl) (by kernel_rfl) (fun _ _ _ h => h) (Or.inl ⟨by rfl, ?_⟩) (by assumption) ?_
 rotate_left
 ·intro W' hSw; obtain ⟨s0, s1, s2⟩ := hSw; go_simp; try with_reducible rfl
 try simp only [Act.put, List.getElem_toArray, List.getElem_cons_succ, List.getElem_cons_zero, List.setIfInBounds_toArray, List.set_cons_zero, List.set_cons_succ]
 refine wpAnyH_take (i := 8) (v := ?_) rfl (by kernel_rfl) (by kernel_rfl) (by kernel_rfl) (fun _ _ _ h => h) (Or.inl ⟨by rfl, ?_⟩) (by assumption) ?_
 rotate_left
 ·intro W' hSw; obtain ⟨s0, s1, s2⟩ := hSw; go_simp; try with_reducible rfl
 try simp only [Act.put, List.getElem_toArray, List.getElem_cons_succ, List.getElem_cons_zero, List.setIfInBounds_toArray, List.set_cons_zero, List.set_cons_succ]
 refine wpAnyH_take (i := 9) (v := ?_) rfl (by kernel_rfl) (by kernel_rfl) (by kernel_rfl) (fun _ _ _ h => h) (Or.inl ⟨by rfl, ?_⟩) (by assumption) ?_
 rotate_left
 ·intro W' hSw; obtain ⟨s0, s1, s2⟩ := hSw; go_simp; try with_reducible rfl
 try simp only [Act.put, List.getElem_toArray, List.getElem_cons_succ, List.getElem_cons_zero, List.setIfInBounds_toArray, List.set_cons_zero, List.set_cons_succ]
 refine wpAnyH_take (i := 10) (v := ?_) rfl (by kernel_rfl) (by kernel_rfl) (by kernel_rfl) (fun _ _ _ h => h) (Or.inl ⟨by rfl, ?_⟩) (by assumption) ?_
 rotate_left
 ·intro W' hSw; obtain ⟨s0, s1, s2⟩ := hSw; go_simp; try with_reducible rfl
 try simp only [Act.put, List.getElem_toArray, List.getElem_cons_succ, List.getElem_cons_zero, List.setIfInBounds_toArray, List.set_cons_zero, List.set_cons_succ]
 refine wpAnyH_take (i := 11) (v := ?_) rfl (by kernel_rfl) (by kernel_rfl) (by kernel_rfl) (fun _ _ _ h => h) (Or.inl ⟨by rfl, ?_⟩) (by assumption) ?_
 rotate_left
 ·intro W' hSw; obtain ⟨s0, s1, s2⟩ := hSw; go_simp; try with_reducible rfl
 try simp only [Act.put, List.getElem_toArray, List.getElem_cons_succ, List.getElem_cons_zero, List.setIfInBounds_toArray, List.set_cons_zero, List.set_cons_succ]
 refine wpAnyH_ready (rs := [12]) (by kernel_rfl) (by simp) ?_
 refine AllReadyH.cons rfl (fun KK hK => ?_) AllReadyH.nil
 go_simp
 refine hK.out _ _ HS1.out (fun hHeld => ?_)
 clear hK KK
 try simp only [Act.put, List.getElem_toArray, List.getElem_cons_succ, List.getElem_cons_zero, List.setIfInBounds_toArray, List.set_cons_zero, List.set_cons_succ]
 refine wpAnyH_ready (rs := [13]) (by kernel_rfl) (by simp) ?_
 refine AllReadyH.cons rfl (fun KK hK => ?_) AllReadyH.nil
 go_simp
 refine HREP.out.mono ?_
 rintro e w2 ⟨g2, cap2, rfl, hc2, hc3, ho2, hgb2, hat2, hbx⟩
 have HO2 : Hid (w2.ownsRow B 3 1 (.slice (some ⟨g2, 0, none⟩) L1 cap2) L1 (jv (rowF L1 (fun k => if k ≤ p then stI nx xs k else if k ≤ p + come then 0 else stI nx xs (k + gone - come))))) := ho2
 have HG2 : Hid (w.grownBy w2 (some g)) := hgb2
 have HA2 : Hid (some g = some g2 ∨ w.heap.size ≤ g2) := hat2
 have HBX : Hid (w2.heap[N]? = some (.cells #[.int .i64 (p : Int), .int .i64 (gone : Int), .int .i64 (come : Int)] 75)) := hbx
 clear ho2 hgb2 hat2 hbx
 go_simp
 refine hK.out _ _ (HX.out w2 HG2.out HBX.out) (fun hHeld => ?_)
 clear hK KK
 try simp only [Act.put, List.getElem_toArray, List.getElem_cons_succ, List.getElem_cons_zero, List.setIfInBounds_toArray, List.set_cons_zero, List.set_cons_succ]
 refine wpAnyH_take (i := 14) (v := ?_) rfl (by kernel_rfl) (by kernel_rfl) (by kernel_rfl) (fun _ _ _ h => h) (Or.inl ⟨by rfl, ?_⟩) (by assumption) ?_
 rotate_left
 ·intro W' hSw; obtain ⟨s0, s1, s2⟩ := hSw; go_simp; try with_reducible rfl
 try simp only [Act.put, List.getElem_toArray, List.getElem_cons_succ, List.getElem_cons_zero, List.setIfInBounds_toArray, List.set_cons_zero, List.set_cons_succ]
 refine wpAnyH_done (by kernel_rfl) ?_ _
 refine NoPanic.normal ?_
 clear hHeld
 all_goals
  clear hmk hpg hw1 hw2 hw3
  go_upto_region 3 with fail
  obtain ⟨a0, a1, a2⟩ := HX.out w2 HG2.out HBX.out
  obtain ⟨b0, _⟩ := own_cellF HO2.out p (by have := HLN.out; have := HL1.out; omega)
  simp only [Nat.le_refl, if_true] at b0
  have hpl : p < L1 := by have := HLN.out; have := HL1.out; omega
  have hpe : (p : Int) + (come : Int) = (e0 : Int) := by have := HE0.out; omega
  have he1 : e0 ≤ 200000 := by have := HE0.out; have := HLN.out; omega
  have hpe0 : p ≤ e0 := by have := HE0.out; omega
  have hew : IntKind.i64.wrap (e0 : Int) = (e0 : Int) := by rw [IntKind.wrap_i64]; omega
  go_quiet (fail)
  obtain ⟨W3, hW3⟩ : ∃ W3, W3 = w2.drewN nq := ⟨_, rfl⟩
  rw [← hW3]
  have HO3 : Hid (W3.ownsRow B 3 1 (.slice (some ⟨g2, 0, none⟩) L1 cap2) L1 (jv (rowF L1 (fun k => if k ≤ p then stI nx xs k else if k ≤ p + come then 0 else stI nx xs (k + gone - come))))) := by rw [hW3]; exact own_drewN HO2.out nq
  have HG3 : Hid (w.grownBy W3 (some g)) := by rw [hW3]; exact gb_drewN HG2.out nq
  have HB3 : Hid (W3.heap[N]? = some (.cells #[.int .i64 (p : Int), .int .i64 (gone : Int), .int .i64 (come : Int)] 75)) := by rw [hW3]; exact HBX.out
  clear hW3 a0 a1 a2 b0 hpe hew
  obtain ⟨a0, a1, a2⟩ := HX.out W3 HG3.out HB3.out
  have HST0 : Hid (stI nx xs p = stI nx (spl xs p gone cls) p) := by
   show ((stR nx xs p : Nat) : Int) = _
   rw [stR_same nx xs (spl xs p gone cls) p (spl_take xs cls p gone (by have := HLN.out; omega)).symm p (Nat.le_refl _)]
   rfl
  go_wp2
  clear a0 a1 a2
  go_loopw [11, 13] (fun x11 x13 wr => ∃ i : Nat, x11 = .int .i64 (stI nx (spl xs p gone cls) i) ∧ x13 = .int .i64 (i : Int) ∧ p ≤ i ∧ i ≤ e0 ∧ wr.ownsRow B 3 1 (.slice (some ⟨g2, 0, none⟩) L1 cap2) L1 (jv (rowF L1 (fun k => if k ≤ i then stI nx (spl xs p gone cls) k else if k ≤ e0 then 0 else stI nx xs (k + gone - come)))) ∧ w.grownBy wr (some g)) (fun _ x13 _ => e0 - (intOf x13).toNat)
  case atStart =>
   refine ⟨p, by rw [HST0.out], rfl, Nat.le_refl _, hpe0, own_extF HO3.out fun k hk => ?_, HG3.out⟩
   rw [HE0.out]
   by_cases h : k ≤ p
   ·rw [if_pos h, if_pos h]
    show ((stR nx xs k : Nat) : Int) = _
    rw [stR_same nx xs (spl xs p gone cls) p (spl_take xs cls p gone (by have := HLN.out; omega)).symm k h]
    rfl
   ·rw [if_neg h, if_neg h]
  case round =>
   clear HO3 HG3 HB3 HO2 HG2 HBX
   obtain ⟨i, hx11, hx13, hpi, hie, hown, hgb⟩ := hrel
   subst hx11 hx13
   have HO : Hid (wr.ownsRow B 3 1 (.slice (some ⟨g2, 0, none⟩) L1 cap2) L1 (jv (rowF L1 (fun k => if k ≤ i then stI nx (spl xs p gone cls) k else if k ≤ e0 then 0 else stI nx xs (k + gone - come))))) := hown
   have HG : Hid (w.grownBy wr (some g)) := hgb
   by_cases hlt : i < e0
   ·have hiy : i < (spl xs p gone cls).length := by have := HLN.out; have := HE0.out; rw [spl_len xs cls p gone (by omega)]; omega
    obtain ⟨cN, hcN⟩ : ∃ cN : Nat, (spl xs p gone cls).getD i 0 = (cN : Int) ∧ cN < K := by
     have := HCL.out ((spl xs p gone cls).getD i 0) (by simp [hiy])
     exact ⟨((spl xs p gone cls).getD i 0).toNat, by omega, by omega⟩
    have HC1 : Hid (Calls Tryd.prog 31 #[.int .i64 (i : Int), c1] wr fun e w' => e = .returned (.int .i64 (cN : Int)) ∧ ∃ q, w' = wr.drewN q) := by
     have := HCF.out wr hgb i hiy
     rw [hcN.1] at this
     exact this
    obtain ⟨s1, hs1⟩ : ∃ s1, s1 = stR nx (spl xs p gone cls) i := ⟨_, rfl⟩
    obtain ⟨s2, hs2⟩ : ∃ s2, s2 = stR nx (spl xs p gone cls) (i + 1) := ⟨_, rfl⟩
    have hst : nxt nx s1 cN = s2 := by
     rw [hs1, hs2, stR_next nx _ i hiy, hcN.1]; rfl
    have HC2 : Hid (∀ W, w.grownBy W (some g) → Calls Tryd.prog 30 #[.pointer (some ⟨la, 0, none⟩), .int .i64 (s1 : Int), .int .i64 (cN : Int)] W fun e w' => e = .returned (.int .i64 (s2 : Int)) ∧ w' = W) := fun W hW => by
     rw [← hst]
     exact step_mch W la K nx ou s1 cN (HM.out W hW) (by rw [hs1]; exact HLT.out _ _) hcN.2 (HWD.out s1 (by rw [hs1]; exact HLT.out _ _))
    have hi1 : i + 1 < L1 := by have := HLN.out; have := HE0.out; have := HL1.out; omega
    have HSI : Hid (stI nx (spl xs p gone cls) i = (s1 : Int) ∧ stI nx (spl xs p gone cls) (i + 1) = (s2 : Int)) := ⟨by rw [hs1]; rfl, by rw [hs2]; rfl⟩
    rw [HSI.out.1]
    have HNX : Hid (∀ wq, wq.ownsRow B 3 1 (.slice (some ⟨g2, 0, none⟩) L1 cap2) L1 (jv (rowF L1 (fun k => if k ≤ i then stI nx (spl xs p gone cls) k else if k ≤ e0 then 0 else stI nx xs (k + gone - come)))) → w.grownBy wq (some g) → (wq.setCell ⟨g2, i + 1, none⟩ (.int .i64 (s2 : Int))).ownsRow B 3 1 (.slice (some ⟨g2, 0, none⟩) L1 cap2) L1 (jv (rowF L1 (fun k => if k ≤ i + 1 then stI nx (spl xs p gone cls) k else if k ≤ e0 then 0 else stI nx xs (k + gone - come)))) ∧ w.grownBy (wq.setCell ⟨g2, i + 1, none⟩ (.int .i64 (s2 : Int))) (some g)) := by
     intro wq h1 h2
     refine ⟨own_extF (own_setF h1 (i + 1) hi1 s2) fun k hk => ?_, gb_setCell h2 g2 (i + 1) _ HA2.out⟩
     show (if k = i + 1 then (s2 : Int) else _) = _
     by_cases e1 : k = i + 1
     ·rw [if_pos e1, e1, if_pos (Nat.le_refl _), HSI.out.2]
     ·rw [if_neg e1]
      by_cases e2 : k ≤ i
      ·have e3 : k ≤ i + 1 := by omega
       simp only [e2, e3, if_true]
      ·have e3 : ¬ k ≤ i + 1 := by omega
       simp only [e2, e3, if_false]
    clear hown hgb hst hs1 hs2 hcN hiy
    go_wp2_with (first
     | (go_at_call 31; refine HC1.out.mono ?_; rintro e wq ⟨rfl, q, hwq⟩; have HOQ : Hid (wq.ownsRow B 3 1 (.slice (some ⟨g2, 0, none⟩) L1 cap2) L1 (jv (rowF L1 (fun k => if k ≤ i then stI nx (spl xs p gone cls) k else if k ≤ e0 then 0 else stI nx xs (k + gone - come))))) := by { rw [hwq]; exact own_drewN HO.out q }; have HGQ : Hid (w.grownBy wq (some g)) := by { rw [hwq]; exact gb_drewN HG.out q }; obtain ⟨k0, k1⟩ := own_cellF HOQ.out (i + 1) hi1; clear hwq)
     | (go_at_call 30; refine (HC2.out wq HGQ.out).mono ?_; rintro e w' ⟨rfl, hw'⟩; obtain rfl := hw'.symm; clear hw'))
    go_roundw
    case rel => exact ⟨i + 1, by rw [HSI.out.2], by go_num, by omega, by omega, (HNX.out wq HOQ.out HGQ.out).1, (HNX.out wq HOQ.out HGQ.out).2⟩
    case measure => simp [intOf]; omega
   ·obtain rfl : i = e0 := by omega
    have HO4 : Hid (wr.ownsRow B 3 1 (.slice (some ⟨g2, 0, none⟩) L1 cap2) L1 (jv (rowF L1 (fun k => if k ≤ i then stI nx (spl xs p gone cls) k else stI nx xs (k + gone - come))))) := own_extF hown fun k hk => by
     by_cases e : k ≤ i
     ·rw [if_pos e, if_pos e]
     ·rw [if_neg e, if_neg e, if_neg e]
    clear hown hgb HO hlt
    go_wp2
    go_loopw [10, 11, 14, 15] (fun x10 x11 x14 x15 ws => ∃ k : Nat, x10 = .int .i64 (stI nx xs (k + gone - come)) ∧ x11 = .int .i64 (stI nx (spl xs p gone cls) k) ∧ x14 = .int .i64 ((k - i : Nat) : Int) ∧ x15 = .int .i64 (k : Int) ∧ i ≤ k ∧ k + 1 ≤ L1 ∧ ws.ownsRow B 3 1 (.slice (some ⟨g2, 0, none⟩) L1 cap2) L1 (jv (rowF L1 (fun q => if q ≤ k then stI nx (spl xs p gone cls) q else stI nx xs (q + gone - come)))) ∧ w.grownBy ws (some g) ∧ ∀ q, i ≤ q → q < k → stR nx (spl xs p gone cls) q ≠ stR nx xs (q + gone - come)) (fun _ _ _ x15 _ => L1 - (intOf x15).toNat)
    case atStart => exact ⟨i, by have := HE0.out; have := HPG.out; rw [show i + gone - come = pg by omega], rfl, by simp, rfl, Nat.le_refl _, by have := HLN.out; have := HE0.out; have := HL1.out; omega, HO4.out, HG.out, fun q h1 h2 => by omega⟩
    case round =>
     clear HO4 HG
     obtain ⟨k, hx10, hx11, hx14, hx15, hik, hkL, hown, hgb, hno⟩ := hrel
     subst hx10 hx11 hx14 hx15
     have HO : Hid (wr.ownsRow B 3 1 (.slice (some ⟨g2, 0, none⟩) L1 cap2) L1 (jv (rowF L1 (fun q => if q ≤ k then stI nx (spl xs p gone cls) q else stI nx xs (q + gone - come))))) := hown
     have HG : Hid (w.grownBy wr (some g)) := hgb
     have HNO : Hid (∀ q, i ≤ q → q < k → stR nx (spl xs p gone cls) q ≠ stR nx xs (q + gone - come)) := hno
     have hyl : (spl xs p gone cls).length = L1 - 1 := by have := HLN.out; have := HL1.out; rw [spl_len xs cls p gone (by omega)]; omega
     have HYL : Hid ((spl xs p gone cls).length = L1 - 1) := hyl
     obtain ⟨s1, hs1⟩ : ∃ s1, s1 = stR nx (spl xs p gone cls) k := ⟨_, rfl⟩
     obtain ⟨t1, ht1⟩ : ∃ t1, t1 = stR nx xs (k + gone - come) := ⟨_, rfl⟩
     have HFIN : Hid ((k + 1 = L1 ∨ s1 = t1) → RunQ nx xs cls p gone B (.slice (some ⟨g, 0, none⟩) (n + 1) cap) w (.returned (.tuple #[.slice (some ⟨g2, 0, none⟩) L1 cap2, .int .i64 ((k - i : Nat) : Int)])) wr) := by
      intro hend
      have hln := HLN.out
      have hl1 := HL1.out
      have he0 := HE0.out
      refine ⟨_, k - i, rfl, ⟨by omega, fun q hq => ?_, ?_⟩, ?_, hgb, ?_⟩
      ·have h1 := hno (i + q) (by omega) (by omega)
       rw [hln.2.1, ← he0, show p + gone + q = i + q + gone - come by omega]
       exact h1
      ·rcases hend with h1 | h1
       ·exact .inl (by omega)
       ·right
        rw [hln.2.1, ← he0, show i + (k - i) = k by omega, show p + gone + (k - i) = k + gone - come by omega, ← hs1, ← ht1]
        exact h1
      ·rw [hyl, show L1 - 1 + 1 = L1 by omega]
       refine own_extF hown fun q hq => ?_
       by_cases e : q ≤ k
       ·rw [if_pos e]
       ·rw [if_neg e]
        rcases hend with h1 | h1
        ·omega
        ·show ((stR nx xs (q + gone - come) : Nat) : Int) = ((stR nx (spl xs p gone cls) q : Nat) : Int)
         have := st_meet nx xs cls p gone (by omega) k (by rw [hln.2.1]; omega) (by rw [hln.2.1, ← hs1, ← ht1]; exact h1) q (by omega) (by rw [hyl]; omega)
         rw [this, hln.2.1]
      ·exact fun q hq => by
        cases hq
        exact HA2.out
     have hsi : stI nx (spl xs p gone cls) k = (s1 : Int) := by rw [hs1]; rfl
     have hti : stI nx xs (k + gone - come) = (t1 : Int) := by rw [ht1]; rfl
     rw [hsi, hti]
     by_cases hlast : k + 1 = L1
     ·have HF : Hid (RunQ nx xs cls p gone B (.slice (some ⟨g, 0, none⟩) (n + 1) cap) w (.returned (.tuple #[.slice (some ⟨g2, 0, none⟩) L1 cap2, .int .i64 ((k - i : Nat) : Int)])) wr) := HFIN.out (.inl hlast)
      have hk1 : ¬ (k : Int) + 1 < (L1 : Int) := by omega
      have hkw : IntKind.i64.wrap ((k : Int) + 1) = (k : Int) + 1 := by have := HLN.out; have := HL1.out; rw [IntKind.wrap_i64]; omega
      clear hown hgb hno hyl hs1 ht1 hsi hti hlast
      go_wp2
      go_ret2
      exact HF.out
     ·have hk1 : (k : Int) + 1 < (L1 : Int) := by omega
      have hkL2 : k + 1 < L1 := by omega
      have hkb : k ≤ 200000 := by have := HLN.out; have := HL1.out; omega
      by_cases hst : s1 = t1
      ·have HF : Hid (RunQ nx xs cls p gone B (.slice (some ⟨g, 0, none⟩) (n + 1) cap) w (.returned (.tuple #[.slice (some ⟨g2, 0, none⟩) L1 cap2, .int .i64 ((k - i : Nat) : Int)])) wr) := HFIN.out (.inr hst)
       have hne : ((s1 : Int) == (t1 : Int)) = true := by simp [hst]
       clear hown hgb hno hyl hs1 ht1 hsi hti hlast hst
       go_wp2
       go_ret2
       exact HF.out
      ·have hne : ((s1 : Int) == (t1 : Int)) = false := beq_false_of_ne (by omega)
       have hky : k < (spl xs p gone cls).length := by omega
       obtain ⟨cN, hcN⟩ : ∃ cN : Nat, (spl xs p gone cls).getD k 0 = (cN : Int) ∧ cN < K := by
        have := HCL.out ((spl xs p gone cls).getD k 0) (by simp [hky])
        exact ⟨((spl xs p gone cls).getD k 0).toNat, by omega, by omega⟩
       have HC1 : Hid (Calls Tryd.prog 31 #[.int .i64 (k : Int), c1] wr fun e w' => e = .returned (.int .i64 (cN : Int)) ∧ ∃ q, w' = wr.drewN q) := by
        have := HCF.out wr hgb k hky
        rw [hcN.1] at this
        exact this
       obtain ⟨s2, hs2⟩ : ∃ s2, s2 = stR nx (spl xs p gone cls) (k + 1) := ⟨_, rfl⟩
       have hnst : nxt nx s1 cN = s2 := by
        rw [hs1, hs2, stR_next nx _ k hky, hcN.1]; rfl
       have HC2 : Hid (∀ W, w.grownBy W (some g) → Calls Tryd.prog 30 #[.pointer (some ⟨la, 0, none⟩), .int .i64 (s1 : Int), .int .i64 (cN : Int)] W fun e w' => e = .returned (.int .i64 (s2 : Int)) ∧ w' = W) := fun W hW => by
        rw [← hnst]
        exact step_mch W la K nx ou s1 cN (HM.out W hW) (by rw [hs1]; exact HLT.out _ _) hcN.2 (HWD.out s1 (by rw [hs1]; exact HLT.out _ _))
       have HSI : Hid (stI nx (spl xs p gone cls) (k + 1) = (s2 : Int)) := by show stI nx (spl xs p gone cls) (k + 1) = (s2 : Int); rw [hs2]; rfl
       obtain ⟨z0, _⟩ := own_cellF hown (k + 1) hkL2
       have hkk : ¬ k + 1 ≤ k := by omega
       simp only [hkk, if_false] at z0
       have HNX : Hid (∀ wq, wq.ownsRow B 3 1 (.slice (some ⟨g2, 0, none⟩) L1 cap2) L1 (jv (rowF L1 (fun q => if q ≤ k then stI nx (spl xs p gone cls) q else stI nx xs (q + gone - come)))) → w.grownBy wq (some g) → (wq.setCell ⟨g2, k + 1, none⟩ (.int .i64 (s2 : Int))).ownsRow B 3 1 (.slice (some ⟨g2, 0, none⟩) L1 cap2) L1 (jv (rowF L1 (fun q => if q ≤ k + 1 then stI nx (spl xs p gone cls) q else stI nx xs (q + gone - come)))) ∧ w.grownBy (wq.setCell ⟨g2, k + 1, none⟩ (.int .i64 (s2 : Int))) (some g)) := by
        intro wq h1 h2
        refine ⟨own_extF (own_setF h1 (k + 1) hkL2 s2) fun q hq => ?_, gb_setCell h2 g2 (k + 1) _ HA2.out⟩
        show (if q = k + 1 then (s2 : Int) else _) = _
        by_cases e1 : q = k + 1
        ·rw [if_pos e1, e1, if_pos (Nat.le_refl _), HSI.out]
        ·rw [if_neg e1]
         by_cases e2 : q ≤ k
         ·have e3 : q ≤ k + 1 := by omega
          simp only [e2, e3, if_true]
         ·have e3 : ¬ q ≤ k + 1 := by omega
          simp only [e2, e3, if_false]
       have HN2 : Hid (∀ q, i ≤ q → q < k + 1 → stR nx (spl xs p gone cls) q ≠ stR nx xs (q + gone - come)) := fun q h1 h2 => by
        rcases Nat.lt_or_ge q k with h | h
        ·exact hno q h1 h
        ·rw [show q = k by omega, ← hs1, ← ht1]; exact hst
       have hkr : ((k - i : Nat) : Int) + 1 = ((k + 1 - i : Nat) : Int) := by omega
       obtain ⟨r1, hr1⟩ : ∃ r1, r1 = k + 1 - i := ⟨_, rfl⟩
       obtain ⟨r0, hr0⟩ : ∃ r0, r0 = k - i := ⟨_, rfl⟩
       rw [← hr1, ← hr0] at hkr
       rw [← hr0]
       have hrb : r0 ≤ 200000 := by omega
       have HR1 : Hid (r1 = k + 1 - i) := hr1
       obtain ⟨T2, hT2⟩ : ∃ T2, T2 = stI nx xs (k + 1 + gone - come) := ⟨_, rfl⟩
       rw [← hT2] at z0
       have HT2 : Hid (T2 = stI nx xs (k + 1 + gone - come)) := hT2
       clear hown hgb hno hyl hs1 ht1 hs2 hsi hti hlast hst hcN hky hnst hr1 hr0 hT2 hkk hkL
       go_wp2_with (first
        | (go_at_call 31; refine HC1.out.mono ?_; rintro e wq ⟨rfl, q, hwq⟩; have HOQ : Hid (wq.ownsRow B 3 1 (.slice (some ⟨g2, 0, none⟩) L1 cap2) L1 (jv (rowF L1 (fun q => if q ≤ k then stI nx (spl xs p gone cls) q else stI nx xs (q + gone - come))))) := by { rw [hwq]; exact own_drewN HO.out q }; have HGQ : Hid (w.grownBy wq (some g)) := by { rw [hwq]; exact gb_drewN HG.out q }; obtain ⟨k0, k1⟩ := own_cellF HOQ.out (k + 1) hkL2; clear hwq)
        | (go_at_call 30; refine (HC2.out wq HGQ.out).mono ?_; rintro e w' ⟨rfl, hw'⟩; obtain rfl := hw'.symm; clear hw'))
       go_roundw
       case rel => exact ⟨k + 1, by rw [HT2.out], by rw [HSI.out], by rw [← HR1.out], by go_num, by omega, by omega, (HNX.out wq HOQ.out HGQ.out).1, (HNX.out wq HOQ.out HGQ.out).2, HN2.out⟩
       case measure => simp [intOf]; omega
end Go.Proofs.YtclogekfdmikpaaDoor
