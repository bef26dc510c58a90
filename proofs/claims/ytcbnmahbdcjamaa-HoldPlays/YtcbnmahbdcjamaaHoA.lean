/- The walks of hold's compare and find, and of the library's Or and search by halves over operations. -/
import Derived.Test.YtcbnmahbdcjamaaHoM
import Derived.Test.YtcbnmahbdcjamaaIdC
import Derived.Test.YtcbnmahbdcjamaaBasX
import Derived.Deep.DeepCutAuto
import Derived.Deep.RegionHeld3
namespace Go.Proofs.Ytcbnmahbdcjamaa
open Go.RowKit Go.Sort
set_option linter.unusedVariables false
set_option linter.unusedSimpArgs false

theorem upK {w w' : World} (hb : Below w.heap.size w w') {p : Addr} {v : Value} (h : w.cell? p = some v) : w'.cell? p = some v := (hb.cell (World.block_lt_of_cell? w _ h)).trans h
/-- The first of two numbers that is not nothing. -/
def orI (x y : Int) : Int := if x = 0 then y else x
theorem or_any (x y : Int) (g : Nat) (w : World) (hg : w.heap[g]? = some (.cells #[.int .i64 x, .int .i64 y] 3 (0, 0))) :
    Calls Try.prog 159 #[.slice (some ⟨g, 0, none⟩) 2 2] w fun e w' => e = .returned (.int .i64 (orI x y)) ∧ w' = w := by
  have c0 : w.cell? ⟨g, 0, none⟩ = some (.int .i64 x) := cell_of_row w g 0 _ _ _ hg
  have c1 : w.cell? ⟨g, 1, none⟩ = some (.int .i64 y) := cell_of_row w g 1 _ _ _ hg
  have HR : Hid (orI x y = if x = 0 then y else x) := rfl
  generalize orI x y = R at HR ⊢
  clear hg
  go_enter Try.func159, Try.ntmps159
  go_wp2
  go_loopw [5, 8] (fun x5 x8 wr => ∃ k : Nat, x8 = .int .i64 (k : Int) ∧ k ≤ 2 ∧ (0 < k → x = 0) ∧ (1 < k → y = 0) ∧ wr = w) (fun x5 x8 _ => 2 - (intOf x8).toNat)
  case atStart => exact ⟨0, rfl, by omega, fun h => absurd h (by omega), fun h => absurd h (by omega), rfl⟩
  case round =>
    obtain ⟨k, hx, hk, h0, h1, hw⟩ := hrel
    subst hx hw
    have HF : Hid ((0 < k → x = 0) ∧ (1 < k → y = 0)) := ⟨h0, h1⟩
    clear h0 h1
    have hcs : k = 0 ∨ k = 1 ∨ k = 2 := by omega
    rcases hcs with rfl | rfl | rfl
    · by_cases hx0 : x = 0
      · have HX0 : Hid (x = 0) := hx0
        have ez : (x != 0) = false := by simp [hx0]
        clear hx0
        go_wp2
        go_roundw
        case rel => exact ⟨1, rfl, by omega, fun _ => HX0.out, fun h => absurd h (by omega), trivial⟩
        case measure => simp [intOf]
      · have ez : (x != 0) = true := by simp [hx0]
        have hR := HR.out
        rw [if_neg hx0] at hR
        clear hx0 HR
        subst hR
        go_wp2
        go_ret
        exact ⟨rfl, rfl⟩
    · have hx0 := HF.out.1 (by omega)
      by_cases hy0 : y = 0
      · have HY0 : Hid (x = 0 ∧ y = 0) := ⟨hx0, hy0⟩
        have ez : (y != 0) = false := by simp [hy0]
        clear hx0 hy0 HF
        go_wp2
        go_roundw
        case rel => exact ⟨2, rfl, by omega, fun _ => HY0.out.1, fun _ => HY0.out.2, trivial⟩
        case measure => simp [intOf]
      · have ez : (y != 0) = true := by simp [hy0]
        have hR := HR.out
        rw [if_pos hx0] at hR
        clear hx0 hy0 HR HF
        subst hR
        go_wp2
        go_ret
        exact ⟨rfl, rfl⟩
    · have hx0 := HF.out.1 (by omega)
      have hy0 := HF.out.2 (by omega)
      have hR := HR.out
      rw [if_pos hx0, hy0] at hR
      clear hx0 hy0 HR HF
      subst hR
      go_wp2
      go_ret
      exact ⟨rfl, rfl⟩
/-- Compare of operations. -/
def cpK (p o : Opn) : Int := orI (cmI p.a o.a) (cmI p.s o.s)
theorem cmI_lt (p q : Int) : cmI p q < 0 ↔ p < q := by unfold cmI; split <;> (try split) <;> constructor <;> intro <;> omega
theorem cmI_zero (p q : Int) : cmI p q = 0 ↔ p = q := by unfold cmI; split <;> (try split) <;> constructor <;> intro <;> omega
theorem cpK_lt (p o : Opn) : cpK p o < 0 ↔ ltK p o := by
  unfold cpK orI ltK
  by_cases h : cmI p.a o.a = 0
  · rw [if_pos h, cmI_lt]
    rw [cmI_zero] at h
    constructor
    · intro h2; exact .inr ⟨h, h2⟩
    · intro h2; omega
  · rw [if_neg h, cmI_lt]
    rw [cmI_zero] at h
    constructor
    · intro h2; exact .inl h2
    · intro h2; omega
theorem cpK_zero (p o : Opn) : cpK p o = 0 ↔ eqK p o := by
  unfold cpK orI eqK
  by_cases h : cmI p.a o.a = 0
  · rw [if_pos h, cmI_zero]
    rw [cmI_zero] at h
    constructor
    · intro h2; exact ⟨h, h2⟩
    · intro h2; exact h2.2
  · rw [if_neg h]
    constructor
    · intro h2; exact absurd h2 h
    · intro h2; exact absurd ((cmI_zero _ _).2 h2.1) h
set_option maxRecDepth 100000 in
set_option maxHeartbeats 2000000 in
theorem cmpK_any (p o : Opn) (w : World) : Calls Try.prog 139 #[p.val, o.val] w fun e w' => e = .returned (.int .i64 (cpK p o)) ∧ Below w.heap.size w w' := by
  have HR : Hid (cpK p o = orI (cmI p.a o.a) (cmI p.s o.s)) := rfl
  have HC1 : Hid (∀ W : World, Calls Try.prog 160 #[.int .i64 p.a, .int .i64 o.a] W fun e w' => e = .returned (.int .i64 (cmI p.a o.a)) ∧ w' = W) := fun W => compare_any _ _ W
  have HC2 : Hid (∀ W : World, Calls Try.prog 160 #[.int .i64 p.s, .int .i64 o.s] W fun e w' => e = .returned (.int .i64 (cmI p.s o.s)) ∧ w' = W) := fun W => compare_any _ _ W
  generalize cpK p o = R at HR ⊢
  generalize cmI p.a o.a = u at HR HC1
  generalize cmI p.s o.s = v at HR HC2
  obtain ⟨pc, pa, ps, pi, prc, pra, pch⟩ := p
  obtain ⟨oc, oa, os, oi, orc, ora, och⟩ := o
  have HO : Hid (∀ (W : World), Calls Try.prog 159 #[.slice (some ⟨W.heap.size, 0, none⟩) 2 2] ((W.alloc (.cells #[.int .i64 u, .int .i64 v] 3)).drew) fun e w' => e = .returned (.int .i64 R) ∧ w' = (W.alloc (.cells #[.int .i64 u, .int .i64 v] 3)).drew) := fun W => by
    rw [HR.out]
    exact or_any u v _ _ (heap_alloc_new W _)
  have HB : Hid (∀ (x y z : Obj), Below w.heap.size w ((((w.alloc x).alloc y).alloc z).drew)) := fun x y z => ((((Below.refl _ w).alloc (Nat.le_refl _) x).alloc (by simp) y).alloc (by simp; omega) z).drew
  clear HR
  simp only [Opn.val] at HC1 HC2 ⊢
  go_enter Try.func139, Try.ntmps139
  go_upto_region 1 with fail
  obtain ⟨W0, hW0⟩ : ∃ W0, W0 = (w.alloc (.cells #[.int .i64 pc, .int .i64 pa, .int .i64 ps, .bool pi, .int .i64 prc, .int .i64 pra, .int .i32 pch] 34)).alloc (.cells #[.int .i64 oc, .int .i64 oa, .int .i64 os, .bool oi, .int .i64 orc, .int .i64 ora, .int .i32 och] 34) := ⟨_, rfl⟩
  have hp0 : W0.heap[w.heap.size]? = some (.cells #[.int .i64 pc, .int .i64 pa, .int .i64 ps, .bool pi, .int .i64 prc, .int .i64 pra, .int .i32 pch] 34 (0, 0)) := by
    rw [hW0]; exact (Below.heap_alloc _ _ _ (by simp)).trans (heap_alloc_new w _)
  have ho0 : W0.heap[w.heap.size + 1]? = some (.cells #[.int .i64 oc, .int .i64 oa, .int .i64 os, .bool oi, .int .i64 orc, .int .i64 ora, .int .i32 och] 34 (0, 0)) := by
    rw [hW0]
    have := heap_alloc_new (w.alloc (.cells #[.int .i64 pc, .int .i64 pa, .int .i64 ps, .bool pi, .int .i64 prc, .int .i64 pra, .int .i32 pch] 34)) (.cells #[.int .i64 oc, .int .i64 oa, .int .i64 os, .bool oi, .int .i64 orc, .int .i64 ora, .int .i32 och] 34)
    rwa [World.size_alloc] at this
  have HB1 : Hid (∀ z : Obj, Below w.heap.size w ((W0.alloc z).drew)) := fun z => by rw [hW0]; exact HB.out _ _ _
  rw [← hW0]
  clear hW0 HB
  refine wp_region_noPanic ?_
  refine wp_region_held_drew (S := (fun w' => w'.cell? ⟨w.heap.size, 1, none⟩ = some (.int .i64 pa) ∧ w'.cell? ⟨w.heap.size, 2, none⟩ = some (.int .i64 ps) ∧ w'.cell? ⟨w.heap.size + 1, 1, none⟩ = some (.int .i64 oa) ∧ w'.cell? ⟨w.heap.size + 1, 2, none⟩ = some (.int .i64 os))) (by kernel_rfl) (⟨cell_of_row W0.drew _ 1 _ _ _ hp0, cell_of_row W0.drew _ 2 _ _ _ hp0, cell_of_row W0.drew _ 1 _ _ _ ho0, cell_of_row W0.drew _ 2 _ _ _ ho0⟩) (fun hHeld => ?_)
  clear hp0 ho0
  refine wpAnyH_take (i := 0) (v := ?_) rfl (by kernel_rfl) (by kernel_rfl) (by kernel_rfl) (fun _ _ _ h => h) (Or.inl ⟨by rfl, ?_⟩) (by assumption) ?_
  rotate_left
  · intro W' hSw; obtain ⟨s0, s1, s2, s3⟩ := hSw; go_simp; try with_reducible rfl
  try simp only [Act.put, List.getElem_toArray, List.getElem_cons_succ, List.getElem_cons_zero, List.setIfInBounds_toArray, List.set_cons_zero, List.set_cons_succ]
  refine wpAnyH_take (i := 1) (v := ?_) rfl (by kernel_rfl) (by kernel_rfl) (by kernel_rfl) (fun _ _ _ h => h) (Or.inl ⟨by rfl, ?_⟩) (by assumption) ?_
  rotate_left
  · intro W' hSw; obtain ⟨s0, s1, s2, s3⟩ := hSw; go_simp; try with_reducible rfl
  try simp only [Act.put, List.getElem_toArray, List.getElem_cons_succ, List.getElem_cons_zero, List.setIfInBounds_toArray, List.set_cons_zero, List.set_cons_succ]
  refine wpAnyH_take (i := 2) (v := ?_) rfl (by kernel_rfl) (by kernel_rfl) (by kernel_rfl) (fun _ _ _ h => h) (Or.inl ⟨by rfl, ?_⟩) (by assumption) ?_
  rotate_left
  · intro W' hSw; obtain ⟨s0, s1, s2, s3⟩ := hSw; go_simp; try with_reducible rfl
  try simp only [Act.put, List.getElem_toArray, List.getElem_cons_succ, List.getElem_cons_zero, List.setIfInBounds_toArray, List.set_cons_zero, List.set_cons_succ]
  refine wpAnyH_take (i := 3) (v := ?_) rfl (by kernel_rfl) (by kernel_rfl) (by kernel_rfl) (fun _ _ _ h => h) (Or.inl ⟨by rfl, ?_⟩) (by assumption) ?_
  rotate_left
  · intro W' hSw; obtain ⟨s0, s1, s2, s3⟩ := hSw; go_simp; try with_reducible rfl
  try simp only [Act.put, List.getElem_toArray, List.getElem_cons_succ, List.getElem_cons_zero, List.setIfInBounds_toArray, List.set_cons_zero, List.set_cons_succ]
  refine wpAnyH_take (i := 4) (v := ?_) rfl (by kernel_rfl) (by kernel_rfl) (by kernel_rfl) (fun _ _ _ h => h) (Or.inl ⟨by rfl, ?_⟩) (by assumption) ?_
  rotate_left
  · intro W' hSw; obtain ⟨s0, s1, s2, s3⟩ := hSw; go_simp; try with_reducible rfl
  try simp only [Act.put, List.getElem_toArray, List.getElem_cons_succ, List.getElem_cons_zero, List.setIfInBounds_toArray, List.set_cons_zero, List.set_cons_succ]
  refine wpAnyH_take (i := 5) (v := ?_) rfl (by kernel_rfl) (by kernel_rfl) (by kernel_rfl) (fun _ _ _ h => h) (Or.inl ⟨by rfl, ?_⟩) (by assumption) ?_
  rotate_left
  · intro W' hSw; obtain ⟨s0, s1, s2, s3⟩ := hSw; go_simp; try with_reducible rfl
  try simp only [Act.put, List.getElem_toArray, List.getElem_cons_succ, List.getElem_cons_zero, List.setIfInBounds_toArray, List.set_cons_zero, List.set_cons_succ]
  refine wpAnyH_take (i := 7) (v := ?_) rfl (by kernel_rfl) (by kernel_rfl) (by kernel_rfl) (fun _ _ _ h => h) (Or.inl ⟨by rfl, ?_⟩) (by assumption) ?_
  rotate_left
  · intro W' hSw; obtain ⟨s0, s1, s2, s3⟩ := hSw; go_simp; try with_reducible rfl
  try simp only [Act.put, List.getElem_toArray, List.getElem_cons_succ, List.getElem_cons_zero, List.setIfInBounds_toArray, List.set_cons_zero, List.set_cons_succ]
  refine wpAnyH_take (i := 8) (v := ?_) rfl (by kernel_rfl) (by kernel_rfl) (by kernel_rfl) (fun _ _ _ h => h) (Or.inl ⟨by rfl, ?_⟩) (by assumption) ?_
  rotate_left
  · intro W' hSw; obtain ⟨s0, s1, s2, s3⟩ := hSw; go_simp; try with_reducible rfl
  try simp only [Act.put, List.getElem_toArray, List.getElem_cons_succ, List.getElem_cons_zero, List.setIfInBounds_toArray, List.set_cons_zero, List.set_cons_succ]
  refine wpAnyH_take (i := 9) (v := ?_) rfl (by kernel_rfl) (by kernel_rfl) (by kernel_rfl) (fun _ _ _ h => h) (Or.inl ⟨by rfl, ?_⟩) (by assumption) ?_
  rotate_left
  · intro W' hSw; obtain ⟨s0, s1, s2, s3⟩ := hSw; go_simp; try with_reducible rfl
  try simp only [Act.put, List.getElem_toArray, List.getElem_cons_succ, List.getElem_cons_zero, List.setIfInBounds_toArray, List.set_cons_zero, List.set_cons_succ]
  refine wpAnyH_take (i := 10) (v := ?_) rfl (by kernel_rfl) (by kernel_rfl) (by kernel_rfl) (fun _ _ _ h => h) (Or.inl ⟨by rfl, ?_⟩) (by assumption) ?_
  rotate_left
  · intro W' hSw; obtain ⟨s0, s1, s2, s3⟩ := hSw; go_simp; try with_reducible rfl
  try simp only [Act.put, List.getElem_toArray, List.getElem_cons_succ, List.getElem_cons_zero, List.setIfInBounds_toArray, List.set_cons_zero, List.set_cons_succ]
  refine wpAnyH_ready (rs := [6]) (by kernel_rfl) (by simp) ?_
  refine AllReadyH.cons rfl (fun KK hK => ?_) AllReadyH.nil
  go_simp
  refine (HC1.out _).mono ?_
  rintro e w2 ⟨rfl, rfl⟩
  refine hK.out _ _ hHeld (fun hHeld => ?_)
  clear hK KK
  try simp only [Act.put, List.getElem_toArray, List.getElem_cons_succ, List.getElem_cons_zero, List.setIfInBounds_toArray, List.set_cons_zero, List.set_cons_succ]
  refine wpAnyH_ready (rs := [11]) (by kernel_rfl) (by simp) ?_
  refine AllReadyH.cons rfl (fun KK hK => ?_) AllReadyH.nil
  go_simp
  refine (HC2.out _).mono ?_
  rintro e w2 ⟨rfl, rfl⟩
  refine hK.out _ _ hHeld (fun hHeld => ?_)
  clear hK KK
  try simp only [Act.put, List.getElem_toArray, List.getElem_cons_succ, List.getElem_cons_zero, List.setIfInBounds_toArray, List.set_cons_zero, List.set_cons_succ]
  refine wpAnyH_ready (rs := [12]) (by kernel_rfl) (by simp) ?_
  refine AllReadyH.cons rfl (fun KK hK => ?_) AllReadyH.nil
  go_simp
  refine hK.out _ _ ⟨upK ((Below.refl _ _).alloc (Nat.le_refl _) _) hHeld.1, upK ((Below.refl _ _).alloc (Nat.le_refl _) _) hHeld.2.1, upK ((Below.refl _ _).alloc (Nat.le_refl _) _) hHeld.2.2.1, upK ((Below.refl _ _).alloc (Nat.le_refl _) _) hHeld.2.2.2⟩ (fun hHeld => ?_)
  clear hK KK
  try simp only [Act.put, List.getElem_toArray, List.getElem_cons_succ, List.getElem_cons_zero, List.setIfInBounds_toArray, List.set_cons_zero, List.set_cons_succ]
  refine wpAnyH_ready (rs := [13]) (by kernel_rfl) (by simp) ?_
  refine AllReadyH.cons rfl (fun KK hK => ?_) AllReadyH.nil
  go_simp
  refine (HO.out _).mono ?_
  rintro e w2 ⟨rfl, rfl⟩
  refine hK.out _ _ hHeld (fun hHeld => ?_)
  clear hK KK
  try simp only [Act.put, List.getElem_toArray, List.getElem_cons_succ, List.getElem_cons_zero, List.setIfInBounds_toArray, List.set_cons_zero, List.set_cons_succ]
  refine wpAnyH_ready (rs := [14]) (by kernel_rfl) (by simp) ?_
  refine AllReadyH.cons rfl (fun KK hK => ?_) AllReadyH.nil
  go_simp
  refine hK.out _ _ hHeld (fun hHeld => ?_)
  clear hK KK
  try simp only [Act.put, List.getElem_toArray, List.getElem_cons_succ, List.getElem_cons_zero, List.setIfInBounds_toArray, List.set_cons_zero, List.set_cons_succ]
  refine wpAnyH_done (by kernel_rfl) ?_ _
  refine NoPanic.normal ?_
  clear hHeld
  go_wp2
  go_ret
  exact ⟨rfl, HB1.out _⟩
end Go.Proofs.Ytcbnmahbdcjamaa
