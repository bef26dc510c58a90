/- The walk of IdentOps: an operation is right just so. -/
import Derived.Test.YtfagmcgcdlboiaaIdS
namespace Go.Proofs.Ytfagmcgcdlboiaa
open Go.RowKit Go.Sort
set_option linter.unusedVariables false

theorem neq_id (c a : Int) (z : Bool) (hz : z = zrB c a) (W : World) : (binOp .neq 23 (.agg #[.int .i64 c, .int .i64 a]) (.agg #[.int .i64 0, .int .i64 0])).run Try.prog W = .ok (.bool (!z)) W := by
  subst hz
  unfold zrB
  by_cases h1 : c = 0 <;> by_cases h2 : a = 0 <;> go_simp
theorem ops_math (o : Opn) (h : opB o = true) : opB { o with rc := o.c, ra := 1 } = false ∧ opB { o with s := 0 } = false ∧ opB { o with ch := 55296 } = false ∧ opB { o with a := 4194304 } = false ∧ opB { o with ins := false, ch := 0 } = !(zrB o.rc o.ra) := by
  obtain ⟨c, a, s, ins, rc, ra, ch⟩ := o
  unfold opB at h
  simp only [Bool.and_eq_true] at h
  obtain ⟨⟨⟨h1, h2⟩, h3⟩, h4⟩ := h
  have hc : 1 ≤ c := by
    unfold idB at h1
    rw [Bool.and_eq_true] at h1
    exact ((cnB_iff c).1 h1.1).1
  refine ⟨?_, ?_, ?_, ?_, ?_⟩
  · have e : rrB ⟨c, a, s, ins, c, 1, ch⟩ = false := by
      unfold rrB
      have hz : zrB c 1 = false := by unfold zrB; rw [decide_eq_false (show ¬ c = 0 by omega)]; rfl
      simp only [hz]
      rw [if_neg (by simp), decide_eq_false (show ¬ c < c by omega), Bool.and_false]
    show (idB c a && cnB s && rrB ⟨c, a, s, ins, c, 1, ch⟩ && _) = false
    rw [e, Bool.and_false, Bool.false_and]
  · show (idB c a && cnB 0 && _ && _) = false
    have e : cnB 0 = false := rfl
    rw [e, Bool.and_false, Bool.false_and, Bool.false_and]
  · have e : ruB ⟨c, a, s, ins, rc, ra, 55296⟩ = false := by cases ins <;> rfl
    show (_ && _ && _ && ruB ⟨c, a, s, ins, rc, ra, 55296⟩) = false
    rw [e, Bool.and_false]
  · show (idB c 4194304 && _ && _ && _) = false
    have e : idB c 4194304 = false := by
      unfold idB
      have : auB 4194304 = false := rfl
      rw [this, Bool.and_false]
    rw [e, Bool.false_and, Bool.false_and, Bool.false_and]
  · show (idB c a && cnB s && rrB ⟨c, a, s, false, rc, ra, 0⟩ && ruB ⟨c, a, s, false, rc, ra, 0⟩) = _
    have e1 : ruB ⟨c, a, s, false, rc, ra, 0⟩ = true := rfl
    have e2 : rrB ⟨c, a, s, false, rc, ra, 0⟩ = !(zrB rc ra) := by
      unfold rrB at h3 ⊢
      simp only at h3 ⊢
      cases hz : zrB rc ra
      · rw [hz, if_neg (by simp)] at h3
        rw [if_neg (by simp), h3]
        rfl
      · rw [if_pos rfl]; rfl
    rw [e1, e2, Bool.and_true]
    have h1' : idB c a = true := h1
    have h2' : cnB s = true := h2
    rw [h1', h2']
    simp
abbrev Opn.arr (o : Opn) : Array Value := #[.int .i64 o.c, .int .i64 o.a, .int .i64 o.s, .bool o.ins, .int .i64 o.rc, .int .i64 o.ra, .int .i32 o.ch]
/-- Operations in blocks of their own. -/
def OpsW (W0 : World) (l : List (Nat × Opn)) (W : World) : Prop :=
  Below W0.heap.size W0 W ∧ (∀ p ∈ l, W.heap[p.1]? = some (.cells p.2.arr 25)) ∧ (l.map (·.1)).Nodup
theorem OpsW.alloc {W0 W W' : World} {l : List (Nat × Opn)} (h : OpsW W0 l W) (q : Opn) {M : Nat} (hM : M = W.heap.size) (hW : W' = W.alloc (.cells q.arr 25)) : OpsW W0 ((M, q) :: l) W' ∧ W0.heap.size ≤ M := by
  subst hM hW
  refine ⟨⟨h.1.alloc h.1.size _, fun p hp => ?_, ?_⟩, h.1.size⟩
  · rcases List.mem_cons.1 hp with rfl | hp
    · exact heap_alloc_new W _
    · have := h.2.1 p hp
      rw [Below.heap_alloc _ _ _ (Array.getElem?_eq_some_iff.1 this).1]
      exact this
  · rw [List.map_cons, List.nodup_cons]
    refine ⟨fun hm => ?_, h.2.2⟩
    obtain ⟨p, hp, e⟩ := List.mem_map.1 hm
    have := (Array.getElem?_eq_some_iff.1 (h.2.1 p hp)).1
    simp only at e
    omega
theorem OpsW.set {W0 W W' : World} {l : List (Nat × Opn)} {M : Nat} {q : Opn} (h : OpsW W0 ((M, q) :: l) W) (hM : W0.heap.size ≤ M) (o : Nat) (v : Value) (q' : Opn) (hq : q.arr.setIfInBounds o v = q'.arr) (hW : W' = W.setCell ⟨M, o, none⟩ v) : OpsW W0 ((M, q') :: l) W' := by
  subst hW
  refine ⟨h.1.setCell hM _, fun p hp => ?_, h.2.2⟩
  have hn := h.2.2
  rw [List.map_cons, List.nodup_cons] at hn
  rcases List.mem_cons.1 hp with rfl | hp
  · show (W.setCell ⟨M, o, none⟩ v).heap[M]? = _
    rw [heap_setCell W M o v _ _ _ (h.2.1 (M, q) (by simp)), hq]
  · have := h.2.1 p (by simp [hp])
    rw [Below.heap_setCell W ⟨M, o, none⟩ v p.1 (fun e => hn.1 (List.mem_map.2 ⟨p, hp, e⟩))]
    exact this
theorem OpsW.cells {W0 W : World} {l : List (Nat × Opn)} (h : OpsW W0 l W) (M : Nat) (q : Opn) (hm : (M, q) ∈ l) :
    (W.cell? ⟨M, 0, none⟩ = some (.int .i64 q.c) ∧ W.cell? ⟨M, 1, none⟩ = some (.int .i64 q.a) ∧ W.cell? ⟨M, 2, none⟩ = some (.int .i64 q.s) ∧ W.cell? ⟨M, 3, none⟩ = some (.bool q.ins) ∧ W.cell? ⟨M, 4, none⟩ = some (.int .i64 q.rc) ∧ W.cell? ⟨M, 5, none⟩ = some (.int .i64 q.ra) ∧ W.cell? ⟨M, 6, none⟩ = some (.int .i32 q.ch)) ∧ ∀ o, W.frozen? ⟨M, o, none⟩ = false := by
  have hb := h.2.1 (M, q) hm
  exact ⟨⟨cell_of_row W M 0 _ _ _ hb, cell_of_row W M 1 _ _ _ hb, cell_of_row W M 2 _ _ _ hb, cell_of_row W M 3 _ _ _ hb, cell_of_row W M 4 _ _ _ hb, cell_of_row W M 5 _ _ _ hb, cell_of_row W M 6 _ _ _ hb⟩, fun o => Lib.frozen_of_heap hb o⟩

set_option maxHeartbeats 2000000 in
theorem identOps_walk (o : Opn) (w : World) :
    Calls Try.prog 9 #[o.val] w fun e w' => e = .returned (.bool true) ∧ Below w.heap.size w w' := by
  have HS : Hid (∀ W : World, Calls Try.prog 10 #[] W fun e w' => e = .returned (.bool true) ∧ Below W.heap.size W w') := shown_any
  have HR : Hid (∀ (o : Opn) (W : World), Calls Try.prog 17 #[o.val] W fun e w' => e = .returned (.bool (opB o)) ∧ ∃ q os', w' = grow (W.drewN q) os') := right_any
  have hmath := ops_math o
  have H0 : Hid (∀ W : World, Calls Try.prog 17 #[o.val] W fun e w' => e = .returned (.bool (opB o)) ∧ Gw W w') := fun W => right_any o W
  have hq := neq_id o.rc o.ra _ rfl
  generalize opB o = R at H0 hmath
  obtain ⟨c, a, s, ins, rc, ra, ch⟩ := o
  simp only [Opn.val] at H0 hmath ⊢
  obtain ⟨N, hN⟩ : ∃ N, N = w.heap.size := ⟨_, rfl⟩
  obtain ⟨W0, hW0⟩ : ∃ W0, W0 = w.alloc (.cells #[.int .i64 c, .int .i64 a, .int .i64 s, .bool ins, .int .i64 rc, .int .i64 ra, .int .i32 ch] 25) := ⟨_, rfl⟩
  have HB0 : Hid (Below w.heap.size w W0 ∧ W0.heap.size = N + 1) := by
    show Below w.heap.size w W0 ∧ W0.heap.size = N + 1
    rw [hW0, hN]
    exact ⟨(Below.refl _ w).alloc (Nat.le_refl _) _, by simp⟩
  have HK : Hid (∀ w2, Below W0.heap.size W0 w2 → w2.cell? ⟨N, 0, none⟩ = some (.int .i64 c) ∧ w2.cell? ⟨N, 1, none⟩ = some (.int .i64 a) ∧ w2.cell? ⟨N, 2, none⟩ = some (.int .i64 s) ∧ w2.cell? ⟨N, 3, none⟩ = some (.bool ins) ∧ w2.cell? ⟨N, 4, none⟩ = some (.int .i64 rc) ∧ w2.cell? ⟨N, 5, none⟩ = some (.int .i64 ra) ∧ w2.cell? ⟨N, 6, none⟩ = some (.int .i32 ch)) := by
    intro w2 h2
    have hb := h2.block N (by rw [HB0.out.2]; omega)
    rw [hW0, hN, heap_alloc_new w _, ← hN] at hb
    exact ⟨cell_of_row w2 N 0 _ _ _ hb, cell_of_row w2 N 1 _ _ _ hb, cell_of_row w2 N 2 _ _ _ hb, cell_of_row w2 N 3 _ _ _ hb, cell_of_row w2 N 4 _ _ _ hb, cell_of_row w2 N 5 _ _ _ hb, cell_of_row w2 N 6 _ _ _ hb⟩
  have HNB : Hid (∀ w2, Below W0.heap.size W0 w2 → w2.heap[N]? = some (.cells #[.int .i64 c, .int .i64 a, .int .i64 s, .bool ins, .int .i64 rc, .int .i64 ra, .int .i32 ch] 25)) := by
    intro w2 h2
    have hb := h2.block N (by rw [HB0.out.2]; omega)
    rw [hW0, hN, heap_alloc_new w _, ← hN] at hb
    exact hb
  have mixed : Try.prog.follows .mixedOrders = true := by kernel_rfl
  go_enter Try.func9, Try.ntmps9
  go_upto_region 1 with fail
  rw [← hW0, ← hN]
  have HFIN : Hid (∀ w', Below W0.heap.size W0 w' → Below w.heap.size w w') := fun w' h => HB0.out.1.trans (h.mono HB0.out.1.size)
  clear hW0 hN
  go_upto_region 2 with (first | (go_at_call 10; refine (HS.out _).mono ?_; rintro e w1 ⟨rfl, hb⟩; have HB1 : Hid (Below W0.heap.size W0 w1) := hb; obtain ⟨k0, k1, k2, k3, k4, k5, k6⟩ := HK.out w1 hb; clear hb))
  cases R
  · go_wp2_with (first | (go_at_call 17; refine (H0.out _).mono ?_; rintro e w2 ⟨rfl, hg⟩; have HB2 : Hid (Below W0.heap.size W0 w2) := HB1.out.trans (hg.below.mono HB1.out.size); clear hg))
    go_ret
    exact ⟨rfl, HFIN.out _ HB2.out⟩
  · obtain ⟨m1, m2, m3, m4, m5⟩ := hmath rfl
    clear hmath
    go_upto_region 4 with (first | (go_at_call 17; refine (H0.out _).mono ?_; rintro e w2 ⟨rfl, hg⟩; have HB2 : Hid (Below W0.heap.size W0 w2) := HB1.out.trans (hg.below.mono HB1.out.size); clear hg k0 k1 k2 k3 k4 k5 k6; obtain ⟨k0, k1, k2, k3, k4, k5, k6⟩ := HK.out w2 HB2.out))
    generalize hzz : zrB rc ra = z at hq m5
    have HOPS : Hid (OpsW W0 [(N, ⟨c, a, s, ins, rc, ra, ch⟩)] w2) := by
      refine ⟨HB2.out, fun p hp => ?_, by simp⟩
      obtain rfl := List.mem_singleton.1 hp
      exact HNB.out _ HB2.out
    clear k0 k1 k2 k3 k4 k5 k6
    obtain ⟨⟨k0, k1, k2, k3, k4, k5, k6⟩, fzN⟩ := HOPS.out.cells N ⟨c, a, s, ins, rc, ra, ch⟩ (by simp)
    simp only [] at k0 k1 k2 k3 k4 k5 k6
    go_upto_region 5 with fail
    obtain ⟨M1, hM1⟩ : ∃ M, M = w2.heap.size := ⟨_, rfl⟩
    obtain ⟨V1, hV1⟩ : ∃ W, W = w2.alloc (.cells #[.int .i64 c, .int .i64 a, .int .i64 s, .bool ins, .int .i64 rc, .int .i64 ra, .int .i32 ch] 25) := ⟨_, rfl⟩
    rw [← hM1, ← hV1]
    obtain ⟨hal, hMl⟩ := HOPS.out.alloc ⟨c, a, s, ins, rc, ra, ch⟩ hM1 hV1
    have HO1 : Hid (OpsW W0 ((M1, ⟨c, a, s, ins, rc, ra, ch⟩) :: [(N, ⟨c, a, s, ins, rc, ra, ch⟩)]) V1) := hal
    have HLM1 : Hid (W0.heap.size ≤ M1) := hMl
    clear hal hMl hM1 hV1
    clear k0 k1 k2 k3 k4 k5 k6 fzN
    obtain ⟨⟨k0, k1, k2, k3, k4, k5, k6⟩, fzN⟩ := HO1.out.cells N ⟨c, a, s, ins, rc, ra, ch⟩ (by simp)
    simp only [] at k0 k1 k2 k3 k4 k5 k6
    obtain ⟨⟨j0, j1, j2, j3, j4, j5, j6⟩, fz⟩ := HO1.out.cells M1 ⟨c, a, s, ins, rc, ra, ch⟩ (by simp)
    simp only [] at j0 j1 j2 j3 j4 j5 j6
    go_upto_region 6 with fail
    obtain ⟨V2, hV2⟩ : ∃ W, W = ((V1.setCell ⟨M1, 4, none⟩ (.int .i64 c)).setCell ⟨M1, 5, none⟩ (.int .i64 1)) := ⟨_, rfl⟩
    rw [← hV2]
    have HO2 : Hid (OpsW W0 ((M1, ⟨c, a, s, ins, c, 1, ch⟩) :: [(N, ⟨c, a, s, ins, rc, ra, ch⟩)]) V2) := ((((HO1.out).set HLM1.out 4 (.int .i64 c) ⟨c, a, s, ins, c, ra, ch⟩ rfl rfl)).set HLM1.out 5 (.int .i64 1) ⟨c, a, s, ins, c, 1, ch⟩ rfl hV2)
    clear hV2
    clear k0 k1 k2 k3 k4 k5 k6 fzN j0 j1 j2 j3 j4 j5 j6 fz
    obtain ⟨⟨k0, k1, k2, k3, k4, k5, k6⟩, fzN⟩ := HO2.out.cells N ⟨c, a, s, ins, rc, ra, ch⟩ (by simp)
    simp only [] at k0 k1 k2 k3 k4 k5 k6
    go_upto_region 7 with fail
    obtain ⟨M2, hM2⟩ : ∃ M, M = V2.heap.size := ⟨_, rfl⟩
    obtain ⟨V3, hV3⟩ : ∃ W, W = V2.alloc (.cells #[.int .i64 c, .int .i64 a, .int .i64 s, .bool ins, .int .i64 rc, .int .i64 ra, .int .i32 ch] 25) := ⟨_, rfl⟩
    rw [← hM2, ← hV3]
    obtain ⟨hal, hMl⟩ := HO2.out.alloc ⟨c, a, s, ins, rc, ra, ch⟩ hM2 hV3
    have HO3 : Hid (OpsW W0 ((M2, ⟨c, a, s, ins, rc, ra, ch⟩) :: ((M1, ⟨c, a, s, ins, c, 1, ch⟩) :: [(N, ⟨c, a, s, ins, rc, ra, ch⟩)])) V3) := hal
    have HLM2 : Hid (W0.heap.size ≤ M2) := hMl
    clear hal hMl hM2 hV3
    clear k0 k1 k2 k3 k4 k5 k6 fzN
    obtain ⟨⟨k0, k1, k2, k3, k4, k5, k6⟩, fzN⟩ := HO3.out.cells N ⟨c, a, s, ins, rc, ra, ch⟩ (by simp)
    simp only [] at k0 k1 k2 k3 k4 k5 k6
    obtain ⟨⟨j0, j1, j2, j3, j4, j5, j6⟩, fz⟩ := HO3.out.cells M2 ⟨c, a, s, ins, rc, ra, ch⟩ (by simp)
    simp only [] at j0 j1 j2 j3 j4 j5 j6
    go_upto_region 8 with fail
    obtain ⟨V4, hV4⟩ : ∃ W, W = (V3.setCell ⟨M2, 2, none⟩ (.int .i64 0)) := ⟨_, rfl⟩
    rw [← hV4]
    have HO4 : Hid (OpsW W0 ((M2, ⟨c, a, 0, ins, rc, ra, ch⟩) :: ((M1, ⟨c, a, s, ins, c, 1, ch⟩) :: [(N, ⟨c, a, s, ins, rc, ra, ch⟩)])) V4) := ((HO3.out).set HLM2.out 2 (.int .i64 0) ⟨c, a, 0, ins, rc, ra, ch⟩ rfl hV4)
    clear hV4
    clear k0 k1 k2 k3 k4 k5 k6 fzN j0 j1 j2 j3 j4 j5 j6 fz
    obtain ⟨⟨k0, k1, k2, k3, k4, k5, k6⟩, fzN⟩ := HO4.out.cells N ⟨c, a, s, ins, rc, ra, ch⟩ (by simp)
    simp only [] at k0 k1 k2 k3 k4 k5 k6
    go_upto_region 9 with fail
    obtain ⟨M3, hM3⟩ : ∃ M, M = V4.heap.size := ⟨_, rfl⟩
    obtain ⟨V5, hV5⟩ : ∃ W, W = V4.alloc (.cells #[.int .i64 c, .int .i64 a, .int .i64 s, .bool ins, .int .i64 rc, .int .i64 ra, .int .i32 ch] 25) := ⟨_, rfl⟩
    rw [← hM3, ← hV5]
    obtain ⟨hal, hMl⟩ := HO4.out.alloc ⟨c, a, s, ins, rc, ra, ch⟩ hM3 hV5
    have HO5 : Hid (OpsW W0 ((M3, ⟨c, a, s, ins, rc, ra, ch⟩) :: ((M2, ⟨c, a, 0, ins, rc, ra, ch⟩) :: ((M1, ⟨c, a, s, ins, c, 1, ch⟩) :: [(N, ⟨c, a, s, ins, rc, ra, ch⟩)]))) V5) := hal
    have HLM3 : Hid (W0.heap.size ≤ M3) := hMl
    clear hal hMl hM3 hV5
    clear k0 k1 k2 k3 k4 k5 k6 fzN
    obtain ⟨⟨k0, k1, k2, k3, k4, k5, k6⟩, fzN⟩ := HO5.out.cells N ⟨c, a, s, ins, rc, ra, ch⟩ (by simp)
    simp only [] at k0 k1 k2 k3 k4 k5 k6
    obtain ⟨⟨j0, j1, j2, j3, j4, j5, j6⟩, fz⟩ := HO5.out.cells M3 ⟨c, a, s, ins, rc, ra, ch⟩ (by simp)
    simp only [] at j0 j1 j2 j3 j4 j5 j6
    go_upto_region 10 with fail
    obtain ⟨V6, hV6⟩ : ∃ W, W = (V5.setCell ⟨M3, 6, none⟩ (.int .i32 55296)) := ⟨_, rfl⟩
    rw [← hV6]
    have HO6 : Hid (OpsW W0 ((M3, ⟨c, a, s, ins, rc, ra, 55296⟩) :: ((M2, ⟨c, a, 0, ins, rc, ra, ch⟩) :: ((M1, ⟨c, a, s, ins, c, 1, ch⟩) :: [(N, ⟨c, a, s, ins, rc, ra, ch⟩)]))) V6) := ((HO5.out).set HLM3.out 6 (.int .i32 55296) ⟨c, a, s, ins, rc, ra, 55296⟩ rfl hV6)
    clear hV6
    clear k0 k1 k2 k3 k4 k5 k6 fzN j0 j1 j2 j3 j4 j5 j6 fz
    obtain ⟨⟨k0, k1, k2, k3, k4, k5, k6⟩, fzN⟩ := HO6.out.cells N ⟨c, a, s, ins, rc, ra, ch⟩ (by simp)
    simp only [] at k0 k1 k2 k3 k4 k5 k6
    go_upto_region 11 with fail
    obtain ⟨M4, hM4⟩ : ∃ M, M = V6.heap.size := ⟨_, rfl⟩
    obtain ⟨V7, hV7⟩ : ∃ W, W = V6.alloc (.cells #[.int .i64 c, .int .i64 a, .int .i64 s, .bool ins, .int .i64 rc, .int .i64 ra, .int .i32 ch] 25) := ⟨_, rfl⟩
    rw [← hM4, ← hV7]
    obtain ⟨hal, hMl⟩ := HO6.out.alloc ⟨c, a, s, ins, rc, ra, ch⟩ hM4 hV7
    have HO7 : Hid (OpsW W0 ((M4, ⟨c, a, s, ins, rc, ra, ch⟩) :: ((M3, ⟨c, a, s, ins, rc, ra, 55296⟩) :: ((M2, ⟨c, a, 0, ins, rc, ra, ch⟩) :: ((M1, ⟨c, a, s, ins, c, 1, ch⟩) :: [(N, ⟨c, a, s, ins, rc, ra, ch⟩)])))) V7) := hal
    have HLM4 : Hid (W0.heap.size ≤ M4) := hMl
    clear hal hMl hM4 hV7
    clear k0 k1 k2 k3 k4 k5 k6 fzN
    obtain ⟨⟨k0, k1, k2, k3, k4, k5, k6⟩, fzN⟩ := HO7.out.cells N ⟨c, a, s, ins, rc, ra, ch⟩ (by simp)
    simp only [] at k0 k1 k2 k3 k4 k5 k6
    obtain ⟨⟨j0, j1, j2, j3, j4, j5, j6⟩, fz⟩ := HO7.out.cells M4 ⟨c, a, s, ins, rc, ra, ch⟩ (by simp)
    simp only [] at j0 j1 j2 j3 j4 j5 j6
    go_upto_region 12 with fail
    obtain ⟨V8, hV8⟩ : ∃ W, W = (V7.setCell ⟨M4, 1, none⟩ (.int .i64 4194304)) := ⟨_, rfl⟩
    rw [← hV8]
    have HO8 : Hid (OpsW W0 ((M4, ⟨c, 4194304, s, ins, rc, ra, ch⟩) :: ((M3, ⟨c, a, s, ins, rc, ra, 55296⟩) :: ((M2, ⟨c, a, 0, ins, rc, ra, ch⟩) :: ((M1, ⟨c, a, s, ins, c, 1, ch⟩) :: [(N, ⟨c, a, s, ins, rc, ra, ch⟩)])))) V8) := ((HO7.out).set HLM4.out 1 (.int .i64 4194304) ⟨c, 4194304, s, ins, rc, ra, ch⟩ rfl hV8)
    clear hV8
    clear k0 k1 k2 k3 k4 k5 k6 fzN j0 j1 j2 j3 j4 j5 j6 fz
    obtain ⟨⟨k0, k1, k2, k3, k4, k5, k6⟩, fzN⟩ := HO8.out.cells N ⟨c, a, s, ins, rc, ra, ch⟩ (by simp)
    simp only [] at k0 k1 k2 k3 k4 k5 k6
    go_upto_region 13 with fail
    obtain ⟨M5, hM5⟩ : ∃ M, M = V8.heap.size := ⟨_, rfl⟩
    obtain ⟨V9, hV9⟩ : ∃ W, W = V8.alloc (.cells #[.int .i64 c, .int .i64 a, .int .i64 s, .bool ins, .int .i64 rc, .int .i64 ra, .int .i32 ch] 25) := ⟨_, rfl⟩
    rw [← hM5, ← hV9]
    obtain ⟨hal, hMl⟩ := HO8.out.alloc ⟨c, a, s, ins, rc, ra, ch⟩ hM5 hV9
    have HO9 : Hid (OpsW W0 ((M5, ⟨c, a, s, ins, rc, ra, ch⟩) :: ((M4, ⟨c, 4194304, s, ins, rc, ra, ch⟩) :: ((M3, ⟨c, a, s, ins, rc, ra, 55296⟩) :: ((M2, ⟨c, a, 0, ins, rc, ra, ch⟩) :: ((M1, ⟨c, a, s, ins, c, 1, ch⟩) :: [(N, ⟨c, a, s, ins, rc, ra, ch⟩)]))))) V9) := hal
    have HLM5 : Hid (W0.heap.size ≤ M5) := hMl
    clear hal hMl hM5 hV9
    clear k0 k1 k2 k3 k4 k5 k6 fzN
    obtain ⟨⟨k0, k1, k2, k3, k4, k5, k6⟩, fzN⟩ := HO9.out.cells N ⟨c, a, s, ins, rc, ra, ch⟩ (by simp)
    simp only [] at k0 k1 k2 k3 k4 k5 k6
    obtain ⟨⟨j0, j1, j2, j3, j4, j5, j6⟩, fz⟩ := HO9.out.cells M5 ⟨c, a, s, ins, rc, ra, ch⟩ (by simp)
    simp only [] at j0 j1 j2 j3 j4 j5 j6
    go_upto_region 14 with fail
    obtain ⟨V10, hV10⟩ : ∃ W, W = (V9.setCell ⟨M5, 3, none⟩ (.bool false)) := ⟨_, rfl⟩
    rw [← hV10]
    have HO10 : Hid (OpsW W0 ((M5, ⟨c, a, s, false, rc, ra, ch⟩) :: ((M4, ⟨c, 4194304, s, ins, rc, ra, ch⟩) :: ((M3, ⟨c, a, s, ins, rc, ra, 55296⟩) :: ((M2, ⟨c, a, 0, ins, rc, ra, ch⟩) :: ((M1, ⟨c, a, s, ins, c, 1, ch⟩) :: [(N, ⟨c, a, s, ins, rc, ra, ch⟩)]))))) V10) := ((HO9.out).set HLM5.out 3 (.bool false) ⟨c, a, s, false, rc, ra, ch⟩ rfl hV10)
    clear hV10
    clear k0 k1 k2 k3 k4 k5 k6 fzN j0 j1 j2 j3 j4 j5 j6 fz
    obtain ⟨⟨k0, k1, k2, k3, k4, k5, k6⟩, fzN⟩ := HO10.out.cells N ⟨c, a, s, ins, rc, ra, ch⟩ (by simp)
    simp only [] at k0 k1 k2 k3 k4 k5 k6
    obtain ⟨⟨j0, j1, j2, j3, j4, j5, j6⟩, fz⟩ := HO10.out.cells M5 ⟨c, a, s, false, rc, ra, ch⟩ (by simp)
    simp only [] at j0 j1 j2 j3 j4 j5 j6
    go_upto_region 15 with fail
    obtain ⟨V11, hV11⟩ : ∃ W, W = (V10.setCell ⟨M5, 6, none⟩ (.int .i32 0)) := ⟨_, rfl⟩
    rw [← hV11]
    have HO11 : Hid (OpsW W0 ((M5, ⟨c, a, s, false, rc, ra, 0⟩) :: ((M4, ⟨c, 4194304, s, ins, rc, ra, ch⟩) :: ((M3, ⟨c, a, s, ins, rc, ra, 55296⟩) :: ((M2, ⟨c, a, 0, ins, rc, ra, ch⟩) :: ((M1, ⟨c, a, s, ins, c, 1, ch⟩) :: [(N, ⟨c, a, s, ins, rc, ra, ch⟩)]))))) V11) := ((HO10.out).set HLM5.out 6 (.int .i32 0) ⟨c, a, s, false, rc, ra, 0⟩ rfl hV11)
    clear hV11
    clear k0 k1 k2 k3 k4 k5 k6 fzN j0 j1 j2 j3 j4 j5 j6 fz
    obtain ⟨⟨k0, k1, k2, k3, k4, k5, k6⟩, _⟩ := HO11.out.cells N ⟨c, a, s, ins, rc, ra, ch⟩ (by simp)
    simp only [] at k0 k1 k2 k3 k4 k5 k6
    replace k4 := cell_g k4; replace k5 := cell_g k5
    clear k0 k1 k2 k3 k6
    obtain ⟨⟨p00, p01, p02, p03, p04, p05, p06⟩, _⟩ := HO11.out.cells M1 ⟨c, a, s, ins, c, 1, ch⟩ (by simp)
    simp only [] at p00 p01 p02 p03 p04 p05 p06
    replace p00 := cell_g p00
    replace p01 := cell_g p01
    replace p02 := cell_g p02
    replace p03 := cell_g p03
    replace p04 := cell_g p04
    replace p05 := cell_g p05
    replace p06 := cell_g p06
    obtain ⟨⟨p10, p11, p12, p13, p14, p15, p16⟩, _⟩ := HO11.out.cells M2 ⟨c, a, 0, ins, rc, ra, ch⟩ (by simp)
    simp only [] at p10 p11 p12 p13 p14 p15 p16
    replace p10 := cell_g p10
    replace p11 := cell_g p11
    replace p12 := cell_g p12
    replace p13 := cell_g p13
    replace p14 := cell_g p14
    replace p15 := cell_g p15
    replace p16 := cell_g p16
    obtain ⟨⟨p20, p21, p22, p23, p24, p25, p26⟩, _⟩ := HO11.out.cells M3 ⟨c, a, s, ins, rc, ra, 55296⟩ (by simp)
    simp only [] at p20 p21 p22 p23 p24 p25 p26
    replace p20 := cell_g p20
    replace p21 := cell_g p21
    replace p22 := cell_g p22
    replace p23 := cell_g p23
    replace p24 := cell_g p24
    replace p25 := cell_g p25
    replace p26 := cell_g p26
    obtain ⟨⟨p30, p31, p32, p33, p34, p35, p36⟩, _⟩ := HO11.out.cells M4 ⟨c, 4194304, s, ins, rc, ra, ch⟩ (by simp)
    simp only [] at p30 p31 p32 p33 p34 p35 p36
    replace p30 := cell_g p30
    replace p31 := cell_g p31
    replace p32 := cell_g p32
    replace p33 := cell_g p33
    replace p34 := cell_g p34
    replace p35 := cell_g p35
    replace p36 := cell_g p36
    obtain ⟨⟨p40, p41, p42, p43, p44, p45, p46⟩, _⟩ := HO11.out.cells M5 ⟨c, a, s, false, rc, ra, 0⟩ (by simp)
    simp only [] at p40 p41 p42 p43 p44 p45 p46
    replace p40 := cell_g p40
    replace p41 := cell_g p41
    replace p42 := cell_g p42
    replace p43 := cell_g p43
    replace p44 := cell_g p44
    replace p45 := cell_g p45
    replace p46 := cell_g p46
    have HR0 : Hid (∀ W : World, Calls Try.prog 17 #[.agg #[.int .i64 c, .int .i64 a, .int .i64 s, .bool ins, .int .i64 c, .int .i64 1, .int .i32 ch]] W fun e w' => e = .returned (.bool false) ∧ ∃ q os', w' = grow (W.drewN q) os') := fun W => by rw [← m1]; exact HR.out ⟨c, a, s, ins, c, 1, ch⟩ W
    have HR1 : Hid (∀ W : World, Calls Try.prog 17 #[.agg #[.int .i64 c, .int .i64 a, .int .i64 0, .bool ins, .int .i64 rc, .int .i64 ra, .int .i32 ch]] W fun e w' => e = .returned (.bool false) ∧ ∃ q os', w' = grow (W.drewN q) os') := fun W => by rw [← m2]; exact HR.out ⟨c, a, 0, ins, rc, ra, ch⟩ W
    have HR2 : Hid (∀ W : World, Calls Try.prog 17 #[.agg #[.int .i64 c, .int .i64 a, .int .i64 s, .bool ins, .int .i64 rc, .int .i64 ra, .int .i32 55296]] W fun e w' => e = .returned (.bool false) ∧ ∃ q os', w' = grow (W.drewN q) os') := fun W => by rw [← m3]; exact HR.out ⟨c, a, s, ins, rc, ra, 55296⟩ W
    have HR3 : Hid (∀ W : World, Calls Try.prog 17 #[.agg #[.int .i64 c, .int .i64 4194304, .int .i64 s, .bool ins, .int .i64 rc, .int .i64 ra, .int .i32 ch]] W fun e w' => e = .returned (.bool false) ∧ ∃ q os', w' = grow (W.drewN q) os') := fun W => by rw [← m4]; exact HR.out ⟨c, 4194304, s, ins, rc, ra, ch⟩ W
    have HR4 : Hid (∀ W : World, Calls Try.prog 17 #[.agg #[.int .i64 c, .int .i64 a, .int .i64 s, .bool false, .int .i64 rc, .int .i64 ra, .int .i32 0]] W fun e w' => e = .returned (.bool (!z)) ∧ ∃ q os', w' = grow (W.drewN q) os') := fun W => by rw [← m5]; exact HR.out ⟨c, a, s, false, rc, ra, 0⟩ W
    have HBL : Hid (Below W0.heap.size W0 V11) := HO11.out.1
    clear m1 m2 m3 m4 m5 hzz
    cases z
    all_goals
      go_quiet_grown (first | (go_at_call 17; first | with_reducible exact Calls.grown_of (HR0.out _) | with_reducible exact Calls.grown_of (HR1.out _) | with_reducible exact Calls.grown_of (HR2.out _) | with_reducible exact Calls.grown_of (HR3.out _) | with_reducible exact Calls.grown_of (HR4.out _)))
      go_wp2
      go_ret
      exact ⟨rfl, HFIN.out _ (HBL.out.trans ((Gw.below ⟨_, _, rfl⟩).mono HBL.out.size))⟩
end Go.Proofs.Ytfagmcgcdlboiaa
