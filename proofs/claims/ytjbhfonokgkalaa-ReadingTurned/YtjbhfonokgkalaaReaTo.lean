/- The walk of turn. -/
import Derived.Test.YtjbhfonokgkalaaReaTn
import Derived.Deep.RegionHeld3
namespace Go.Proofs.Ytjbhfonokgkalaa
open Go.RowKit
set_option linter.unusedVariables false
set_option linter.unusedSimpArgs false

theorem info_nd : (Try.prog.info? 33).map (fun i => (i.zero, i.size, i.bytes)) = some (some (.agg #[.int .i64 0, .slice none 0 0, .slice none 0 0]), 3, 56) := by kernel_rfl
theorem grownTT (w : World) (g : Nat) (v : Value) : w.grownBy (w.setCell ⟨g, 2, none⟩ v) (some g) :=
  ⟨rfl, rfl, rfl, by simp [World.setCell], fun k _ hk => Below.heap_setCell _ _ _ k (fun e => hk (by rw [e]))⟩
theorem results_cell_oneT {fn : Func} {p : Tmp} {ty : TypeId} (h : fn.results = #[.cell p ty]) (tmps : Array Value) (P : Program) (w : World) :
    (results fn tmps).run P w = ((asAddr (tmps.getD p undef)).run P w).andThen fun a w₁ => (loadVar ty a).run P w₁ := by
  simp only [results, h]
  simp [Sem.run_bind, Result.andThen]
/-- What turn leaves. -/
def TurPost (B : Nat) (D : Nat) (n : Nd) (w : World) (e : Ending) (w' : World) : Prop :=
  ∃ x : Nk, e = .returned (.agg #[.int .i64 x.op, .slice x.ca x.cn x.cc, .slice x.pa x.pn x.pc]) ∧ InQ (fun b => b < B ∨ w.heap.size ≤ b) w' D n.turn x.vals ∧ Below w.heap.size w w'
def TurC (D : Nat) : Prop := ∀ (n : Nd) (ca pa : Option Addr) (cc pc : Nat) (B : Nat) (w : World), InQ (fun b => b < B) w D n [.int .i64 n.op, .slice ca n.cl.length cc, .slice pa (toL n.kids).length pc] → B ≤ w.heap.size →
  Calls Try.prog 19 #[.agg #[.int .i64 n.op, .slice ca n.cl.length cc, .slice pa (toL n.kids).length pc]] w (TurPost B D n w)
set_option maxRecDepth 100000 in
set_option maxHeartbeats 16000000 in
theorem turn_up (D : Nat) (HP : TurC D) : TurC (D + 1) := by
  intro n ca pa cc pc B w hin hB
  have HPC : Hid (TurC D) := HP
  have HIN : Hid (InQ (fun b => b < B) w (D + 1) n [.int .i64 n.op, .slice ca n.cl.length cc, .slice pa (toL n.kids).length pc]) := hin
  have hb := (hin.inV (D + 1)).bounds
  have hcls := (hin.inV (D + 1)).classes
  have hclb : 0 < n.cl.length → ∀ x, ca = some x → x.block < B := by
    obtain ⟨ca', cc', pa', pc', hv, _, h3, _⟩ := hin
    simp only [List.cons.injEq, Value.slice.injEq] at hv
    rw [hv.2.1.1]
    exact h3
  obtain ⟨i0, ji, jz0, jz1, jz2⟩ := info_parts info_nd
  have HI : Hid (Try.prog.info? 33 = some i0 ∧ i0.zero = some (.agg #[.int .i64 0, .slice none 0 0, .slice none 0 0]) ∧ i0.size = 3 ∧ i0.bytes = 56) := ⟨ji, jz0, jz1, jz2⟩
  obtain ⟨cn, hcn⟩ : ∃ cn, cn = n.cl.length := ⟨_, rfl⟩
  obtain ⟨kl, hkl⟩ : ∃ kl, kl = toL n.kids := ⟨_, rfl⟩
  obtain ⟨K, hK⟩ : ∃ K, K = kl.length := ⟨_, rfl⟩
  obtain ⟨op, hop⟩ : ∃ op, op = n.op := ⟨_, rfl⟩
  have HL : Hid (kl = toL n.kids ∧ K = kl.length ∧ op = n.op ∧ cn = n.cl.length) := ⟨hkl, hK, hop, hcn⟩
  have HFN : Hid (∀ (V : World) (v : Value) (ys : List Nk), Below w.heap.size w V → TnAt B (w.heap.size + 3) (w.heap.size + 2) D n ca cc K v ys V → ∃ av cv, v = .slice av K cv ∧ InQ (fun b => b < B ∨ w.heap.size + 3 ≤ b) V (D + 1) n.turn [.int .i64 op, .slice ca cn cc, .slice av K cv]) := by
    intro V v ys hV h
    rw [hK, hkl] at h
    rw [hK, hkl, hop, hcn]
    exact h.fin (hcls.1.later hV) hclb hcls.2 hb (Nat.le_refl _)
  have HKID : Hid (∀ (V : World) (j : Nat) (hj : j < kl.length), Below w.heap.size w V → ∃ b off xo xa xn xc ya xk yc, b < w.heap.size ∧ pa = some ⟨b, off, none⟩ ∧ V.cell? ⟨b, off + j * 3, none⟩ = some (.int .i64 xo) ∧ V.cell? ⟨b, off + j * 3 + 1, none⟩ = some (.slice xa xn xc) ∧ V.cell? ⟨b, off + j * 3 + 2, none⟩ = some (.slice ya xk yc) ∧ ∀ V2 : World, Below V.heap.size V V2 → Calls Try.prog 19 #[.agg #[.int .i64 xo, .slice xa xn xc, .slice ya xk yc]] V2 (TurPost B D kl[j] V2)) := by
    intro V j hj hV
    have hj2 : j < (toL n.kids).length := by rw [← hkl]; exact hj
    obtain ⟨b, off, xa, xc, ya, yc, D', hpa, hkid, hD', c0, c1, c2⟩ := (HIN.out.later hV (D + 1)).kid j hj2
    obtain rfl : D' = D := by omega
    have he : (toL n.kids)[j] = kl[j] := by simp only [hkl]
    rw [he] at hkid c0 c1 c2
    have hbw : b < w.heap.size := by
      obtain ⟨b', off', _, _, _, _, _, hpa', _, _, k0, _, _⟩ := HIN.out.kid j hj2
      rw [hpa] at hpa'
      cases hpa'
      exact World.block_lt_of_cell? w _ k0
    exact ⟨b, off, _, xa, _, xc, ya, _, yc, hbw, hpa, c0, c1, c2, fun V2 hV2 => HPC.out kl[j] xa ya xc yc B V2 (hkid.later hV2 D') (Nat.le_trans hB (Nat.le_trans hV.size hV2.size))⟩
  obtain ⟨H, hH⟩ : ∃ H, H = w.heap.size := ⟨_, rfl⟩
  obtain ⟨w1, hw1⟩ : ∃ w1, w1 = w.alloc (.cells #[.int .i64 op, .slice ca cn cc, .slice pa K pc] 33) := ⟨_, rfl⟩
  obtain ⟨w2, hw2⟩ : ∃ w2, w2 = w1.alloc (.cells #[.int .i64 0, .slice none 0 0, .slice none 0 0] 33) := ⟨_, rfl⟩
  obtain ⟨wA, hwA⟩ : ∃ wA, wA = w2.alloc (.cells #[.int .i64 op, .slice ca cn cc, .slice none 0 0] 33) := ⟨_, rfl⟩
  have hs1 : w1.heap.size = H + 1 := by rw [hw1, hH]; simp
  have hs2 : w2.heap.size = H + 2 := by rw [hw2]; simp [hs1]
  have hsA : wA.heap.size = H + 3 := by rw [hwA]; simp [hs2]
  have hb1 : Below w.heap.size w w1 := by rw [hw1]; exact (Below.refl _ w).alloc (Nat.le_refl _) _
  have hb2 : Below w.heap.size w w2 := by rw [hw2]; exact hb1.alloc hb1.size _
  have hbA : Below w.heap.size w wA := by rw [hwA]; exact hb2.alloc hb2.size _
  have h1x : w1.heap[H]? = some (.cells #[.int .i64 op, .slice ca cn cc, .slice pa K pc] 33) := by rw [hw1, hH]; exact heap_alloc_new w _
  have h2x : w2.heap[H]? = some (.cells #[.int .i64 op, .slice ca cn cc, .slice pa K pc] 33) := by rw [hw2]; exact (Below.heap_alloc _ _ _ (by omega)).trans h1x
  have h2y : w2.heap[H + 1]? = some (.cells #[.int .i64 0, .slice none 0 0, .slice none 0 0] 33) := by rw [hw2, ← hs1]; exact heap_alloc_new w1 _
  have HAX : Hid (wA.heap[H]? = some (.cells #[.int .i64 op, .slice ca cn cc, .slice pa K pc] 33) ∧ wA.heap[H + 1]? = some (.cells #[.int .i64 0, .slice none 0 0, .slice none 0 0] 33)) := by
    rw [hwA]
    exact ⟨(Below.heap_alloc _ _ _ (by omega)).trans h2x, (Below.heap_alloc _ _ _ (by omega)).trans h2y⟩
  have HT0 : Hid (TnAt B (H + 3) (H + 2) D n ca cc 0 (.slice none 0 0) [] wA) := by
    refine ⟨rfl, by omega, World.ownsRow_nil _ _ _ _, ?_, by omega, by omega, fun i hi => by simp at hi⟩
    rw [hwA, ← hs2, ← hop, ← hcn]
    exact heap_alloc_new w2 _
  have HBA : Hid (Below w.heap.size w wA) := hbA
  obtain ⟨T, hT⟩ : ∃ T, T = H + 2 := ⟨_, rfl⟩
  have HHT : Hid (T = H + 2 ∧ H = w.heap.size ∧ B ≤ H) := ⟨hT, hH, by rw [hH]; exact hB⟩
  have d0 : w2.cell? ⟨H, 0, none⟩ = some (.int .i64 op) := cell_of_row w2 H 0 _ _ _ h2x
  have d1 : w2.cell? ⟨H, 1, none⟩ = some (.slice ca cn cc) := cell_of_row w2 H 1 _ _ _ h2x
  have d2 : wA.cell? ⟨H, 2, none⟩ = some (.slice pa K pc) := cell_of_row wA H 2 _ _ _ HAX.out.1
  have hKi : (K : Int) ≤ 2600000000000 := by rw [hkl] at hK; omega
  have hKn : K ≤ 2600000000000 := by omega
  rw [← hop, ← hcn, ← hkl, ← hK]
  rw [← hH] at HFN
  rw [← hT] at HFN HT0
  clear HP hin hb hop hcn hK hkl hcls hclb ji jz0 jz1 jz2 hb1 hb2 hbA h1x h2x h2y hB
  go_enter Try.func19, Try.ntmps19
  go_upto_region 1 with fail
  rw [← hw1, ← hw2, ← hH]
  clear hw1 hw2 hH hT hs1 hsA
  go_upto_region 2 with fail
  rw [← HHT.out.1, ← hwA]
  clear hwA hs2 d0 d1
  go_wp2
  go_loopw [4] (fun x4 wr => ∃ k : Nat, k ≤ K ∧ x4 = .int .i64 (((K - k : Nat) : Int) - 1) ∧ ∃ v ys, TnAt B (H + 3) T D n ca cc k v ys wr ∧ Below T wA wr) (fun x4 _ => (intOf x4 + 1).toNat)
  case atStart => exact ⟨0, by omega, by go_num, _, [], HT0.out, Below.refl _ _⟩
  case round =>
    obtain ⟨k, hk, hx4, v, ys, hta, hbl⟩ := hrel
    subst hx4
    have HTA : Hid (TnAt B (H + 3) T D n ca cc k v ys wr) := hta
    have HBL : Hid (Below T wA wr) := hbl
    have HBW : Hid (Below w.heap.size w wr) := by have := HHT.out; exact HBA.out.trans (hbl.mono (by omega))
    clear hta hbl HT0 d2
    by_cases hlt : k < K
    · obtain ⟨j, hj⟩ : ∃ j : Nat, j = K - 1 - k := ⟨_, rfl⟩
      have hji : ((K - k : Nat) : Int) - 1 = (j : Int) := by omega
      rw [hji]
      have hjl : j < kl.length := by rw [← HL.out.2.1]; omega
      have hjK : (j : Int) < (K : Int) := by omega
      have hj0 : (0 : Int) ≤ (j : Int) := by omega
      have HJE : Hid (j = K - 1 - k) := hj
      clear hj hji
      obtain ⟨b, off, xo, xa, xn, xc, ya, xk, yc, hbH, hpa, c0, c1, c2, hcall⟩ := HKID.out wr j hjl HBW.out
      rw [← HHT.out.2.1] at hbH
      subst hpa
      have HCC : Hid (∀ V2 : World, Below wr.heap.size wr V2 → Calls Try.prog 19 #[.agg #[.int .i64 xo, .slice xa xn xc, .slice ya xk yc]] V2 fun e w' => ∃ x : Nk, e = .returned (.agg #[.int .i64 x.op, .slice x.ca x.cn x.cc, .slice x.pa x.pn x.pc]) ∧ InQ (fun b => b < B ∨ wr.heap.size ≤ b) w' D (kl[j]).turn x.vals ∧ Below V2.heap.size V2 w') := by
        intro V2 hV2
        refine (hcall V2 hV2).mono ?_
        rintro e w' ⟨x, h1, h2, h3⟩
        exact ⟨x, h1, h2.mono (fun b hb => hb.imp (fun h => h) (fun h => Nat.le_trans hV2.size h)) D, h3⟩
      obtain ⟨av, cv, hv⟩ := HTA.out.form
      subst hv
      have HO : Hid (wr.ownsRow (H + 3) 33 3 (.slice av k cv) k (flatN ys)) := HTA.out.2.2.1
      have HSZ : Hid (H + 3 ≤ wr.heap.size) := HTA.out.2.2.2.2.2.1
      have HTT : Hid (wr.heap[T]? = some (.cells #[.int .i64 op, .slice ca cn cc, .slice av k cv] 33)) := by
        have h1 := HTA.out.2.2.2.1
        rw [← HL.out.2.2.1, ← HL.out.2.2.2] at h1
        exact h1
      have HHX : Hid (wr.heap[H]? = some (.cells #[.int .i64 op, .slice ca cn cc, .slice (some ⟨b, off, none⟩) K pc] 33)) := (HBL.out.block H (by have := HHT.out; omega)).trans HAX.out.1
      have HZS : Hid (∀ w' : World, Below wr.heap.size wr w' → w'.cell? ⟨H, 2, none⟩ = some (.slice (some ⟨b, off, none⟩) K pc) ∧ w'.cell? ⟨b, off + j * 3, none⟩ = some (.int .i64 xo) ∧ w'.cell? ⟨b, off + j * 3 + 1, none⟩ = some (.slice xa xn xc) ∧ w'.cell? ⟨b, off + j * 3 + 2, none⟩ = some (.slice ya xk yc)) := fun V hV => ⟨upC hV (cell_of_row wr H 2 _ _ _ HHX.out), upC hV c0, upC hV c1, upC hV c2⟩
      have HDW : Hid (Below wr.heap.size wr wr.drew) := (Below.refl _ _).drew
      have HT2 : Hid (∀ V : World, Below wr.heap.size wr V → V.cell? ⟨T, 2, none⟩ = some (.slice av k cv)) := fun V hV => upC hV (cell_of_row wr T 2 _ _ _ HTT.out)
      have e0 := HT2.out wr (Below.refl _ _)
      have HOW : Hid (∀ q, (Value.slice av k cv).ownBlock = some q → H + 3 ≤ q ∧ q < wr.heap.size) := fun q hq => HO.out.lt q hq
      have HT3 : Hid (∀ (V w3 : World) (x : Nk), Below wr.heap.size wr V → (V.alloc (.cells x.vals.toArray 33)).grownBy w3 (Value.slice av k cv).ownBlock → w3.cell? ⟨T, 2, none⟩ = some (.slice av k cv) ∧ w3.frozen? ⟨T, 2, none⟩ = false) := by
        intro V w3 x hV hg
        have hT := HHT.out
        have hTl : T < wr.heap.size := by have := HSZ.out; omega
        have h1 : w3.heap[T]? = some (.cells #[.int .i64 op, .slice ca cn cc, .slice av k cv] 33) := by
          rw [hg.block T (by have := hV.size; simp; omega) (fun e => by have := (HOW.out T e.symm).1; omega), (hV.alloc hV.size _).block T hTl]
          exact HTT.out
        exact ⟨cell_of_row w3 T 2 _ _ _ h1, Lib.frozen_of_heap h1 _⟩
      have HST : Hid (∀ (V w3 : World) (x : Nk) (g cap : Nat), Below wr.heap.size wr V → InQ (fun b => b < B ∨ wr.heap.size ≤ b) V D (kl[j]).turn x.vals → w3.ownsRow (H + 3) 33 3 (.slice (some ⟨g, 0, none⟩) (k + 1) cap) (k + 1) (flatN ys ++ x.vals) → (V.alloc (.cells x.vals.toArray 33)).grownBy w3 (Value.slice av k cv).ownBlock → ((Value.slice av k cv).ownBlock = some g ∨ g = (V.alloc (.cells x.vals.toArray 33)).heap.size) → (TnAt B (H + 3) T D n ca cc (k + 1) (.slice (some ⟨g, 0, none⟩) (k + 1) cap) (ys ++ [x]) (w3.setCell ⟨T, 2, none⟩ (.slice (some ⟨g, 0, none⟩) (k + 1) cap)) ∧ Below T wA (w3.setCell ⟨T, 2, none⟩ (.slice (some ⟨g, 0, none⟩) (k + 1) cap))) ∧ (∀ U : World, (w3.grownBy U (some T)) → U.cell? ⟨H, 2, none⟩ = some (.slice (some ⟨b, off, none⟩) K pc) ∧ U.cell? ⟨b, off + j * 3, none⟩ = some (.int .i64 xo) ∧ U.cell? ⟨b, off + j * 3 + 1, none⟩ = some (.slice xa xn xc) ∧ U.cell? ⟨b, off + j * 3 + 2, none⟩ = some (.slice ya xk yc))) := by
        intro V w3 x g cap hV hx ho hg hl
        have hT := HHT.out
        have hjl2 : (toL n.kids).length - 1 - k < (toL n.kids).length := by rw [← HL.out.1, ← HL.out.2.1]; omega
        have hjj : (kl[j]) = (toL n.kids)[(toL n.kids).length - 1 - k]'hjl2 := by
          have h1 : j = (toL n.kids).length - 1 - k := by rw [← HL.out.1, ← HL.out.2.1]; exact HJE.out
          simp only [HL.out.1, h1]
        rw [hjj] at hx
        have hb0 : Below wr.heap.size wr (V.alloc (.cells x.vals.toArray 33)) := hV.alloc hV.size _
        refine ⟨⟨HTA.out.step (by omega) (by rw [← HL.out.1, ← HL.out.2.1]; exact hlt) hjl2 hV hx ho hg hl, ?_⟩, fun U hU => ?_⟩
        · have h2 : Below T wA w3 := (HBL.out.trans (hb0.mono (by have := HSZ.out; omega))).grown hg (by have := HSZ.out; have := hb0.size; omega) (fun q hq => by have := (HOW.out q hq).1; omega)
          exact h2.setCell (p := ⟨T, 2, none⟩) (Nat.le_refl _) _
        · have up : ∀ (p : Addr) (u : Value), wr.cell? p = some u → p.block < H + 1 → U.cell? p = some u := fun p u hp hl2 =>
            cell_grownQ hU (cell_grownQ hg (upC hb0 hp) (fun e => by have := (HOW.out _ e.symm).1; omega)) (fun e => by injection e with e; omega)
          exact ⟨up _ _ (cell_of_row wr H 2 _ _ _ HHX.out) (by show H < H + 1; omega), up _ _ c0 (by show b < H + 1; omega), up _ _ c1 (by show b < H + 1; omega), up _ _ c2 (by show b < H + 1; omega)⟩
      clear hcall c0 c1 c2 hbH
      go_upto_region 5 with fail
      refine wp_region_noPanic ?_
      refine wp_region_held_drew (S := (fun w' => w'.cell? ⟨H, 2, none⟩ = some (.slice (some ⟨b, off, none⟩) K pc) ∧ w'.cell? ⟨b, off + j * 3, none⟩ = some (.int .i64 xo) ∧ w'.cell? ⟨b, off + j * 3 + 1, none⟩ = some (.slice xa xn xc) ∧ w'.cell? ⟨b, off + j * 3 + 2, none⟩ = some (.slice ya xk yc))) (by kernel_rfl) ?_ (fun hHeld => ?_)
      · exact HZS.out _ HDW.out
      refine wpAnyH_take (i := 0) (v := ?_) rfl (by kernel_rfl) (by kernel_rfl) (by kernel_rfl) (fun _ _ _ h => h) (Or.inl ⟨by rfl, ?_⟩) (by assumption) ?_
      rotate_left
      · intro w hSw; (try dsimp only at hSw); go_simp; try with_reducible rfl
      try simp only [Act.put, List.setIfInBounds_toArray, List.set_cons_zero, List.set_cons_succ]
      refine wpAnyH_take (i := 2) (v := ?_) rfl (by kernel_rfl) (by kernel_rfl) (by kernel_rfl) (fun _ _ _ h => h) (Or.inl ⟨by rfl, ?_⟩) (by assumption) ?_
      rotate_left
      · intro w hSw; (try dsimp only at hSw); go_simp; try with_reducible rfl
      try simp only [Act.put, List.setIfInBounds_toArray, List.set_cons_zero, List.set_cons_succ]
      refine wpAnyH_take (i := 3) (v := ?_) rfl (by kernel_rfl) (by kernel_rfl) (by kernel_rfl) (fun _ _ _ h => h) (Or.inl ⟨by rfl, ?_⟩) (by assumption) ?_
      rotate_left
      · intro w hSw; (try dsimp only at hSw); obtain ⟨q1, q2, q3, q4⟩ := hSw; go_simp; try with_reducible rfl
      try simp only [Act.put, List.setIfInBounds_toArray, List.set_cons_zero, List.set_cons_succ]
      refine wpAnyH_take (i := 4) (v := ?_) rfl (by kernel_rfl) (by kernel_rfl) (by kernel_rfl) (fun _ _ _ h => h) (Or.inl ⟨by rfl, ?_⟩) (by assumption) ?_
      rotate_left
      · intro w hSw; (try dsimp only at hSw); go_simp; try with_reducible rfl
      try simp only [Act.put, List.setIfInBounds_toArray, List.set_cons_zero, List.set_cons_succ]
      refine wpAnyH_take (i := 5) (v := ?_) rfl (by kernel_rfl) (by kernel_rfl) (by kernel_rfl) (fun _ _ _ h => h) (Or.inl ⟨by rfl, ?_⟩) (by assumption) ?_
      rotate_left
      · intro w hSw; (try dsimp only at hSw); go_simp; try with_reducible rfl
      try simp only [Act.put, List.setIfInBounds_toArray, List.set_cons_zero, List.set_cons_succ]
      refine wpAnyH_take (i := 6) (v := ?_) rfl (by kernel_rfl) (by kernel_rfl) (by kernel_rfl) (fun _ _ _ h => h) (Or.inl ⟨by rfl, ?_⟩) (by assumption) ?_
      rotate_left
      · intro w hSw; (try dsimp only at hSw); obtain ⟨q1, q2, q3, q4⟩ := hSw; go_simp; try with_reducible rfl
      try simp only [Act.put, List.setIfInBounds_toArray, List.set_cons_zero, List.set_cons_succ]
      refine wpAnyH_ready (rs := [1, 7]) (by kernel_rfl) (by simp) ?_
      refine AllReadyH.cons rfl (fun K9 hK => ?_) ?_
      · skip
        clear hHeld
        go_simp
        refine hK.out _ _ ?_ (fun hHeld => ?_)
        · exact HZS.out _ HDW.out
        clear hK K9
        try simp only [Act.put, List.setIfInBounds_toArray, List.set_cons_zero, List.set_cons_succ]
        refine wpAnyH_ready (rs := [7]) (by kernel_rfl) (by simp) ?_
        refine AllReadyH.cons rfl (fun K9 hK => ?_) ?_
        · skip
          clear hHeld
          go_simp
          refine (HCC.out _ HDW.out).mono ?_
          rintro e w2 ⟨⟨zo, za, zn, zc, zp, zk, zd⟩, rfl, hx2, hb2⟩
          have HX2 : Hid (InQ (fun b => b < B ∨ wr.heap.size ≤ b) w2 D (kl[j]).turn (⟨zo, za, zn, zc, zp, zk, zd⟩ : Nk).vals) := hx2
          have HB2 : Hid (Below wr.heap.size wr w2) := HDW.out.trans (hb2.mono HDW.out.size)
          have e2 := HT2.out w2 HB2.out
          have e3 := HT2.out (w2.alloc (.cells #[.int .i64 zo, .slice za zn zc, .slice zp zk zd] 33)) (HB2.out.alloc HB2.out.size _)
          clear hx2 hb2
          try dsimp only
          refine hK.out _ _ ?_ (fun hHeld => ?_)
          · exact HZS.out _ HB2.out
          clear hK K9
          try simp only [Act.put, List.setIfInBounds_toArray, List.set_cons_zero, List.set_cons_succ]
          refine wpAnyH_ready (rs := [8]) (by kernel_rfl) (by simp) ?_
          refine AllReadyH.cons rfl (fun K9 hK => ?_) ?_
          · skip
            clear hHeld
            go_simp
            refine hK.out _ _ ?_ (fun hHeld => ?_)
            · exact HZS.out _ (HB2.out.alloc HB2.out.size _)
            clear hK K9
            try simp only [Act.put, List.setIfInBounds_toArray, List.set_cons_zero, List.set_cons_succ]
            refine wpAnyH_ready (rs := [9]) (by kernel_rfl) (by simp) ?_
            refine AllReadyH.cons rfl (fun K9 hK => ?_) ?_
            · skip
              refine step_append_wide _ (by rfl) _ _ 31 (by rfl) (H + 3) 33 i0 _ 3 56 Try.underlying31 HI.out.1 HI.out.2.1 HI.out.2.2.1 HI.out.2.2.2 rfl (by decide) (.slice av k cv) k (flatN ys) (by rfl) (own_alloc (own_later5 HO.out HB2.out) _) ⟨w2.heap.size, 0, none⟩ 1 1 [.int .i64 zo, .slice za zn zc, .slice zp zk zd] (by rfl) (by rfl) (World.news_of_block (cs := #[.int .i64 zo, .slice za zn zc, .slice zp zk zd]) (t := 33) (fr := (0, 0)) (heap_alloc_new w2 _)) (by simp [Value.oneCell']) (by omega) (by unfold maxLen; omega) (by omega) (by have := HB2.out.size; have := HSZ.out; simp; omega) (fun g cap w3 r1 r2 r3 r4 => ?_)
              have HN : Hid ((TnAt B (H + 3) T D n ca cc (k + 1) (.slice (some ⟨g, 0, none⟩) (k + 1) cap) (ys ++ [⟨zo, za, zn, zc, zp, zk, zd⟩]) (w3.setCell ⟨T, 2, none⟩ (.slice (some ⟨g, 0, none⟩) (k + 1) cap)) ∧ Below T wA (w3.setCell ⟨T, 2, none⟩ (.slice (some ⟨g, 0, none⟩) (k + 1) cap))) ∧ (∀ V : World, (w3.grownBy V (some T)) → V.cell? ⟨H, 2, none⟩ = some (.slice (some ⟨b, off, none⟩) K pc) ∧ V.cell? ⟨b, off + j * 3, none⟩ = some (.int .i64 xo) ∧ V.cell? ⟨b, off + j * 3 + 1, none⟩ = some (.slice xa xn xc) ∧ V.cell? ⟨b, off + j * 3 + 2, none⟩ = some (.slice ya xk yc))) := HST.out w2 w3 ⟨zo, za, zn, zc, zp, zk, zd⟩ g cap HB2.out HX2.out r1 r2 r3
              have e4 : w3.cell? ⟨T, 2, none⟩ = some (.slice av k cv) := (HT3.out w2 w3 ⟨zo, za, zn, zc, zp, zk, zd⟩ HB2.out r2).1
              have f4 : w3.frozen? ⟨T, 2, none⟩ = false := (HT3.out w2 w3 ⟨zo, za, zn, zc, zp, zk, zd⟩ HB2.out r2).2
              refine hK.out _ _ ?_ (fun hHeld => ?_)
              · exact HN.out.2 w3 ⟨rfl, rfl, rfl, Nat.le_refl _, fun _ _ _ => rfl⟩
              clear hK K9 r1 r2 r3 r4 e2 e3
              try simp only [Act.put, List.setIfInBounds_toArray, List.set_cons_zero, List.set_cons_succ]
              refine wpAnyH_take (i := 10) (v := ?_) rfl (by kernel_rfl) (by kernel_rfl) (by kernel_rfl) (fun _ _ _ h => h) (Or.inl ⟨by rfl, ?_⟩) (by assumption) ?_
              rotate_left
              · intro w hSw; (try dsimp only at hSw); go_simp; try with_reducible rfl
              try simp only [Act.put, List.setIfInBounds_toArray, List.set_cons_zero, List.set_cons_succ]
              refine wpAnyH_ready (rs := [11]) (by kernel_rfl) (by simp) ?_
              refine AllReadyH.cons rfl (fun K9 hK => ?_) ?_
              · skip
                clear hHeld
                go_simp
                refine hK.out _ _ ?_ (fun hHeld => ?_)
                · exact HN.out.2 _ (grownTT w3 T _)
                clear hK K9
                try simp only [Act.put, List.setIfInBounds_toArray, List.set_cons_zero, List.set_cons_succ]
                refine wpAnyH_done (by kernel_rfl) ?_ _
                refine NoPanic.normal ?_
                clear hHeld e4 f4
                go_wp2
                go_roundw
                case rel => exact ⟨k + 1, by omega, (by have := HJE.out; rw [show K - (k + 1) = j by omega]), _, _, HN.out.1.1, HN.out.1.2⟩
                case measure => have := HJE.out; first | (simp [intOf]; done) | (simp [intOf]; omega)
              exact AllReadyH.nil
            exact AllReadyH.nil
          exact AllReadyH.nil
        exact AllReadyH.nil
      refine AllReadyH.cons rfl (fun K9 hK => ?_) ?_
      · skip
        clear hHeld
        go_simp
        refine (HCC.out _ HDW.out).mono ?_
        rintro e w2 ⟨⟨zo, za, zn, zc, zp, zk, zd⟩, rfl, hx2, hb2⟩
        have HX2 : Hid (InQ (fun b => b < B ∨ wr.heap.size ≤ b) w2 D (kl[j]).turn (⟨zo, za, zn, zc, zp, zk, zd⟩ : Nk).vals) := hx2
        have HB2 : Hid (Below wr.heap.size wr w2) := HDW.out.trans (hb2.mono HDW.out.size)
        have e2 := HT2.out w2 HB2.out
        have e3 := HT2.out (w2.alloc (.cells #[.int .i64 zo, .slice za zn zc, .slice zp zk zd] 33)) (HB2.out.alloc HB2.out.size _)
        clear hx2 hb2
        try dsimp only
        refine hK.out _ _ ?_ (fun hHeld => ?_)
        · exact HZS.out _ HB2.out
        clear hK K9
        try simp only [Act.put, List.setIfInBounds_toArray, List.set_cons_zero, List.set_cons_succ]
        refine wpAnyH_ready (rs := [1, 8]) (by kernel_rfl) (by simp) ?_
        refine AllReadyH.cons rfl (fun K9 hK => ?_) ?_
        · skip
          clear hHeld
          go_simp
          refine hK.out _ _ ?_ (fun hHeld => ?_)
          · exact HZS.out _ HB2.out
          clear hK K9
          try simp only [Act.put, List.setIfInBounds_toArray, List.set_cons_zero, List.set_cons_succ]
          refine wpAnyH_ready (rs := [8]) (by kernel_rfl) (by simp) ?_
          refine AllReadyH.cons rfl (fun K9 hK => ?_) ?_
          · skip
            clear hHeld
            go_simp
            refine hK.out _ _ ?_ (fun hHeld => ?_)
            · exact HZS.out _ (HB2.out.alloc HB2.out.size _)
            clear hK K9
            try simp only [Act.put, List.setIfInBounds_toArray, List.set_cons_zero, List.set_cons_succ]
            refine wpAnyH_ready (rs := [9]) (by kernel_rfl) (by simp) ?_
            refine AllReadyH.cons rfl (fun K9 hK => ?_) ?_
            · skip
              refine step_append_wide _ (by rfl) _ _ 31 (by rfl) (H + 3) 33 i0 _ 3 56 Try.underlying31 HI.out.1 HI.out.2.1 HI.out.2.2.1 HI.out.2.2.2 rfl (by decide) (.slice av k cv) k (flatN ys) (by rfl) (own_alloc (own_later5 HO.out HB2.out) _) ⟨w2.heap.size, 0, none⟩ 1 1 [.int .i64 zo, .slice za zn zc, .slice zp zk zd] (by rfl) (by rfl) (World.news_of_block (cs := #[.int .i64 zo, .slice za zn zc, .slice zp zk zd]) (t := 33) (fr := (0, 0)) (heap_alloc_new w2 _)) (by simp [Value.oneCell']) (by omega) (by unfold maxLen; omega) (by omega) (by have := HB2.out.size; have := HSZ.out; simp; omega) (fun g cap w3 r1 r2 r3 r4 => ?_)
              have HN : Hid ((TnAt B (H + 3) T D n ca cc (k + 1) (.slice (some ⟨g, 0, none⟩) (k + 1) cap) (ys ++ [⟨zo, za, zn, zc, zp, zk, zd⟩]) (w3.setCell ⟨T, 2, none⟩ (.slice (some ⟨g, 0, none⟩) (k + 1) cap)) ∧ Below T wA (w3.setCell ⟨T, 2, none⟩ (.slice (some ⟨g, 0, none⟩) (k + 1) cap))) ∧ (∀ V : World, (w3.grownBy V (some T)) → V.cell? ⟨H, 2, none⟩ = some (.slice (some ⟨b, off, none⟩) K pc) ∧ V.cell? ⟨b, off + j * 3, none⟩ = some (.int .i64 xo) ∧ V.cell? ⟨b, off + j * 3 + 1, none⟩ = some (.slice xa xn xc) ∧ V.cell? ⟨b, off + j * 3 + 2, none⟩ = some (.slice ya xk yc))) := HST.out w2 w3 ⟨zo, za, zn, zc, zp, zk, zd⟩ g cap HB2.out HX2.out r1 r2 r3
              have e4 : w3.cell? ⟨T, 2, none⟩ = some (.slice av k cv) := (HT3.out w2 w3 ⟨zo, za, zn, zc, zp, zk, zd⟩ HB2.out r2).1
              have f4 : w3.frozen? ⟨T, 2, none⟩ = false := (HT3.out w2 w3 ⟨zo, za, zn, zc, zp, zk, zd⟩ HB2.out r2).2
              refine hK.out _ _ ?_ (fun hHeld => ?_)
              · exact HN.out.2 w3 ⟨rfl, rfl, rfl, Nat.le_refl _, fun _ _ _ => rfl⟩
              clear hK K9 r1 r2 r3 r4 e2 e3
              try simp only [Act.put, List.setIfInBounds_toArray, List.set_cons_zero, List.set_cons_succ]
              refine wpAnyH_take (i := 10) (v := ?_) rfl (by kernel_rfl) (by kernel_rfl) (by kernel_rfl) (fun _ _ _ h => h) (Or.inl ⟨by rfl, ?_⟩) (by assumption) ?_
              rotate_left
              · intro w hSw; (try dsimp only at hSw); go_simp; try with_reducible rfl
              try simp only [Act.put, List.setIfInBounds_toArray, List.set_cons_zero, List.set_cons_succ]
              refine wpAnyH_ready (rs := [11]) (by kernel_rfl) (by simp) ?_
              refine AllReadyH.cons rfl (fun K9 hK => ?_) ?_
              · skip
                clear hHeld
                go_simp
                refine hK.out _ _ ?_ (fun hHeld => ?_)
                · exact HN.out.2 _ (grownTT w3 T _)
                clear hK K9
                try simp only [Act.put, List.setIfInBounds_toArray, List.set_cons_zero, List.set_cons_succ]
                refine wpAnyH_done (by kernel_rfl) ?_ _
                refine NoPanic.normal ?_
                clear hHeld e4 f4
                go_wp2
                go_roundw
                case rel => exact ⟨k + 1, by omega, (by have := HJE.out; rw [show K - (k + 1) = j by omega]), _, _, HN.out.1.1, HN.out.1.2⟩
                case measure => have := HJE.out; first | (simp [intOf]; done) | (simp [intOf]; omega)
              exact AllReadyH.nil
            exact AllReadyH.nil
          exact AllReadyH.nil
        refine AllReadyH.cons rfl (fun K9 hK => ?_) ?_
        · skip
          clear hHeld
          go_simp
          refine hK.out _ _ ?_ (fun hHeld => ?_)
          · exact HZS.out _ (HB2.out.alloc HB2.out.size _)
          clear hK K9
          try simp only [Act.put, List.setIfInBounds_toArray, List.set_cons_zero, List.set_cons_succ]
          refine wpAnyH_ready (rs := [1]) (by kernel_rfl) (by simp) ?_
          refine AllReadyH.cons rfl (fun K9 hK => ?_) ?_
          · skip
            clear hHeld
            go_simp
            refine hK.out _ _ ?_ (fun hHeld => ?_)
            · exact HZS.out _ (HB2.out.alloc HB2.out.size _)
            clear hK K9
            try simp only [Act.put, List.setIfInBounds_toArray, List.set_cons_zero, List.set_cons_succ]
            refine wpAnyH_ready (rs := [9]) (by kernel_rfl) (by simp) ?_
            refine AllReadyH.cons rfl (fun K9 hK => ?_) ?_
            · skip
              refine step_append_wide _ (by rfl) _ _ 31 (by rfl) (H + 3) 33 i0 _ 3 56 Try.underlying31 HI.out.1 HI.out.2.1 HI.out.2.2.1 HI.out.2.2.2 rfl (by decide) (.slice av k cv) k (flatN ys) (by rfl) (own_alloc (own_later5 HO.out HB2.out) _) ⟨w2.heap.size, 0, none⟩ 1 1 [.int .i64 zo, .slice za zn zc, .slice zp zk zd] (by rfl) (by rfl) (World.news_of_block (cs := #[.int .i64 zo, .slice za zn zc, .slice zp zk zd]) (t := 33) (fr := (0, 0)) (heap_alloc_new w2 _)) (by simp [Value.oneCell']) (by omega) (by unfold maxLen; omega) (by omega) (by have := HB2.out.size; have := HSZ.out; simp; omega) (fun g cap w3 r1 r2 r3 r4 => ?_)
              have HN : Hid ((TnAt B (H + 3) T D n ca cc (k + 1) (.slice (some ⟨g, 0, none⟩) (k + 1) cap) (ys ++ [⟨zo, za, zn, zc, zp, zk, zd⟩]) (w3.setCell ⟨T, 2, none⟩ (.slice (some ⟨g, 0, none⟩) (k + 1) cap)) ∧ Below T wA (w3.setCell ⟨T, 2, none⟩ (.slice (some ⟨g, 0, none⟩) (k + 1) cap))) ∧ (∀ V : World, (w3.grownBy V (some T)) → V.cell? ⟨H, 2, none⟩ = some (.slice (some ⟨b, off, none⟩) K pc) ∧ V.cell? ⟨b, off + j * 3, none⟩ = some (.int .i64 xo) ∧ V.cell? ⟨b, off + j * 3 + 1, none⟩ = some (.slice xa xn xc) ∧ V.cell? ⟨b, off + j * 3 + 2, none⟩ = some (.slice ya xk yc))) := HST.out w2 w3 ⟨zo, za, zn, zc, zp, zk, zd⟩ g cap HB2.out HX2.out r1 r2 r3
              have e4 : w3.cell? ⟨T, 2, none⟩ = some (.slice av k cv) := (HT3.out w2 w3 ⟨zo, za, zn, zc, zp, zk, zd⟩ HB2.out r2).1
              have f4 : w3.frozen? ⟨T, 2, none⟩ = false := (HT3.out w2 w3 ⟨zo, za, zn, zc, zp, zk, zd⟩ HB2.out r2).2
              refine hK.out _ _ ?_ (fun hHeld => ?_)
              · exact HN.out.2 w3 ⟨rfl, rfl, rfl, Nat.le_refl _, fun _ _ _ => rfl⟩
              clear hK K9 r1 r2 r3 r4 e2 e3
              try simp only [Act.put, List.setIfInBounds_toArray, List.set_cons_zero, List.set_cons_succ]
              refine wpAnyH_take (i := 10) (v := ?_) rfl (by kernel_rfl) (by kernel_rfl) (by kernel_rfl) (fun _ _ _ h => h) (Or.inl ⟨by rfl, ?_⟩) (by assumption) ?_
              rotate_left
              · intro w hSw; (try dsimp only at hSw); go_simp; try with_reducible rfl
              try simp only [Act.put, List.setIfInBounds_toArray, List.set_cons_zero, List.set_cons_succ]
              refine wpAnyH_ready (rs := [11]) (by kernel_rfl) (by simp) ?_
              refine AllReadyH.cons rfl (fun K9 hK => ?_) ?_
              · skip
                clear hHeld
                go_simp
                refine hK.out _ _ ?_ (fun hHeld => ?_)
                · exact HN.out.2 _ (grownTT w3 T _)
                clear hK K9
                try simp only [Act.put, List.setIfInBounds_toArray, List.set_cons_zero, List.set_cons_succ]
                refine wpAnyH_done (by kernel_rfl) ?_ _
                refine NoPanic.normal ?_
                clear hHeld e4 f4
                go_wp2
                go_roundw
                case rel => exact ⟨k + 1, by omega, (by have := HJE.out; rw [show K - (k + 1) = j by omega]), _, _, HN.out.1.1, HN.out.1.2⟩
                case measure => have := HJE.out; first | (simp [intOf]; done) | (simp [intOf]; omega)
              exact AllReadyH.nil
            exact AllReadyH.nil
          exact AllReadyH.nil
        exact AllReadyH.nil
      exact AllReadyH.nil
    · obtain rfl : k = K := by omega
      obtain ⟨av, cv, hv, hinq⟩ := HFN.out wr v ys (by have := HHT.out; rw [← this.2.1] at HBW; rw [this.2.1]; rw [this.2.1] at HBW; exact HBW.out) HTA.out
      subst hv
      have HTT : Hid (wr.heap[T]? = some (.cells #[.int .i64 op, .slice ca cn cc, .slice av k cv] 33)) := by
        have h1 := HTA.out.2.2.2.1
        rw [← HL.out.2.2.1, ← HL.out.2.2.2] at h1
        exact h1
      have HYY : Hid (wr.heap[H + 1]? = some (.cells #[.int .i64 0, .slice none 0 0, .slice none 0 0] 33)) := (HBL.out.block (H + 1) (by have := HHT.out; omega)).trans HAX.out.2
      obtain ⟨wF, hwF⟩ : ∃ wF, wF = ((wr.setCell ⟨H + 1, 0, none⟩ (.int .i64 op)).setCell ⟨H + 1, 1, none⟩ (.slice ca cn cc)).setCell ⟨H + 1, 2, none⟩ (.slice av k cv) := ⟨_, rfl⟩
      have hg1 : ∀ (W : World) (i : Nat) (u : Value), W.grownBy (W.setCell ⟨H + 1, i, none⟩ u) (some (H + 1)) := fun W i u => ⟨rfl, rfl, rfl, by simp [World.setCell], fun k _ hk => Below.heap_setCell _ _ _ k (fun e => hk (by rw [e]))⟩
      have hgF : ∀ b, b < wr.heap.size → b ≠ H + 1 → wF.heap[b]? = wr.heap[b]? := by
        intro b hb hne
        rw [hwF, Below.heap_setCell _ _ _ b (fun e => hne e), Below.heap_setCell _ _ _ b (fun e => hne e), Below.heap_setCell _ _ _ b (fun e => hne e)]
      have HFF : Hid (TurPost B (D + 1) n w (.returned (.agg #[.int .i64 op, .slice ca cn cc, .slice av k cv])) wF) := by
        have hT := HHT.out
        refine ⟨⟨op, ca, cn, cc, av, k, cv⟩, rfl, ?_, ?_⟩
        · have hgr : wr.grownBy wF (some (H + 1)) := ⟨by rw [hwF]; rfl, by rw [hwF]; rfl, by rw [hwF]; rfl, by rw [hwF]; simp [World.setCell], fun b hb hne => hgF b hb (fun e => hne (by rw [e]))⟩
          exact hinq.grown hgr (fun b hb _ => by
            rcases hb with h8 | h8
            · exact ⟨fun e => by injection e with e; omega, .inl h8⟩
            · exact ⟨fun e => by injection e with e; omega, .inr (by omega)⟩) (D + 1)
        · rw [hwF]
          exact ((HBW.out.setCell (p := ⟨H + 1, 0, none⟩) (by show w.heap.size ≤ H + 1; omega) _).setCell (p := ⟨H + 1, 1, none⟩) (by show w.heap.size ≤ H + 1; omega) _).setCell (p := ⟨H + 1, 2, none⟩) (by show w.heap.size ≤ H + 1; omega) _
      have t0 : wr.cell? ⟨T, 0, none⟩ = some (.int .i64 op) := cell_of_row wr T 0 _ _ _ HTT.out
      have t1 : wr.cell? ⟨T, 1, none⟩ = some (.slice ca cn cc) := cell_of_row wr T 1 _ _ _ HTT.out
      have t2 : wr.cell? ⟨T, 2, none⟩ = some (.slice av k cv) := cell_of_row wr T 2 _ _ _ HTT.out
      have y0 : wr.cell? ⟨H + 1, 0, none⟩ = some (.int .i64 0) := cell_of_row wr (H + 1) 0 _ _ _ HYY.out
      have y1 : wr.cell? ⟨H + 1, 1, none⟩ = some (.slice none 0 0) := cell_of_row wr (H + 1) 1 _ _ _ HYY.out
      have y2 : wr.cell? ⟨H + 1, 2, none⟩ = some (.slice none 0 0) := cell_of_row wr (H + 1) 2 _ _ _ HYY.out
      have hfz := Lib.frozen_of_heap HYY.out
      have hF : wF.heap[H + 1]? = some (.cells #[.int .i64 op, .slice ca cn cc, .slice av k cv] 33) := by
        rw [hwF]
        exact heap_setCell_same _ (H + 1) 2 _ _ _ (heap_setCell_same _ (H + 1) 1 _ _ _ (heap_setCell_same _ (H + 1) 0 _ _ _ HYY.out))
      have z0 : wF.cell? ⟨H + 1, 0, none⟩ = some (.int .i64 op) := cell_of_row wF (H + 1) 0 _ _ _ hF
      have z1 : wF.cell? ⟨H + 1, 1, none⟩ = some (.slice ca cn cc) := cell_of_row wF (H + 1) 1 _ _ _ hF
      have z2 : wF.cell? ⟨H + 1, 2, none⟩ = some (.slice av k cv) := cell_of_row wF (H + 1) 2 _ _ _ hF
      have hm1 : ((k - k : Nat) : Int) - 1 = -1 := by omega
      rw [hm1]
      clear hinq hg1 hgF hm1 hF
      go_wp2
      rw [← hwF]
      clear hwF
      refine bodyPost_ret (v := .agg #[.int .i64 op, .slice ca cn cc, .slice av k cv]) ?_ rfl HFF.out
      rw [results_cell_oneT rfl]
      go_simp
theorem turn_any : (D : Nat) → TurC D
  | 0 => fun _ _ _ _ _ _ _ h => h.elim
  | D + 1 => turn_up D (turn_any D)
end Go.Proofs.Ytjbhfonokgkalaa
