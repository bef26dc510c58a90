/- The walks of the statements' ready and drop over the reference's hold. -/
import Derived.Test.YtcbnmahbdcjamaaHoRi
import Derived.Test.YtcbnmahbdcjamaaHoCl
namespace Go.Proofs.Ytcbnmahbdcjamaa
open Go.RowKit Go.Sort
set_option linter.unusedVariables false
set_option linter.unusedSimpArgs false

/-- What is left of the reference's hold behind something: its row is the old one, or a new one. -/
def RfZ (w : World) (B T r : Nat) (v : Value) (M : List Opn) (w' : World) : Prop := ∃ v', RfH w' B T r M v' ∧ Chg w w' (fun k => k = T) ∧ ∀ k, v'.ownBlock = some k → v.ownBlock = some k ∨ w.heap.size ≤ k
theorem rfz_of {w w' : World} {B T r : Nat} {v : Value} {M : List Opn} (h : RfQ w B T r M w') : RfZ w B T r v M w' := by
  obtain ⟨v', h1, h2, h3⟩ := h
  exact ⟨v', h1, h2, fun k hk => .inr (h3 k hk)⟩
theorem rfz_later {w w' : World} {B T r : Nat} {v : Value} {M : List Opn} (h : RfH w B T r M v) (hb : Below w.heap.size w w') : RfZ w B T r v M w' := ⟨v, h.later hb, cg_below hb _, fun k hk => .inl hk⟩
theorem rfz_trans {w w1 w2 : World} {B T r : Nat} {v v1 : Value} {M : List Opn} (hc : Chg w w1 (fun k => k = T)) (hf : ∀ k, v1.ownBlock = some k → v.ownBlock = some k ∨ w.heap.size ≤ k) (h : RfZ w1 B T r v1 M w2) : RfZ w B T r v M w2 := by
  obtain ⟨v2, h1, h2, h3⟩ := h
  refine ⟨v2, h1, cg_trans hc h2 (fun _ _ q => q), fun k hk => ?_⟩
  rcases h3 k hk with q | q
  · exact hf k q
  · exact .inr (Nat.le_trans hc.2.2.2.1 q)
/-- Behind a result's box. -/
theorem rfz_box {w W1 W2 : World} {B T r N : Nat} {v v3 : Value} {M : List Opn} (hb : Below w.heap.size w W1) (h : RfH W2 B T r M v3) (hc : Chg W1 W2 (fun k => k = T)) (hf : ∀ k, v3.ownBlock = some k → W1.heap.size ≤ k) (hT : T < N) (hN : w.heap.size ≤ N ∧ N < W1.heap.size) (o : Opn) : RfZ w B T r v M (W2.setCells N 0 (encP o)) := by
  have hs := cg_cells W2 N 0 (encP o)
  refine ⟨v3, ⟨h.low, (heap_setCells_other N T (by omega) (encP o) 0 W2).trans h.box, cg_own hs h.row (fun k hk q => ?_)⟩, ?_, fun k hk => .inr ?_⟩
  · have := hf k hk
    omega
  · have h1 : Chg w W2 (fun k => k = T) := cg_trans (cg_below hb (fun k => k = T)) hc (fun _ _ q => q)
    exact cg_trans h1 hs (fun k hk q => by omega)
  · have := hf k hk
    have := hb.size
    omega
theorem rfz_box0 {w W2 : World} {B T r N : Nat} {v : Value} {M : List Opn} (hb : Below w.heap.size w W2) (h : RfH w B T r M v) (hT : T < N) (hN : w.heap.size ≤ N) (o : Opn) : RfZ w B T r v M (W2.setCells N 0 (encP o)) := by
  have hs := cg_cells W2 N 0 (encP o)
  have h2 := h.later hb
  refine ⟨v, ⟨h.low, (heap_setCells_other N T (by omega) (encP o) 0 W2).trans h2.box, cg_own hs h2.row (fun k hk q => ?_)⟩, cg_trans (cg_below hb (fun k => k = T)) hs (fun k hk q => by omega), fun k hk => .inl hk⟩
  have := (h.row.lt k hk).2
  omega
theorem results_cell_k {fn : Func} {p q : Tmp} {ty : TypeId} (h : fn.results = #[.cell p ty, .tmp q]) (tmps : Array Value) (P : Program) (w : World) :
    (results fn tmps).run P w = ((asAddr (tmps.getD p undef)).run P w).andThen fun a w₁ => ((loadVar ty a).run P w₁).andThen fun v w₂ => .ok (.tuple #[v, tmps.getD q undef]) w₂ := by
  simp only [results, h]
  simp [Sem.run_bind, Result.andThen]
/-- Who may go: of those whose Seq has a bit of n, or, with an odd n, any. -/
def rdP (n : Int) (o : Opn) : Bool := (bits .and .i64 n 1 == 1) || (bits .and .i64 o.s n != 0)
set_option maxRecDepth 100000 in
set_option maxHeartbeats 8000000 in
theorem lw_ready {B T r : Nat} {l M : List Opn} {v : Value} (w : World) (h : RfH w B T r M v) (hA : AscK l) (hp : l.Perm M) (hl : M.length ≤ 1000) (n : Int) :
    Calls Try.prog 40 #[.pointer (some ⟨T, 0, none⟩), .int .i64 n] w fun e w' => (∃ o, l.find? (rdP n) = some o ∧ e = .returned (.tuple #[o.val, .bool true]) ∧ RfZ w B T r v (remK M o.a o.s) w') ∨ (l.find? (rdP n) = none ∧ e = .returned (.tuple #[op0.val, .bool false]) ∧ RfZ w B T r v M w') := by
  have mixed : Try.prog.follows .mixedOrders = true := by kernel_rfl
  obtain ⟨W1, hW1⟩ : ∃ W1, W1 = w.alloc (.cells #[.int .i64 0, .int .i64 0, .int .i64 0, .bool false, .int .i64 0, .int .i64 0, .int .i32 0] 34) := ⟨_, rfl⟩
  obtain ⟨N, hN⟩ : ∃ N, N = w.heap.size := ⟨_, rfl⟩
  have hb1 : Below w.heap.size w W1 := by rw [hW1]; exact (Below.refl _ w).alloc (Nat.le_refl _) _
  have hx1 : W1.heap[N]? = some (bxP op0) := by rw [hW1, hN]; exact heap_alloc_new w _
  have h1 := h.later hb1
  obtain ⟨m, hm⟩ : ∃ m, m = l.length := ⟨_, rfl⟩
  have hTN : T < N := by rw [hN]; exact (Array.getElem?_eq_some_iff.1 h.box).1
  have HNT : Hid (T < N) := hTN
  have HALL : Hid (Calls Try.prog 50 #[.pointer (some ⟨T, 0, none⟩)] W1 fun e w2 => ∃ a c, e = .returned (.slice a m c) ∧ RfH w2 B T r M v ∧ Below w.heap.size w w2 ∧ w2.heap[N]? = some (bxP op0) ∧ (w.heap.size ≤ N ∧ N < w2.heap.size) ∧ ∀ V, Chg w2 V (fun k => k = T) → RdP V a m l) := (rf_all W1 h1 hA hp (by omega)).mono fun e w2 q => by
    obtain ⟨a, c, rfl, q1, q2⟩ := q
    rw [← hm] at q1
    have hn2 := bel_heap q2 hx1
    refine ⟨a, c, by rw [hm], h1.later q2, hb1.trans (q2.mono hb1.size), hn2, ⟨by omega, (Array.getElem?_eq_some_iff.1 hn2).1⟩, fun V hV => ?_⟩
    have q3 := cg_own hV q1 (fun k hk q => by have := (q1.lt k hk).1; have := (Array.getElem?_eq_some_iff.1 hx1).1; omega)
    obtain ⟨a9, c9, e9, _, _, r9, _⟩ := rdP_own q3
    cases e9
    exact r9
  have HML : Hid (M.length ≤ 100000) := (show M.length ≤ 100000 by omega)
  have HLN : Hid (m = l.length) := hm
  have HRW : Hid (RfH w B T r M v) := h
  have hm1 : m ≤ 1000 := by have := hp.length_eq; omega
  clear h h1 hA hp hl hb1 hx1 hm hTN
  go_enter Try.func40, Try.ntmps40
  go_upto_region 1 with fail
  rw [← hN, ← hW1]
  clear hN hW1
  go_upto_region 3 with (go_at_call 50; refine HALL.out.mono ?_; rintro e w2 ⟨a, c, rfl, g1, g2, g3, g4, g5⟩; have HRH : Hid (RfH w2 B T r M v) := g1; have HBW : Hid (Below w.heap.size w w2) := g2; have HNB : Hid (w2.heap[N]? = some (bxP op0)) := g3; have HNL : Hid (w.heap.size ≤ N ∧ N < w2.heap.size) := g4; have HAR : Hid (∀ V, Chg w2 V (fun k => k = T) → RdP V a m l) := g5; clear g1 g2 g3 g4 g5)
  clear HALL
  go_loopw [7] (fun x7 wr => ∃ i : Nat, x7 = .int .i64 (i : Int) ∧ i ≤ m ∧ (∀ j, j < i → rdP n (l.getD j op0) = false) ∧ wr = w2) (fun x7 _ => m - (RowKit.intOf x7).toNat)
  case atStart => exact ⟨0, rfl, by omega, fun j hj => absurd hj (by omega), rfl⟩
  case round =>
    obtain ⟨i, h7, hi, hno, hwr⟩ := hrel
    subst h7 hwr
    rename World => w2
    have HNO : Hid (∀ j, j < i → rdP n (l.getD j op0) = false) := hno
    clear hno
    by_cases hlt : i < m
    · obtain ⟨b, off, rfl, c0, c1, c2, c3, c4, c5, c6⟩ := (HAR.out w2 (cg_refl w2 _)).at i hlt
      obtain ⟨E, hE⟩ : ∃ E, l.getD i op0 = E := ⟨_, rfl⟩
      have HE : Hid (l.getD i op0 = E) := hE
      rw [hE] at c0 c1 c2 c3 c4 c5 c6
      have hi0 : (0 : Int) ≤ (i : Int) := by omega
      have hi1 : (i : Int) < (m : Int) := by omega
      have hpe : rdP n E = ((bits .and .i64 n 1 == 1) || (bits .and .i64 E.s n != 0)) := rfl
      clear hE
      cases t1 : (bits .and .i64 n 1 == 1)
      · cases t2 : (bits .and .i64 E.s n != 0)
        · have HNX : Hid (∀ j, j < i + 1 → rdP n (l.getD j op0) = false) := fun j hj => by
            rcases Nat.lt_or_ge j i with z | z
            · exact HNO.out j z
            · rw [show j = i by omega, HE.out, hpe, t1, t2]; rfl
          clear hpe
          go_wp2
          go_roundw
          case rel => exact ⟨i + 1, by go_num, by omega, HNX.out, trivial⟩
          case measure => simp [RowKit.intOf]; omega
        · have HPE : Hid (rdP n E = true) := by
            have h9 : rdP n E = true := by rw [hpe, t1, t2]; rfl
            exact h9
          clear hpe
          have HREM : Hid (∀ V, RfH V B T r M v → Calls Try.prog 88 #[.pointer (some ⟨T, 0, none⟩), .int .i64 E.a, .int .i64 E.s] V fun e w' => e = .returned (.tuple #[]) ∧ RfQ V B T r (remK M E.a E.s) w') := fun V hV => rf_rem V hV HML.out E.a E.s
          have HRF : Hid (RfH w2.drew B T r M v) := HRH.out.later (Below.refl _ w2).drew
          have HA3 : Hid (∀ V, RfQ w2.drew B T r (remK M E.a E.s) V → RdP V (some ⟨b, off, none⟩) m l) := fun V hq => by
            obtain ⟨v', _, hc, _⟩ := hq
            exact HAR.out V hc
          have HS3 : Hid (∀ V, RfQ w2.drew B T r (remK M E.a E.s) V → V.cell? ⟨b, off + i * 7 + 1, none⟩ = some (.int .i64 E.a) ∧ V.cell? ⟨b, off + i * 7 + 2, none⟩ = some (.int .i64 E.s)) := fun V hq => by
            obtain ⟨b1, o1, h1, _, d1, d2, _⟩ := (HA3.out V hq).at i hlt
            cases h1
            rw [HE.out] at d1 d2
            exact ⟨d1, d2⟩
          go_upto_region 6 with fail
          refine wp_region_noPanic ?_
          refine wp_region_held_drew (S := (fun w' => w'.cell? ⟨b, off + i * 7 + 1, none⟩ = some (.int .i64 E.a) ∧ w'.cell? ⟨b, off + i * 7 + 2, none⟩ = some (.int .i64 E.s))) (by kernel_rfl) (⟨c1, c2⟩) (fun hHeld => ?_)
          refine wpAnyH_take (i := 0) (v := ?_) rfl (by kernel_rfl) (by kernel_rfl) (by kernel_rfl) (fun _ _ _ h => h) (Or.inl ⟨by rfl, ?_⟩) (by assumption) ?_
          rotate_left
          · intro W' hSw; obtain ⟨s1, s2⟩ := hSw; go_simp; try with_reducible rfl
          try simp only [Act.put, List.getElem_toArray, List.getElem_cons_succ, List.getElem_cons_zero, List.setIfInBounds_toArray, List.set_cons_zero, List.set_cons_succ]
          refine wpAnyH_take (i := 1) (v := ?_) rfl (by kernel_rfl) (by kernel_rfl) (by kernel_rfl) (fun _ _ _ h => h) (Or.inl ⟨by rfl, ?_⟩) (by assumption) ?_
          rotate_left
          · intro W' hSw; obtain ⟨s1, s2⟩ := hSw; go_simp; try with_reducible rfl
          try simp only [Act.put, List.getElem_toArray, List.getElem_cons_succ, List.getElem_cons_zero, List.setIfInBounds_toArray, List.set_cons_zero, List.set_cons_succ]
          refine wpAnyH_take (i := 2) (v := ?_) rfl (by kernel_rfl) (by kernel_rfl) (by kernel_rfl) (fun _ _ _ h => h) (Or.inl ⟨by rfl, ?_⟩) (by assumption) ?_
          rotate_left
          · intro W' hSw; obtain ⟨s1, s2⟩ := hSw; go_simp; try with_reducible rfl
          try simp only [Act.put, List.getElem_toArray, List.getElem_cons_succ, List.getElem_cons_zero, List.setIfInBounds_toArray, List.set_cons_zero, List.set_cons_succ]
          refine wpAnyH_take (i := 3) (v := ?_) rfl (by kernel_rfl) (by kernel_rfl) (by kernel_rfl) (fun _ _ _ h => h) (Or.inl ⟨by rfl, ?_⟩) (by assumption) ?_
          rotate_left
          · intro W' hSw; obtain ⟨s1, s2⟩ := hSw; go_simp; try with_reducible rfl
          try simp only [Act.put, List.getElem_toArray, List.getElem_cons_succ, List.getElem_cons_zero, List.setIfInBounds_toArray, List.set_cons_zero, List.set_cons_succ]
          refine wpAnyH_take (i := 4) (v := ?_) rfl (by kernel_rfl) (by kernel_rfl) (by kernel_rfl) (fun _ _ _ h => h) (Or.inl ⟨by rfl, ?_⟩) (by assumption) ?_
          rotate_left
          · intro W' hSw; obtain ⟨s1, s2⟩ := hSw; go_simp; try with_reducible rfl
          try simp only [Act.put, List.getElem_toArray, List.getElem_cons_succ, List.getElem_cons_zero, List.setIfInBounds_toArray, List.set_cons_zero, List.set_cons_succ]
          refine wpAnyH_take (i := 5) (v := ?_) rfl (by kernel_rfl) (by kernel_rfl) (by kernel_rfl) (fun _ _ _ h => h) (Or.inl ⟨by rfl, ?_⟩) (by assumption) ?_
          rotate_left
          · intro W' hSw; obtain ⟨s1, s2⟩ := hSw; go_simp; try with_reducible rfl
          try simp only [Act.put, List.getElem_toArray, List.getElem_cons_succ, List.getElem_cons_zero, List.setIfInBounds_toArray, List.set_cons_zero, List.set_cons_succ]
          refine wpAnyH_take (i := 6) (v := ?_) rfl (by kernel_rfl) (by kernel_rfl) (by kernel_rfl) (fun _ _ _ h => h) (Or.inl ⟨by rfl, ?_⟩) (by assumption) ?_
          rotate_left
          · intro W' hSw; obtain ⟨s1, s2⟩ := hSw; go_simp; try with_reducible rfl
          try simp only [Act.put, List.getElem_toArray, List.getElem_cons_succ, List.getElem_cons_zero, List.setIfInBounds_toArray, List.set_cons_zero, List.set_cons_succ]
          refine wpAnyH_take (i := 7) (v := ?_) rfl (by kernel_rfl) (by kernel_rfl) (by kernel_rfl) (fun _ _ _ h => h) (Or.inl ⟨by rfl, ?_⟩) (by assumption) ?_
          rotate_left
          · intro W' hSw; obtain ⟨s1, s2⟩ := hSw; go_simp; try with_reducible rfl
          try simp only [Act.put, List.getElem_toArray, List.getElem_cons_succ, List.getElem_cons_zero, List.setIfInBounds_toArray, List.set_cons_zero, List.set_cons_succ]
          refine wpAnyH_take (i := 8) (v := ?_) rfl (by kernel_rfl) (by kernel_rfl) (by kernel_rfl) (fun _ _ _ h => h) (Or.inl ⟨by rfl, ?_⟩) (by assumption) ?_
          rotate_left
          · intro W' hSw; obtain ⟨s1, s2⟩ := hSw; go_simp; try with_reducible rfl
          try simp only [Act.put, List.getElem_toArray, List.getElem_cons_succ, List.getElem_cons_zero, List.setIfInBounds_toArray, List.set_cons_zero, List.set_cons_succ]
          refine wpAnyH_take (i := 9) (v := ?_) rfl (by kernel_rfl) (by kernel_rfl) (by kernel_rfl) (fun _ _ _ h => h) (Or.inl ⟨by rfl, ?_⟩) (by assumption) ?_
          rotate_left
          · intro W' hSw; obtain ⟨s1, s2⟩ := hSw; go_simp; try with_reducible rfl
          try simp only [Act.put, List.getElem_toArray, List.getElem_cons_succ, List.getElem_cons_zero, List.setIfInBounds_toArray, List.set_cons_zero, List.set_cons_succ]
          refine wpAnyH_take (i := 10) (v := ?_) rfl (by kernel_rfl) (by kernel_rfl) (by kernel_rfl) (fun _ _ _ h => h) (Or.inl ⟨by rfl, ?_⟩) (by assumption) ?_
          rotate_left
          · intro W' hSw; obtain ⟨s1, s2⟩ := hSw; go_simp; try with_reducible rfl
          try simp only [Act.put, List.getElem_toArray, List.getElem_cons_succ, List.getElem_cons_zero, List.setIfInBounds_toArray, List.set_cons_zero, List.set_cons_succ]
          refine wpAnyH_take (i := 11) (v := ?_) rfl (by kernel_rfl) (by kernel_rfl) (by kernel_rfl) (fun _ _ _ h => h) (Or.inl ⟨by rfl, ?_⟩) (by assumption) ?_
          rotate_left
          · intro W' hSw; obtain ⟨s1, s2⟩ := hSw; go_simp; try with_reducible rfl
          try simp only [Act.put, List.getElem_toArray, List.getElem_cons_succ, List.getElem_cons_zero, List.setIfInBounds_toArray, List.set_cons_zero, List.set_cons_succ]
          refine wpAnyH_ready (rs := [12]) (by kernel_rfl) (by simp) ?_
          refine AllReadyH.cons rfl (fun KK hK => ?_) AllReadyH.nil
          go_simp
          refine (HREM.out _ (HRF.out)).mono ?_
          rintro e w3 ⟨rfl, hq⟩
          have HQ3 : Hid (type_of% hq) := hq
          have hs3 := HS3.out w3 HQ3.out
          clear hq
          refine hK.out _ _ hs3 (fun hHeld => ?_)
          clear hK KK
          try simp only [Act.put, List.getElem_toArray, List.getElem_cons_succ, List.getElem_cons_zero, List.setIfInBounds_toArray, List.set_cons_zero, List.set_cons_succ]
          refine wpAnyH_done (by kernel_rfl) ?_ _
          refine NoPanic.normal ?_
          clear hHeld
          obtain ⟨b1, o1, h1, d0, d1, d2, d3, d4, d5, d6⟩ := (HA3.out w3 HQ3.out).at i hlt
          cases h1
          rw [HE.out] at d0 d1 d2 d3 d4 d5 d6
          obtain ⟨v3, hr3, hc3, hf3⟩ := HQ3.out
          have hn3 : w3.heap[N]? = some (bxP op0) := cg_heap hc3 HNB.out (fun q => by have := HNT.out; omega)
          obtain ⟨n0, n1, n2, n3, n4, n5, n6⟩ := opAt_box (o := op0) hn3
          have zf : ∀ j, w3.frozen? ⟨N, j, none⟩ = false := fun j => Lib.frozen_of_heap hn3 _
          have zf0 := zf 0
          have zf1 := zf 1
          have zf2 := zf 2
          have zf3 := zf 3
          have zf4 := zf 4
          have zf5 := zf 5
          have zf6 := zf 6
          have HFIN : Hid (RfZ w B T r v (remK M E.a E.s) (w3.setCells N 0 (encP E))) := by
            have h9 : RfZ w B T r v (remK M E.a E.s) (w3.setCells N 0 (encP E)) := rfz_box HBW.out hr3 hc3 hf3 HNT.out HNL.out E
            exact h9
          have HFD : Hid (l.find? (rdP n) = some E) := by
            have h9 : l.find? (rdP n) = some E := by
              rw [← HE.out]
              refine find_at (by have := HLN.out; omega) HNO.out ?_
              rw [HE.out]
              exact HPE.out
            exact h9
          clear hr3 hc3 hf3 hn3 zf HNB HA3 HS3 HREM HRF HQ3
          go_wp2
          refine bodyPost_ret (v := .tuple #[.agg #[.int .i64 E.c, .int .i64 E.a, .int .i64 E.s, .bool E.ins, .int .i64 E.rc, .int .i64 E.ra, .int .i32 E.ch], .bool true]) ?_ rfl ?_
          · rw [results_cell_tmp rfl]
            go_simp
          · exact .inl ⟨E, HFD.out, rfl, HFIN.out⟩
      · have HPE : Hid (rdP n E = true) := by
          have h9 : rdP n E = true := by rw [hpe, t1]; rfl
          exact h9
        clear hpe
        have HREM : Hid (∀ V, RfH V B T r M v → Calls Try.prog 88 #[.pointer (some ⟨T, 0, none⟩), .int .i64 E.a, .int .i64 E.s] V fun e w' => e = .returned (.tuple #[]) ∧ RfQ V B T r (remK M E.a E.s) w') := fun V hV => rf_rem V hV HML.out E.a E.s
        have HRF : Hid (RfH w2.drew B T r M v) := HRH.out.later (Below.refl _ w2).drew
        have HA3 : Hid (∀ V, RfQ w2.drew B T r (remK M E.a E.s) V → RdP V (some ⟨b, off, none⟩) m l) := fun V hq => by
          obtain ⟨v', _, hc, _⟩ := hq
          exact HAR.out V hc
        have HS3 : Hid (∀ V, RfQ w2.drew B T r (remK M E.a E.s) V → V.cell? ⟨b, off + i * 7 + 1, none⟩ = some (.int .i64 E.a) ∧ V.cell? ⟨b, off + i * 7 + 2, none⟩ = some (.int .i64 E.s)) := fun V hq => by
          obtain ⟨b1, o1, h1, _, d1, d2, _⟩ := (HA3.out V hq).at i hlt
          cases h1
          rw [HE.out] at d1 d2
          exact ⟨d1, d2⟩
        go_upto_region 6 with fail
        refine wp_region_noPanic ?_
        refine wp_region_held_drew (S := (fun w' => w'.cell? ⟨b, off + i * 7 + 1, none⟩ = some (.int .i64 E.a) ∧ w'.cell? ⟨b, off + i * 7 + 2, none⟩ = some (.int .i64 E.s))) (by kernel_rfl) (⟨c1, c2⟩) (fun hHeld => ?_)
        refine wpAnyH_take (i := 0) (v := ?_) rfl (by kernel_rfl) (by kernel_rfl) (by kernel_rfl) (fun _ _ _ h => h) (Or.inl ⟨by rfl, ?_⟩) (by assumption) ?_
        rotate_left
        · intro W' hSw; obtain ⟨s1, s2⟩ := hSw; go_simp; try with_reducible rfl
        try simp only [Act.put, List.getElem_toArray, List.getElem_cons_succ, List.getElem_cons_zero, List.setIfInBounds_toArray, List.set_cons_zero, List.set_cons_succ]
        refine wpAnyH_take (i := 1) (v := ?_) rfl (by kernel_rfl) (by kernel_rfl) (by kernel_rfl) (fun _ _ _ h => h) (Or.inl ⟨by rfl, ?_⟩) (by assumption) ?_
        rotate_left
        · intro W' hSw; obtain ⟨s1, s2⟩ := hSw; go_simp; try with_reducible rfl
        try simp only [Act.put, List.getElem_toArray, List.getElem_cons_succ, List.getElem_cons_zero, List.setIfInBounds_toArray, List.set_cons_zero, List.set_cons_succ]
        refine wpAnyH_take (i := 2) (v := ?_) rfl (by kernel_rfl) (by kernel_rfl) (by kernel_rfl) (fun _ _ _ h => h) (Or.inl ⟨by rfl, ?_⟩) (by assumption) ?_
        rotate_left
        · intro W' hSw; obtain ⟨s1, s2⟩ := hSw; go_simp; try with_reducible rfl
        try simp only [Act.put, List.getElem_toArray, List.getElem_cons_succ, List.getElem_cons_zero, List.setIfInBounds_toArray, List.set_cons_zero, List.set_cons_succ]
        refine wpAnyH_take (i := 3) (v := ?_) rfl (by kernel_rfl) (by kernel_rfl) (by kernel_rfl) (fun _ _ _ h => h) (Or.inl ⟨by rfl, ?_⟩) (by assumption) ?_
        rotate_left
        · intro W' hSw; obtain ⟨s1, s2⟩ := hSw; go_simp; try with_reducible rfl
        try simp only [Act.put, List.getElem_toArray, List.getElem_cons_succ, List.getElem_cons_zero, List.setIfInBounds_toArray, List.set_cons_zero, List.set_cons_succ]
        refine wpAnyH_take (i := 4) (v := ?_) rfl (by kernel_rfl) (by kernel_rfl) (by kernel_rfl) (fun _ _ _ h => h) (Or.inl ⟨by rfl, ?_⟩) (by assumption) ?_
        rotate_left
        · intro W' hSw; obtain ⟨s1, s2⟩ := hSw; go_simp; try with_reducible rfl
        try simp only [Act.put, List.getElem_toArray, List.getElem_cons_succ, List.getElem_cons_zero, List.setIfInBounds_toArray, List.set_cons_zero, List.set_cons_succ]
        refine wpAnyH_take (i := 5) (v := ?_) rfl (by kernel_rfl) (by kernel_rfl) (by kernel_rfl) (fun _ _ _ h => h) (Or.inl ⟨by rfl, ?_⟩) (by assumption) ?_
        rotate_left
        · intro W' hSw; obtain ⟨s1, s2⟩ := hSw; go_simp; try with_reducible rfl
        try simp only [Act.put, List.getElem_toArray, List.getElem_cons_succ, List.getElem_cons_zero, List.setIfInBounds_toArray, List.set_cons_zero, List.set_cons_succ]
        refine wpAnyH_take (i := 6) (v := ?_) rfl (by kernel_rfl) (by kernel_rfl) (by kernel_rfl) (fun _ _ _ h => h) (Or.inl ⟨by rfl, ?_⟩) (by assumption) ?_
        rotate_left
        · intro W' hSw; obtain ⟨s1, s2⟩ := hSw; go_simp; try with_reducible rfl
        try simp only [Act.put, List.getElem_toArray, List.getElem_cons_succ, List.getElem_cons_zero, List.setIfInBounds_toArray, List.set_cons_zero, List.set_cons_succ]
        refine wpAnyH_take (i := 7) (v := ?_) rfl (by kernel_rfl) (by kernel_rfl) (by kernel_rfl) (fun _ _ _ h => h) (Or.inl ⟨by rfl, ?_⟩) (by assumption) ?_
        rotate_left
        · intro W' hSw; obtain ⟨s1, s2⟩ := hSw; go_simp; try with_reducible rfl
        try simp only [Act.put, List.getElem_toArray, List.getElem_cons_succ, List.getElem_cons_zero, List.setIfInBounds_toArray, List.set_cons_zero, List.set_cons_succ]
        refine wpAnyH_take (i := 8) (v := ?_) rfl (by kernel_rfl) (by kernel_rfl) (by kernel_rfl) (fun _ _ _ h => h) (Or.inl ⟨by rfl, ?_⟩) (by assumption) ?_
        rotate_left
        · intro W' hSw; obtain ⟨s1, s2⟩ := hSw; go_simp; try with_reducible rfl
        try simp only [Act.put, List.getElem_toArray, List.getElem_cons_succ, List.getElem_cons_zero, List.setIfInBounds_toArray, List.set_cons_zero, List.set_cons_succ]
        refine wpAnyH_take (i := 9) (v := ?_) rfl (by kernel_rfl) (by kernel_rfl) (by kernel_rfl) (fun _ _ _ h => h) (Or.inl ⟨by rfl, ?_⟩) (by assumption) ?_
        rotate_left
        · intro W' hSw; obtain ⟨s1, s2⟩ := hSw; go_simp; try with_reducible rfl
        try simp only [Act.put, List.getElem_toArray, List.getElem_cons_succ, List.getElem_cons_zero, List.setIfInBounds_toArray, List.set_cons_zero, List.set_cons_succ]
        refine wpAnyH_take (i := 10) (v := ?_) rfl (by kernel_rfl) (by kernel_rfl) (by kernel_rfl) (fun _ _ _ h => h) (Or.inl ⟨by rfl, ?_⟩) (by assumption) ?_
        rotate_left
        · intro W' hSw; obtain ⟨s1, s2⟩ := hSw; go_simp; try with_reducible rfl
        try simp only [Act.put, List.getElem_toArray, List.getElem_cons_succ, List.getElem_cons_zero, List.setIfInBounds_toArray, List.set_cons_zero, List.set_cons_succ]
        refine wpAnyH_take (i := 11) (v := ?_) rfl (by kernel_rfl) (by kernel_rfl) (by kernel_rfl) (fun _ _ _ h => h) (Or.inl ⟨by rfl, ?_⟩) (by assumption) ?_
        rotate_left
        · intro W' hSw; obtain ⟨s1, s2⟩ := hSw; go_simp; try with_reducible rfl
        try simp only [Act.put, List.getElem_toArray, List.getElem_cons_succ, List.getElem_cons_zero, List.setIfInBounds_toArray, List.set_cons_zero, List.set_cons_succ]
        refine wpAnyH_ready (rs := [12]) (by kernel_rfl) (by simp) ?_
        refine AllReadyH.cons rfl (fun KK hK => ?_) AllReadyH.nil
        go_simp
        refine (HREM.out _ (HRF.out)).mono ?_
        rintro e w3 ⟨rfl, hq⟩
        have HQ3 : Hid (type_of% hq) := hq
        have hs3 := HS3.out w3 HQ3.out
        clear hq
        refine hK.out _ _ hs3 (fun hHeld => ?_)
        clear hK KK
        try simp only [Act.put, List.getElem_toArray, List.getElem_cons_succ, List.getElem_cons_zero, List.setIfInBounds_toArray, List.set_cons_zero, List.set_cons_succ]
        refine wpAnyH_done (by kernel_rfl) ?_ _
        refine NoPanic.normal ?_
        clear hHeld
        obtain ⟨b1, o1, h1, d0, d1, d2, d3, d4, d5, d6⟩ := (HA3.out w3 HQ3.out).at i hlt
        cases h1
        rw [HE.out] at d0 d1 d2 d3 d4 d5 d6
        obtain ⟨v3, hr3, hc3, hf3⟩ := HQ3.out
        have hn3 : w3.heap[N]? = some (bxP op0) := cg_heap hc3 HNB.out (fun q => by have := HNT.out; omega)
        obtain ⟨n0, n1, n2, n3, n4, n5, n6⟩ := opAt_box (o := op0) hn3
        have zf : ∀ j, w3.frozen? ⟨N, j, none⟩ = false := fun j => Lib.frozen_of_heap hn3 _
        have zf0 := zf 0
        have zf1 := zf 1
        have zf2 := zf 2
        have zf3 := zf 3
        have zf4 := zf 4
        have zf5 := zf 5
        have zf6 := zf 6
        have HFIN : Hid (RfZ w B T r v (remK M E.a E.s) (w3.setCells N 0 (encP E))) := by
          have h9 : RfZ w B T r v (remK M E.a E.s) (w3.setCells N 0 (encP E)) := rfz_box HBW.out hr3 hc3 hf3 HNT.out HNL.out E
          exact h9
        have HFD : Hid (l.find? (rdP n) = some E) := by
          have h9 : l.find? (rdP n) = some E := by
            rw [← HE.out]
            refine find_at (by have := HLN.out; omega) HNO.out ?_
            rw [HE.out]
            exact HPE.out
          exact h9
        clear hr3 hc3 hf3 hn3 zf HNB HA3 HS3 HREM HRF HQ3
        go_wp2
        refine bodyPost_ret (v := .tuple #[.agg #[.int .i64 E.c, .int .i64 E.a, .int .i64 E.s, .bool E.ins, .int .i64 E.rc, .int .i64 E.ra, .int .i32 E.ch], .bool true]) ?_ rfl ?_
        · rw [results_cell_tmp rfl]
          go_simp
        · exact .inl ⟨E, HFD.out, rfl, HFIN.out⟩
    · obtain rfl : m = i := by omega
      obtain ⟨n0, n1, n2, n3, n4, n5, n6⟩ := opAt_box (o := op0) HNB.out
      have zf : ∀ j, w2.frozen? ⟨N, j, none⟩ = false := fun j => Lib.frozen_of_heap HNB.out _
      have zf0 := zf 0
      have zf1 := zf 1
      have zf2 := zf 2
      have zf3 := zf 3
      have zf4 := zf 4
      have zf5 := zf 5
      have zf6 := zf 6
      have HFIN : Hid (RfZ w B T r v M (w2.setCells N 0 (encP op0))) := rfz_box0 HBW.out HRW.out HNT.out HNL.out.1 op0
      have HFD : Hid (l.find? (rdP n) = none) := find_no fun j hj => HNO.out j (by have := HLN.out; omega)
      clear zf HNB
      go_wp2
      refine bodyPost_ret (v := .tuple #[.agg #[.int .i64 0, .int .i64 0, .int .i64 0, .bool false, .int .i64 0, .int .i64 0, .int .i32 0], .bool false]) ?_ rfl ?_
      · rw [results_cell_tmp rfl]
        go_simp
      · exact .inr ⟨HFD.out, rfl, HFIN.out⟩
end Go.Proofs.Ytcbnmahbdcjamaa
