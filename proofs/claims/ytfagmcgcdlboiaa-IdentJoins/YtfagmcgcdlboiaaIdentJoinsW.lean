/- The walk of IdentJoins: Join covers both, and is the least that does. -/
import Derived.Test.YtfagmcgcdlboiaaIdY
namespace Go.Proofs.Ytfagmcgcdlboiaa
open Go.RowKit Go.Sort
set_option linter.unusedVariables false

theorem vec_eq {u v : List (Int × Int)} (hu : Vec u) (hv : Vec v) (h : ∀ c, sqL u c = sqL v c) : u = v := vec_ext u v hu.1 hu.2 hv.1 hv.2 h
theorem joins_math (A B C : List (Int × Int)) (hA : Vec A) (hB : Vec B) (hC : Vec C) :
    covL (joinL A B) A = true ∧ covL (joinL A B) B = true ∧ joinL B A = joinL A B ∧ joinL A (joinL B C) = joinL (joinL A B) C ∧ (covL C A = true → covL C B = true → covL C (joinL A B) = true) ∧ (covL A B && covL B A) = decide (A = B) := by
  have hJ := join_vec A B hA
  have hK := join_vec B C hB
  refine ⟨(cov_iff _ _ hJ hA).2 fun c => ?_, (cov_iff _ _ hJ hB).2 fun c => ?_, vec_eq (join_vec B A hB) hJ fun c => ?_, vec_eq (join_vec A _ hA) (join_vec _ C hJ) fun c => ?_, fun h1 h2 => (cov_iff _ _ hC hJ).2 fun c => ?_, ?_⟩
  · rw [join_sq A B hA hB]; omega
  · rw [join_sq A B hA hB]; omega
  · rw [join_sq A B hA hB, join_sq B A hB hA]; omega
  · rw [join_sq A _ hA hK, join_sq B C hB hC, join_sq _ C hJ hC, join_sq A B hA hB]; omega
  · have e1 := (cov_iff _ _ hC hA).1 h1 c
    have e2 := (cov_iff _ _ hC hB).1 h2 c
    rw [join_sq A B hA hB]; omega
  · rw [Bool.eq_iff_iff, Bool.and_eq_true, cov_iff _ _ hA hB, cov_iff _ _ hB hA, decide_eq_true_eq]
    constructor
    · rintro ⟨h1, h2⟩
      exact vec_eq hA hB fun c => by have := h1 c; have := h2 c; omega
    · rintro rfl
      exact ⟨fun c => Int.le_refl _, fun c => Int.le_refl _⟩
set_option maxHeartbeats 4000000 in
theorem identJoins_walk (xa : List (Int × Int)) (a : Option Addr) (la ca : Nat) (xb : List (Int × Int)) (b : Option Addr) (lb cb : Nat) (xc : List (Int × Int)) (c : Option Addr) (lc cc : Nat) (w : World)
    (ra : RdE w a la xa) (_ : la ≤ ca) (_ : ca ≤ 9223372036854775807) (_ : a = none → ca = 0) (rb : RdE w b lb xb) (_ : lb ≤ cb) (_ : cb ≤ 9223372036854775807) (_ : b = none → cb = 0) (rc : RdE w c lc xc) (_ : lc ≤ cc) (_ : cc ≤ 9223372036854775807) (_ : c = none → cc = 0) :
    Calls Try.prog 6 #[.slice a la ca, .slice b lb cb, .slice c lc cc] w fun e w' => e = .returned (.bool true) ∧ Below w.heap.size w w' := by
  obtain ⟨vA, rA, lA⟩ := vec_is xa
  obtain ⟨vB, rB, lB⟩ := vec_is xb
  obtain ⟨vC, rC, lC⟩ := vec_is xc
  have HVA := c_vec xa a la ca w ra
  have HVB := c_vec xb b lb cb w rb
  have HVC := c_vec xc c lc cc w rc
  generalize vecL xa = A at vA rA lA HVA
  generalize vecL xb = B at vB rB lB HVB
  generalize vecL xc = C at vC rC lC HVC
  have hJ := join_vec A B vA
  have hK := join_vec B C vB
  have lJ := join_len A B
  have lK := join_len B C
  have lJB := join_len B A
  have lJC := join_len (joinL A B) C
  have lAK := join_len A (joinL B C)
  obtain ⟨m1, m2, m3, m4, m5, m6⟩ := joins_math A B C vA vB vC
  have hgj := gap_join A B vA vB
  have K5 : Hid (∀ W u v, HoldsE W u A → HoldsE W v B → Calls Try.prog 23 #[u, v] W (AnsE (joinL A B) W)) := c_join A B vA vB (by omega)
  have K6 : Hid (∀ W u v, HoldsE W u (joinL A B) → HoldsE W v C → Calls Try.prog 23 #[u, v] W (AnsE (joinL (joinL A B) C) W)) := c_join _ C hJ vC (by omega)
  have K7 : Hid (∀ W u, HoldsE W u (joinL A B) → Calls Try.prog 30 #[u] W (AnsV (.bool true) W)) := c_vector _ true (vc_rng _ hJ (rng_join A B rA rB)).symm (by omega)
  have K8 : Hid (∀ W u v, HoldsE W u (joinL A B) → HoldsE W v A → Calls Try.prog 27 #[u, v] W (AnsV (.bool true) W)) := c_covers _ A true m1.symm hJ (by omega) (by omega)
  have K9 : Hid (∀ W u v, HoldsE W u (joinL A B) → HoldsE W v B → Calls Try.prog 27 #[u, v] W (AnsV (.bool true) W)) := c_covers _ B true m2.symm hJ (by omega) (by omega)
  have K10 : Hid (∀ W u v, HoldsE W u B → HoldsE W v A → Calls Try.prog 23 #[u, v] W (AnsE (joinL B A) W)) := c_join B A vB vA (by omega)
  have K11 : Hid (∀ W u v, HoldsE W u (joinL B A) → HoldsE W v (joinL A B) → Calls Try.prog 20 #[u, v] W (AnsV (.bool true) W)) := c_same _ _ true (by rw [m3]; simp) (by omega)
  have K12 : Hid (∀ W u v, HoldsE W u B → HoldsE W v C → Calls Try.prog 23 #[u, v] W (AnsE (joinL B C) W)) := c_join B C vB vC (by omega)
  have K13 : Hid (∀ W u v, HoldsE W u A → HoldsE W v (joinL B C) → Calls Try.prog 23 #[u, v] W (AnsE (joinL A (joinL B C)) W)) := c_join A _ vA hK (by omega)
  have K14 : Hid (∀ W u v, HoldsE W u (joinL A (joinL B C)) → HoldsE W v (joinL (joinL A B) C) → Calls Try.prog 20 #[u, v] W (AnsV (.bool true) W)) := c_same _ _ true (by rw [m4]; simp) (by omega)
  obtain ⟨x1, hx1⟩ : ∃ x, x = covL C A := ⟨_, rfl⟩
  obtain ⟨x2, hx2⟩ : ∃ x, x = covL C B := ⟨_, rfl⟩
  obtain ⟨x3, hx3⟩ : ∃ x, x = covL C (joinL A B) := ⟨_, rfl⟩
  obtain ⟨y1, hy1⟩ : ∃ x, x = covL A B := ⟨_, rfl⟩
  obtain ⟨y2, hy2⟩ : ∃ x, x = covL B A := ⟨_, rfl⟩
  obtain ⟨G, hG⟩ : ∃ x, x = gapL A B := ⟨_, rfl⟩
  have K15 : Hid (∀ W u v, HoldsE W u C → HoldsE W v A → Calls Try.prog 27 #[u, v] W (AnsV (.bool x1) W)) := c_covers C A x1 hx1 vC (by omega) (by omega)
  have K16 : Hid (∀ W u v, HoldsE W u C → HoldsE W v B → Calls Try.prog 27 #[u, v] W (AnsV (.bool x2) W)) := c_covers C B x2 hx2 vC (by omega) (by omega)
  have K17 : Hid (∀ W u v, HoldsE W u C → HoldsE W v (joinL A B) → Calls Try.prog 27 #[u, v] W (AnsV (.bool x3) W)) := c_covers C _ x3 hx3 vC (by omega) (by omega)
  have K18 : Hid (∀ W u v, HoldsE W u A → HoldsE W v B → Calls Try.prog 27 #[u, v] W (AnsV (.bool y1) W)) := c_covers A B y1 hy1 vA (by omega) (by omega)
  have K19 : Hid (∀ W u v, HoldsE W u B → HoldsE W v A → Calls Try.prog 27 #[u, v] W (AnsV (.bool y2) W)) := c_covers B A y2 hy2 vB (by omega) (by omega)
  have K20 : Hid (∀ W u v, HoldsE W u A → HoldsE W v B → Calls Try.prog 20 #[u, v] W (AnsV (.bool (y1 && y2)) W)) := c_same A B (y1 && y2) (by rw [hy1, hy2, m6]) (by omega)
  have K21 : Hid (∀ W u v, HoldsE W u A → HoldsE W v (joinL A B) → Calls Try.prog 26 #[u, v] W (AnsV (.int .i64 G) W)) := c_gap A _ G (by rw [hG, hgj]) vA rA (rng_join A B rA rB) (by omega) (by omega)
  have K22 : Hid (∀ W u v, HoldsE W u A → HoldsE W v B → Calls Try.prog 26 #[u, v] W (AnsV (.int .i64 G) W)) := c_gap A B G hG vA rA rB (by omega) (by omega)
  have hm5 : x1 = true → x2 = true → x3 = true := by rw [hx1, hx2, hx3]; exact m5
  have KVA : Hid (∀ W, Below w.heap.size w W → Calls Try.prog 19 #[.slice a la ca] W (AnsE A W)) := HVA
  have KVB : Hid (∀ W, Below w.heap.size w W → Calls Try.prog 19 #[.slice b lb cb] W (AnsE B W)) := HVB
  have KVC : Hid (∀ W, Below w.heap.size w W → Calls Try.prog 19 #[.slice c lc cc] W (AnsE C W)) := HVC
  have KS : Hid (∀ W, Below w.heap.size w W → Calls Try.prog 10 #[] W (AnsV (.bool true) W)) := c_shown w
  have HL0 : Hid (LiveE w [] w) := ⟨(fun p hp => by cases hp), Below.refl _ _⟩
  generalize joinL A (joinL B C) = AK at K13 K14
  generalize joinL (joinL A B) C = JC at K6 K14
  generalize joinL B C = K at K12 K13
  generalize joinL B A = BA at K10 K11
  generalize joinL A B = J at K5 K6 K7 K8 K9 K11 K17 K21
  clear hx1 hx2 hx3 hy1 hy2 hG m1 m2 m3 m4 m5 m6 hgj lJ lK lJB lJC lAK hJ hK HVA HVB HVC vA vB vC rA rB rC lA lB lC ra rb rc
  go_enter Try.func6, Try.ntmps6
  go_upto_region 9 with (first
    | (go_at_call 10; (with_reducible refine (KS.out w HL0.out.bel ).mono ?_); rintro e w1 ⟨rfl, hb⟩; have HL1 : Hid (LiveE w [] w1) := HL0.out.later hb; clear hb)
    | (go_at_call 19; (with_reducible refine (KVA.out w1 HL1.out.bel ).mono ?_); rintro e w2 ⟨va, rfl, hr, hb⟩; have HL2 : Hid (LiveE w [(va, A)] w2) := HL1.out.push hb hr; clear hr hb)
    | (go_at_call 19; (with_reducible refine (KVB.out w2 HL2.out.bel ).mono ?_); rintro e w3 ⟨vb, rfl, hr, hb⟩; have HL3 : Hid (LiveE w [(vb, B), (va, A)] w3) := HL2.out.push hb hr; clear hr hb)
    | (go_at_call 19; (with_reducible refine (KVC.out w3 HL3.out.bel ).mono ?_); rintro e w4 ⟨vc, rfl, hr, hb⟩; have HL4 : Hid (LiveE w [(vc, C), (vb, B), (va, A)] w4) := HL3.out.push hb hr; clear hr hb)
    | (go_at_call 23; (with_reducible refine (K5.out w4 va vb (HL4.out.get va A (by simp)) (HL4.out.get vb B (by simp))).mono ?_); rintro e w5 ⟨vj, rfl, hr, hb⟩; have HL5 : Hid (LiveE w [(vj, J), (vc, C), (vb, B), (va, A)] w5) := HL4.out.push hb hr; clear hr hb)
    | (go_at_call 23; (with_reducible refine (K6.out w5 vj vc (HL5.out.get vj J (by simp)) (HL5.out.get vc C (by simp))).mono ?_); rintro e w6 ⟨vl, rfl, hr, hb⟩; have HL6 : Hid (LiveE w [(vl, JC), (vj, J), (vc, C), (vb, B), (va, A)] w6) := HL5.out.push hb hr; clear hr hb)
    | (go_at_call 30; (with_reducible refine (K7.out w6 vj (HL6.out.get vj J (by simp))).mono ?_); rintro e w7 ⟨rfl, hb⟩; have HL7 : Hid (LiveE w [(vl, JC), (vj, J), (vc, C), (vb, B), (va, A)] w7) := HL6.out.later hb; clear hb)
    | (go_at_call 27; (with_reducible refine (K8.out w7 vj va (HL7.out.get vj J (by simp)) (HL7.out.get va A (by simp))).mono ?_); rintro e w8 ⟨rfl, hb⟩; have HL8 : Hid (LiveE w [(vl, JC), (vj, J), (vc, C), (vb, B), (va, A)] w8) := HL7.out.later hb; clear hb)
    | (go_at_call 27; (with_reducible refine (K9.out w8 vj vb (HL8.out.get vj J (by simp)) (HL8.out.get vb B (by simp))).mono ?_); rintro e w9 ⟨rfl, hb⟩; have HL9 : Hid (LiveE w [(vl, JC), (vj, J), (vc, C), (vb, B), (va, A)] w9) := HL8.out.later hb; clear hb)
    | (go_at_call 23; (with_reducible refine (K10.out w9 vb va (HL9.out.get vb B (by simp)) (HL9.out.get va A (by simp))).mono ?_); rintro e w10 ⟨t1, rfl, hr, hb⟩; have HL10 : Hid (LiveE w [(t1, BA), (vl, JC), (vj, J), (vc, C), (vb, B), (va, A)] w10) := HL9.out.push hb hr; clear hr hb)
    | (go_at_call 20; (with_reducible refine (K11.out w10 t1 vj (HL10.out.get t1 BA (by simp)) (HL10.out.get vj J (by simp))).mono ?_); rintro e w11 ⟨rfl, hb⟩; have HL11 : Hid (LiveE w [(t1, BA), (vl, JC), (vj, J), (vc, C), (vb, B), (va, A)] w11) := HL10.out.later hb; clear hb)
    | (go_at_call 23; (with_reducible refine (K12.out w11 vb vc (HL11.out.get vb B (by simp)) (HL11.out.get vc C (by simp))).mono ?_); rintro e w12 ⟨t2, rfl, hr, hb⟩; have HL12 : Hid (LiveE w [(t2, K), (t1, BA), (vl, JC), (vj, J), (vc, C), (vb, B), (va, A)] w12) := HL11.out.push hb hr; clear hr hb)
    | (go_at_call 23; (with_reducible refine (K13.out w12 va t2 (HL12.out.get va A (by simp)) (HL12.out.get t2 K (by simp))).mono ?_); rintro e w13 ⟨t3, rfl, hr, hb⟩; have HL13 : Hid (LiveE w [(t3, AK), (t2, K), (t1, BA), (vl, JC), (vj, J), (vc, C), (vb, B), (va, A)] w13) := HL12.out.push hb hr; clear hr hb)
    | (go_at_call 20; (with_reducible refine (K14.out w13 t3 vl (HL13.out.get t3 AK (by simp)) (HL13.out.get vl JC (by simp))).mono ?_); rintro e w14 ⟨rfl, hb⟩; have HL14 : Hid (LiveE w [(t3, AK), (t2, K), (t1, BA), (vl, JC), (vj, J), (vc, C), (vb, B), (va, A)] w14) := HL13.out.later hb; clear hb))
  have hxc : x1 = false ∨ (x1 = true ∧ x2 = false) ∨ (x1 = true ∧ x2 = true ∧ x3 = true) := by
    cases x1
    · exact .inl rfl
    · cases x2
      · exact .inr (.inl ⟨rfl, rfl⟩)
      · exact .inr (.inr ⟨rfl, rfl, hm5 rfl rfl⟩)
  clear hm5
  rcases hxc with rfl | ⟨rfl, rfl⟩ | ⟨rfl, rfl, rfl⟩
  · cases y1
    · go_wp2_with (first
        | (go_at_call 27; (with_reducible refine (K15.out w14 vc va (HL14.out.get vc C (by simp)) (HL14.out.get va A (by simp))).mono ?_); rintro e w15 ⟨rfl, hb⟩; have HL15 : Hid (LiveE w [(t3, AK), (t2, K), (t1, BA), (vl, JC), (vj, J), (vc, C), (vb, B), (va, A)] w15) := HL14.out.later hb; clear hb)
        | (go_at_call 27; (with_reducible refine (K18.out w15 va vb (HL15.out.get va A (by simp)) (HL15.out.get vb B (by simp))).mono ?_); rintro e w16 ⟨rfl, hb⟩; have HL16 : Hid (LiveE w [(t3, AK), (t2, K), (t1, BA), (vl, JC), (vj, J), (vc, C), (vb, B), (va, A)] w16) := HL15.out.later hb; clear hb)
        | (go_at_call 20; (with_reducible refine (K20.out w16 va vb (HL16.out.get va A (by simp)) (HL16.out.get vb B (by simp))).mono ?_); rintro e w17 ⟨rfl, hb⟩; have HL17 : Hid (LiveE w [(t3, AK), (t2, K), (t1, BA), (vl, JC), (vj, J), (vc, C), (vb, B), (va, A)] w17) := HL16.out.later hb; clear hb)
        | (go_at_call 26; (with_reducible refine (K21.out w17 va vj (HL17.out.get va A (by simp)) (HL17.out.get vj J (by simp))).mono ?_); rintro e w18 ⟨rfl, hb⟩; have HL18 : Hid (LiveE w [(t3, AK), (t2, K), (t1, BA), (vl, JC), (vj, J), (vc, C), (vb, B), (va, A)] w18) := HL17.out.later hb; clear hb)
        | (go_at_call 26; (with_reducible refine (K22.out w18 va vb (HL18.out.get va A (by simp)) (HL18.out.get vb B (by simp))).mono ?_); rintro e w19 ⟨rfl, hb⟩; have HL19 : Hid (LiveE w [(t3, AK), (t2, K), (t1, BA), (vl, JC), (vj, J), (vc, C), (vb, B), (va, A)] w19) := HL18.out.later hb; clear hb))
      go_ret
      exact ⟨by first | rfl | simp, HL19.out.bel⟩
    · go_wp2_with (first
        | (go_at_call 27; (with_reducible refine (K15.out w14 vc va (HL14.out.get vc C (by simp)) (HL14.out.get va A (by simp))).mono ?_); rintro e w15 ⟨rfl, hb⟩; have HL15 : Hid (LiveE w [(t3, AK), (t2, K), (t1, BA), (vl, JC), (vj, J), (vc, C), (vb, B), (va, A)] w15) := HL14.out.later hb; clear hb)
        | (go_at_call 27; (with_reducible refine (K18.out w15 va vb (HL15.out.get va A (by simp)) (HL15.out.get vb B (by simp))).mono ?_); rintro e w16 ⟨rfl, hb⟩; have HL16 : Hid (LiveE w [(t3, AK), (t2, K), (t1, BA), (vl, JC), (vj, J), (vc, C), (vb, B), (va, A)] w16) := HL15.out.later hb; clear hb)
        | (go_at_call 27; (with_reducible refine (K19.out w16 vb va (HL16.out.get vb B (by simp)) (HL16.out.get va A (by simp))).mono ?_); rintro e w17 ⟨rfl, hb⟩; have HL17 : Hid (LiveE w [(t3, AK), (t2, K), (t1, BA), (vl, JC), (vj, J), (vc, C), (vb, B), (va, A)] w17) := HL16.out.later hb; clear hb)
        | (go_at_call 20; (with_reducible refine (K20.out w17 va vb (HL17.out.get va A (by simp)) (HL17.out.get vb B (by simp))).mono ?_); rintro e w18 ⟨rfl, hb⟩; have HL18 : Hid (LiveE w [(t3, AK), (t2, K), (t1, BA), (vl, JC), (vj, J), (vc, C), (vb, B), (va, A)] w18) := HL17.out.later hb; clear hb)
        | (go_at_call 26; (with_reducible refine (K21.out w18 va vj (HL18.out.get va A (by simp)) (HL18.out.get vj J (by simp))).mono ?_); rintro e w19 ⟨rfl, hb⟩; have HL19 : Hid (LiveE w [(t3, AK), (t2, K), (t1, BA), (vl, JC), (vj, J), (vc, C), (vb, B), (va, A)] w19) := HL18.out.later hb; clear hb)
        | (go_at_call 26; (with_reducible refine (K22.out w19 va vb (HL19.out.get va A (by simp)) (HL19.out.get vb B (by simp))).mono ?_); rintro e w20 ⟨rfl, hb⟩; have HL20 : Hid (LiveE w [(t3, AK), (t2, K), (t1, BA), (vl, JC), (vj, J), (vc, C), (vb, B), (va, A)] w20) := HL19.out.later hb; clear hb))
      go_ret
      exact ⟨by first | rfl | simp, HL20.out.bel⟩
  · cases y1
    · go_wp2_with (first
        | (go_at_call 27; (with_reducible refine (K15.out w14 vc va (HL14.out.get vc C (by simp)) (HL14.out.get va A (by simp))).mono ?_); rintro e w15 ⟨rfl, hb⟩; have HL15 : Hid (LiveE w [(t3, AK), (t2, K), (t1, BA), (vl, JC), (vj, J), (vc, C), (vb, B), (va, A)] w15) := HL14.out.later hb; clear hb)
        | (go_at_call 27; (with_reducible refine (K16.out w15 vc vb (HL15.out.get vc C (by simp)) (HL15.out.get vb B (by simp))).mono ?_); rintro e w16 ⟨rfl, hb⟩; have HL16 : Hid (LiveE w [(t3, AK), (t2, K), (t1, BA), (vl, JC), (vj, J), (vc, C), (vb, B), (va, A)] w16) := HL15.out.later hb; clear hb)
        | (go_at_call 27; (with_reducible refine (K18.out w16 va vb (HL16.out.get va A (by simp)) (HL16.out.get vb B (by simp))).mono ?_); rintro e w17 ⟨rfl, hb⟩; have HL17 : Hid (LiveE w [(t3, AK), (t2, K), (t1, BA), (vl, JC), (vj, J), (vc, C), (vb, B), (va, A)] w17) := HL16.out.later hb; clear hb)
        | (go_at_call 20; (with_reducible refine (K20.out w17 va vb (HL17.out.get va A (by simp)) (HL17.out.get vb B (by simp))).mono ?_); rintro e w18 ⟨rfl, hb⟩; have HL18 : Hid (LiveE w [(t3, AK), (t2, K), (t1, BA), (vl, JC), (vj, J), (vc, C), (vb, B), (va, A)] w18) := HL17.out.later hb; clear hb)
        | (go_at_call 26; (with_reducible refine (K21.out w18 va vj (HL18.out.get va A (by simp)) (HL18.out.get vj J (by simp))).mono ?_); rintro e w19 ⟨rfl, hb⟩; have HL19 : Hid (LiveE w [(t3, AK), (t2, K), (t1, BA), (vl, JC), (vj, J), (vc, C), (vb, B), (va, A)] w19) := HL18.out.later hb; clear hb)
        | (go_at_call 26; (with_reducible refine (K22.out w19 va vb (HL19.out.get va A (by simp)) (HL19.out.get vb B (by simp))).mono ?_); rintro e w20 ⟨rfl, hb⟩; have HL20 : Hid (LiveE w [(t3, AK), (t2, K), (t1, BA), (vl, JC), (vj, J), (vc, C), (vb, B), (va, A)] w20) := HL19.out.later hb; clear hb))
      go_ret
      exact ⟨by first | rfl | simp, HL20.out.bel⟩
    · go_wp2_with (first
        | (go_at_call 27; (with_reducible refine (K15.out w14 vc va (HL14.out.get vc C (by simp)) (HL14.out.get va A (by simp))).mono ?_); rintro e w15 ⟨rfl, hb⟩; have HL15 : Hid (LiveE w [(t3, AK), (t2, K), (t1, BA), (vl, JC), (vj, J), (vc, C), (vb, B), (va, A)] w15) := HL14.out.later hb; clear hb)
        | (go_at_call 27; (with_reducible refine (K16.out w15 vc vb (HL15.out.get vc C (by simp)) (HL15.out.get vb B (by simp))).mono ?_); rintro e w16 ⟨rfl, hb⟩; have HL16 : Hid (LiveE w [(t3, AK), (t2, K), (t1, BA), (vl, JC), (vj, J), (vc, C), (vb, B), (va, A)] w16) := HL15.out.later hb; clear hb)
        | (go_at_call 27; (with_reducible refine (K18.out w16 va vb (HL16.out.get va A (by simp)) (HL16.out.get vb B (by simp))).mono ?_); rintro e w17 ⟨rfl, hb⟩; have HL17 : Hid (LiveE w [(t3, AK), (t2, K), (t1, BA), (vl, JC), (vj, J), (vc, C), (vb, B), (va, A)] w17) := HL16.out.later hb; clear hb)
        | (go_at_call 27; (with_reducible refine (K19.out w17 vb va (HL17.out.get vb B (by simp)) (HL17.out.get va A (by simp))).mono ?_); rintro e w18 ⟨rfl, hb⟩; have HL18 : Hid (LiveE w [(t3, AK), (t2, K), (t1, BA), (vl, JC), (vj, J), (vc, C), (vb, B), (va, A)] w18) := HL17.out.later hb; clear hb)
        | (go_at_call 20; (with_reducible refine (K20.out w18 va vb (HL18.out.get va A (by simp)) (HL18.out.get vb B (by simp))).mono ?_); rintro e w19 ⟨rfl, hb⟩; have HL19 : Hid (LiveE w [(t3, AK), (t2, K), (t1, BA), (vl, JC), (vj, J), (vc, C), (vb, B), (va, A)] w19) := HL18.out.later hb; clear hb)
        | (go_at_call 26; (with_reducible refine (K21.out w19 va vj (HL19.out.get va A (by simp)) (HL19.out.get vj J (by simp))).mono ?_); rintro e w20 ⟨rfl, hb⟩; have HL20 : Hid (LiveE w [(t3, AK), (t2, K), (t1, BA), (vl, JC), (vj, J), (vc, C), (vb, B), (va, A)] w20) := HL19.out.later hb; clear hb)
        | (go_at_call 26; (with_reducible refine (K22.out w20 va vb (HL20.out.get va A (by simp)) (HL20.out.get vb B (by simp))).mono ?_); rintro e w21 ⟨rfl, hb⟩; have HL21 : Hid (LiveE w [(t3, AK), (t2, K), (t1, BA), (vl, JC), (vj, J), (vc, C), (vb, B), (va, A)] w21) := HL20.out.later hb; clear hb))
      go_ret
      exact ⟨by first | rfl | simp, HL21.out.bel⟩
  · cases y1
    · go_wp2_with (first
        | (go_at_call 27; (with_reducible refine (K15.out w14 vc va (HL14.out.get vc C (by simp)) (HL14.out.get va A (by simp))).mono ?_); rintro e w15 ⟨rfl, hb⟩; have HL15 : Hid (LiveE w [(t3, AK), (t2, K), (t1, BA), (vl, JC), (vj, J), (vc, C), (vb, B), (va, A)] w15) := HL14.out.later hb; clear hb)
        | (go_at_call 27; (with_reducible refine (K16.out w15 vc vb (HL15.out.get vc C (by simp)) (HL15.out.get vb B (by simp))).mono ?_); rintro e w16 ⟨rfl, hb⟩; have HL16 : Hid (LiveE w [(t3, AK), (t2, K), (t1, BA), (vl, JC), (vj, J), (vc, C), (vb, B), (va, A)] w16) := HL15.out.later hb; clear hb)
        | (go_at_call 27; (with_reducible refine (K17.out w16 vc vj (HL16.out.get vc C (by simp)) (HL16.out.get vj J (by simp))).mono ?_); rintro e w17 ⟨rfl, hb⟩; have HL17 : Hid (LiveE w [(t3, AK), (t2, K), (t1, BA), (vl, JC), (vj, J), (vc, C), (vb, B), (va, A)] w17) := HL16.out.later hb; clear hb)
        | (go_at_call 27; (with_reducible refine (K18.out w17 va vb (HL17.out.get va A (by simp)) (HL17.out.get vb B (by simp))).mono ?_); rintro e w18 ⟨rfl, hb⟩; have HL18 : Hid (LiveE w [(t3, AK), (t2, K), (t1, BA), (vl, JC), (vj, J), (vc, C), (vb, B), (va, A)] w18) := HL17.out.later hb; clear hb)
        | (go_at_call 20; (with_reducible refine (K20.out w18 va vb (HL18.out.get va A (by simp)) (HL18.out.get vb B (by simp))).mono ?_); rintro e w19 ⟨rfl, hb⟩; have HL19 : Hid (LiveE w [(t3, AK), (t2, K), (t1, BA), (vl, JC), (vj, J), (vc, C), (vb, B), (va, A)] w19) := HL18.out.later hb; clear hb)
        | (go_at_call 26; (with_reducible refine (K21.out w19 va vj (HL19.out.get va A (by simp)) (HL19.out.get vj J (by simp))).mono ?_); rintro e w20 ⟨rfl, hb⟩; have HL20 : Hid (LiveE w [(t3, AK), (t2, K), (t1, BA), (vl, JC), (vj, J), (vc, C), (vb, B), (va, A)] w20) := HL19.out.later hb; clear hb)
        | (go_at_call 26; (with_reducible refine (K22.out w20 va vb (HL20.out.get va A (by simp)) (HL20.out.get vb B (by simp))).mono ?_); rintro e w21 ⟨rfl, hb⟩; have HL21 : Hid (LiveE w [(t3, AK), (t2, K), (t1, BA), (vl, JC), (vj, J), (vc, C), (vb, B), (va, A)] w21) := HL20.out.later hb; clear hb))
      go_ret
      exact ⟨by first | rfl | simp, HL21.out.bel⟩
    · go_wp2_with (first
        | (go_at_call 27; (with_reducible refine (K15.out w14 vc va (HL14.out.get vc C (by simp)) (HL14.out.get va A (by simp))).mono ?_); rintro e w15 ⟨rfl, hb⟩; have HL15 : Hid (LiveE w [(t3, AK), (t2, K), (t1, BA), (vl, JC), (vj, J), (vc, C), (vb, B), (va, A)] w15) := HL14.out.later hb; clear hb)
        | (go_at_call 27; (with_reducible refine (K16.out w15 vc vb (HL15.out.get vc C (by simp)) (HL15.out.get vb B (by simp))).mono ?_); rintro e w16 ⟨rfl, hb⟩; have HL16 : Hid (LiveE w [(t3, AK), (t2, K), (t1, BA), (vl, JC), (vj, J), (vc, C), (vb, B), (va, A)] w16) := HL15.out.later hb; clear hb)
        | (go_at_call 27; (with_reducible refine (K17.out w16 vc vj (HL16.out.get vc C (by simp)) (HL16.out.get vj J (by simp))).mono ?_); rintro e w17 ⟨rfl, hb⟩; have HL17 : Hid (LiveE w [(t3, AK), (t2, K), (t1, BA), (vl, JC), (vj, J), (vc, C), (vb, B), (va, A)] w17) := HL16.out.later hb; clear hb)
        | (go_at_call 27; (with_reducible refine (K18.out w17 va vb (HL17.out.get va A (by simp)) (HL17.out.get vb B (by simp))).mono ?_); rintro e w18 ⟨rfl, hb⟩; have HL18 : Hid (LiveE w [(t3, AK), (t2, K), (t1, BA), (vl, JC), (vj, J), (vc, C), (vb, B), (va, A)] w18) := HL17.out.later hb; clear hb)
        | (go_at_call 27; (with_reducible refine (K19.out w18 vb va (HL18.out.get vb B (by simp)) (HL18.out.get va A (by simp))).mono ?_); rintro e w19 ⟨rfl, hb⟩; have HL19 : Hid (LiveE w [(t3, AK), (t2, K), (t1, BA), (vl, JC), (vj, J), (vc, C), (vb, B), (va, A)] w19) := HL18.out.later hb; clear hb)
        | (go_at_call 20; (with_reducible refine (K20.out w19 va vb (HL19.out.get va A (by simp)) (HL19.out.get vb B (by simp))).mono ?_); rintro e w20 ⟨rfl, hb⟩; have HL20 : Hid (LiveE w [(t3, AK), (t2, K), (t1, BA), (vl, JC), (vj, J), (vc, C), (vb, B), (va, A)] w20) := HL19.out.later hb; clear hb)
        | (go_at_call 26; (with_reducible refine (K21.out w20 va vj (HL20.out.get va A (by simp)) (HL20.out.get vj J (by simp))).mono ?_); rintro e w21 ⟨rfl, hb⟩; have HL21 : Hid (LiveE w [(t3, AK), (t2, K), (t1, BA), (vl, JC), (vj, J), (vc, C), (vb, B), (va, A)] w21) := HL20.out.later hb; clear hb)
        | (go_at_call 26; (with_reducible refine (K22.out w21 va vb (HL21.out.get va A (by simp)) (HL21.out.get vb B (by simp))).mono ?_); rintro e w22 ⟨rfl, hb⟩; have HL22 : Hid (LiveE w [(t3, AK), (t2, K), (t1, BA), (vl, JC), (vj, J), (vc, C), (vb, B), (va, A)] w22) := HL21.out.later hb; clear hb))
      go_ret
      exact ⟨by first | rfl | simp, HL22.out.bel⟩
end Go.Proofs.Ytfagmcgcdlboiaa
