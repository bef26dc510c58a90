/- The walk of IdentVectors: vectors are what the document says. -/
import Derived.Test.YtfagmcgcdlboiaaIdY
namespace Go.Proofs.Ytfagmcgcdlboiaa
open Go.RowKit Go.Sort
set_option linter.unusedVariables false

set_option maxHeartbeats 4000000 in
theorem identVectors_walk (xl : List (Int × Int)) (al : Option Addr) (ll cl : Nat) (xa : List (Int × Int)) (a : Option Addr) (la ca : Nat) (xb : List (Int × Int)) (b : Option Addr) (lb cb : Nat) (au0 se0 : Int) (w : World)
    (rl : RdE w al ll xl) (hll : ll ≤ cl) (hcl : cl ≤ 9223372036854775807) (nl : al = none → cl = 0) (ra : RdE w a la xa) (_ : la ≤ ca) (_ : ca ≤ 9223372036854775807) (_ : a = none → ca = 0) (rb : RdE w b lb xb) (_ : lb ≤ cb) (_ : cb ≤ 9223372036854775807) (_ : b = none → cb = 0)
    (_ : -9223372036854775808 ≤ au0) (_ : au0 ≤ 9223372036854775807) (_ : -9223372036854775808 ≤ se0) (_ : se0 ≤ 9223372036854775807) :
    Calls Try.prog 4 #[.slice al ll cl, .slice a la ca, .slice b lb cb, .int .i64 au0, .int .i64 se0] w fun e w' => e = .returned (.bool true) ∧ Below w.heap.size w w' := by
  obtain ⟨vA, rA, lA⟩ := vec_is xa
  obtain ⟨vB, rB, lB⟩ := vec_is xb
  have HVA := c_vec xa a la ca w ra
  have HVB := c_vec xb b lb cb w rb
  generalize vecL xa = A at vA rA lA HVA
  generalize vecL xb = B at vB rB lB HVB
  have lJ := join_len A B
  obtain ⟨n, hn⟩ : ∃ n, n = min ll 30 := ⟨_, rfl⟩
  have hmn := min_run ll n 30 (by omega)
  have hcut := cutE_to al ll cl n (by omega)
  have hXl : (xl.take n).length = n := by have := rl.1; simp; omega
  have HLv : HoldsE w (.slice al n cl) (xl.take n) := by
    refine ⟨al, cl, by rw [hXl], by rw [hXl]; omega, hcl, nl, ?_⟩
    refine ⟨rfl, fun hp => ?_⟩
    obtain ⟨bb, off, e1, e2⟩ := rl.2 (by rw [hXl] at hp; omega)
    refine ⟨bb, off, e1, fun j v hv => e2 j v ?_⟩
    rw [(flatE_take xl n (by have := rl.1; omega)).1, List.getElem?_take] at hv
    split at hv
    · exact hv
    · cases hv
  have hX30 : (xl.take n).length ≤ 30 := by omega
  generalize xl.take n = X at HLv hX30
  have hau := and22 au0
  have hse := and16 se0
  obtain ⟨q, hq⟩ : ∃ q, q = au0 % 4194304 := ⟨_, rfl⟩
  obtain ⟨s, hs⟩ : ∃ s, s = se0 % 65536 := ⟨_, rfl⟩
  rw [← hq] at hau
  rw [← hs] at hse
  obtain ⟨G, hG⟩ : ∃ G, G = gapL A B := ⟨_, rfl⟩
  obtain ⟨z, hz⟩ : ∃ z, (G == 0) = z := ⟨_, rfl⟩
  obtain ⟨S, hS⟩ : ∃ S, S = sqL A q := ⟨_, rfl⟩
  obtain ⟨V, hV⟩ : ∃ V, V = vcB (-1) X := ⟨_, rfl⟩
  have hcv : z = covL A B := by
    rw [cov_gap, ← hG, ← hz, Bool.eq_iff_iff]
    simp
  have K7 : Hid (∀ W u, HoldsE W u A → Calls Try.prog 21 #[u, .int .i64 q, .int .i64 s] W (AnsE (withL A q s) W)) := c_with A q s vA (by omega)
  have K8 : Hid (∀ W u, HoldsE W u A → Calls Try.prog 22 #[u, .int .i64 q, .int .i64 s] W (AnsE (withL A q s) W)) := c_refWith A q s vA (by omega)
  have lW := with_len A q s
  have K9 : Hid (∀ W u v, HoldsE W u (withL A q s) → HoldsE W v (withL A q s) → Calls Try.prog 20 #[u, v] W (AnsV (.bool true) W)) := c_same _ _ true (by simp) (by omega)
  have K10 : Hid (∀ W u v, HoldsE W u A → HoldsE W v B → Calls Try.prog 23 #[u, v] W (AnsE (joinL A B) W)) := c_join A B vA vB (by omega)
  have K11 : Hid (∀ W u v, HoldsE W u A → HoldsE W v B → Calls Try.prog 24 #[u, v] W (AnsE (joinL A B) W)) := c_refJoin A B vA (by omega) (by omega)
  have K12 : Hid (∀ W u v, HoldsE W u (joinL A B) → HoldsE W v (joinL A B) → Calls Try.prog 20 #[u, v] W (AnsV (.bool true) W)) := c_same _ _ true (by simp) (by omega)
  have K13 : Hid (∀ W u v, HoldsE W u A → HoldsE W v B → Calls Try.prog 25 #[u, v] W (AnsV (.int .i64 G) W)) := c_refGap A B G hG rA rB (by omega) (by omega)
  have K14 : Hid (∀ W u v, HoldsE W u A → HoldsE W v A → Calls Try.prog 20 #[u, v] W (AnsV (.bool true) W)) := c_same _ _ true (by simp) (by omega)
  have K15 : Hid (∀ W u v, HoldsE W u B → HoldsE W v B → Calls Try.prog 20 #[u, v] W (AnsV (.bool true) W)) := c_same _ _ true (by simp) (by omega)
  have K16 : Hid (∀ W u v, HoldsE W u A → HoldsE W v B → Calls Try.prog 26 #[u, v] W (AnsV (.int .i64 G) W)) := c_gap A B G hG vA rA rB (by omega) (by omega)
  have K17 : Hid (∀ W u v, HoldsE W u A → HoldsE W v B → Calls Try.prog 27 #[u, v] W (AnsV (.bool z) W)) := c_covers A B z hcv vA (by omega) (by omega)
  have K18 : Hid (∀ W u, HoldsE W u A → Calls Try.prog 28 #[u, .int .i64 q] W (AnsV (.int .i64 S) W)) := c_seq A q S hS vA (by omega)
  have K19 : Hid (∀ W u, HoldsE W u A → Calls Try.prog 29 #[u, .int .i64 q] W (AnsV (.int .i64 S) W)) := c_refSeq A q S hS (by omega)
  have K20 : Hid (∀ W u, HoldsE W u X → Calls Try.prog 30 #[u] W (AnsV (.bool V) W)) := c_vector X V hV (by omega)
  have K21 : Hid (∀ W u, HoldsE W u X → Calls Try.prog 31 #[u] W (AnsV (.bool V) W)) := c_refVector X V hV (by omega)
  have KVA : Hid (∀ W, Below w.heap.size w W → Calls Try.prog 19 #[.slice a la ca] W (AnsE A W)) := HVA
  have KVB : Hid (∀ W, Below w.heap.size w W → Calls Try.prog 19 #[.slice b lb cb] W (AnsE B W)) := HVB
  have KS : Hid (∀ W, Below w.heap.size w W → Calls Try.prog 10 #[] W (AnsV (.bool true) W)) := c_shown w
  have HL0 : Hid (LiveE w [(.slice al n cl, X)] w) := ⟨(fun p hp => by obtain rfl := List.mem_singleton.1 hp; exact HLv), Below.refl _ _⟩
  generalize withL A q s = WL at K7 K8 K9
  generalize joinL A B = J at K10 K11 K12
  clear hcv hG hS hV hq hs lW lJ hX30 HLv hXl hn HVA HVB vA vB rA rB lA lB ra rb rl
  go_enter Try.func4, Try.ntmps4
  go_wp2_with (first
    | (go_at_call 10; (with_reducible refine (KS.out w HL0.out.bel ).mono ?_); rintro e w1 ⟨rfl, hb⟩; have HL1 : Hid (LiveE w [((.slice al n cl), X)] w1) := HL0.out.later hb; clear hb)
    | (go_at_call 19; (with_reducible refine (KVA.out w1 HL1.out.bel ).mono ?_); rintro e w2 ⟨va, rfl, hr, hb⟩; have HL2 : Hid (LiveE w [(va, A), ((.slice al n cl), X)] w2) := HL1.out.push hb hr; clear hr hb)
    | (go_at_call 19; (with_reducible refine (KVB.out w2 HL2.out.bel ).mono ?_); rintro e w3 ⟨vb, rfl, hr, hb⟩; have HL3 : Hid (LiveE w [(vb, B), (va, A), ((.slice al n cl), X)] w3) := HL2.out.push hb hr; clear hr hb)
    | (go_at_call 21; (with_reducible refine (K7.out w3 va (HL3.out.get va A (by simp))).mono ?_); rintro e w4 ⟨t1, rfl, hr, hb⟩; have HL4 : Hid (LiveE w [(t1, WL), (vb, B), (va, A), ((.slice al n cl), X)] w4) := HL3.out.push hb hr; clear hr hb)
    | (go_at_call 19; (with_reducible refine (KVA.out w4 HL4.out.bel ).mono ?_); rintro e w5 ⟨t2, rfl, hr, hb⟩; have HL5 : Hid (LiveE w [(t2, A), (t1, WL), (vb, B), (va, A), ((.slice al n cl), X)] w5) := HL4.out.push hb hr; clear hr hb)
    | (go_at_call 22; (with_reducible refine (K8.out w5 t2 (HL5.out.get t2 A (by simp))).mono ?_); rintro e w6 ⟨t3, rfl, hr, hb⟩; have HL6 : Hid (LiveE w [(t3, WL), (t2, A), (t1, WL), (vb, B), (va, A), ((.slice al n cl), X)] w6) := HL5.out.push hb hr; clear hr hb)
    | (go_at_call 20; (with_reducible refine (K9.out w6 t1 t3 (HL6.out.get t1 WL (by simp)) (HL6.out.get t3 WL (by simp))).mono ?_); rintro e w7 ⟨rfl, hb⟩; have HL7 : Hid (LiveE w [(t3, WL), (t2, A), (t1, WL), (vb, B), (va, A), ((.slice al n cl), X)] w7) := HL6.out.later hb; clear hb)
    | (go_at_call 23; (with_reducible refine (K10.out w7 va vb (HL7.out.get va A (by simp)) (HL7.out.get vb B (by simp))).mono ?_); rintro e w8 ⟨t4, rfl, hr, hb⟩; have HL8 : Hid (LiveE w [(t4, J), (t3, WL), (t2, A), (t1, WL), (vb, B), (va, A), ((.slice al n cl), X)] w8) := HL7.out.push hb hr; clear hr hb)
    | (go_at_call 19; (with_reducible refine (KVA.out w8 HL8.out.bel ).mono ?_); rintro e w9 ⟨t5, rfl, hr, hb⟩; have HL9 : Hid (LiveE w [(t5, A), (t4, J), (t3, WL), (t2, A), (t1, WL), (vb, B), (va, A), ((.slice al n cl), X)] w9) := HL8.out.push hb hr; clear hr hb)
    | (go_at_call 19; (with_reducible refine (KVB.out w9 HL9.out.bel ).mono ?_); rintro e w10 ⟨t6, rfl, hr, hb⟩; have HL10 : Hid (LiveE w [(t6, B), (t5, A), (t4, J), (t3, WL), (t2, A), (t1, WL), (vb, B), (va, A), ((.slice al n cl), X)] w10) := HL9.out.push hb hr; clear hr hb)
    | (go_at_call 24; (with_reducible refine (K11.out w10 t5 t6 (HL10.out.get t5 A (by simp)) (HL10.out.get t6 B (by simp))).mono ?_); rintro e w11 ⟨t7, rfl, hr, hb⟩; have HL11 : Hid (LiveE w [(t7, J), (t6, B), (t5, A), (t4, J), (t3, WL), (t2, A), (t1, WL), (vb, B), (va, A), ((.slice al n cl), X)] w11) := HL10.out.push hb hr; clear hr hb)
    | (go_at_call 20; (with_reducible refine (K12.out w11 t4 t7 (HL11.out.get t4 J (by simp)) (HL11.out.get t7 J (by simp))).mono ?_); rintro e w12 ⟨rfl, hb⟩; have HL12 : Hid (LiveE w [(t7, J), (t6, B), (t5, A), (t4, J), (t3, WL), (t2, A), (t1, WL), (vb, B), (va, A), ((.slice al n cl), X)] w12) := HL11.out.later hb; clear hb)
    | (go_at_call 19; (with_reducible refine (KVA.out w12 HL12.out.bel ).mono ?_); rintro e w13 ⟨t8, rfl, hr, hb⟩; have HL13 : Hid (LiveE w [(t8, A), (t7, J), (t6, B), (t5, A), (t4, J), (t3, WL), (t2, A), (t1, WL), (vb, B), (va, A), ((.slice al n cl), X)] w13) := HL12.out.push hb hr; clear hr hb)
    | (go_at_call 19; (with_reducible refine (KVB.out w13 HL13.out.bel ).mono ?_); rintro e w14 ⟨t9, rfl, hr, hb⟩; have HL14 : Hid (LiveE w [(t9, B), (t8, A), (t7, J), (t6, B), (t5, A), (t4, J), (t3, WL), (t2, A), (t1, WL), (vb, B), (va, A), ((.slice al n cl), X)] w14) := HL13.out.push hb hr; clear hr hb)
    | (go_at_call 25; (with_reducible refine (K13.out w14 t8 t9 (HL14.out.get t8 A (by simp)) (HL14.out.get t9 B (by simp))).mono ?_); rintro e w15 ⟨rfl, hb⟩; have HL15 : Hid (LiveE w [(t9, B), (t8, A), (t7, J), (t6, B), (t5, A), (t4, J), (t3, WL), (t2, A), (t1, WL), (vb, B), (va, A), ((.slice al n cl), X)] w15) := HL14.out.later hb; clear hb)
    | (go_at_call 19; (with_reducible refine (KVA.out w15 HL15.out.bel ).mono ?_); rintro e w16 ⟨t10, rfl, hr, hb⟩; have HL16 : Hid (LiveE w [(t10, A), (t9, B), (t8, A), (t7, J), (t6, B), (t5, A), (t4, J), (t3, WL), (t2, A), (t1, WL), (vb, B), (va, A), ((.slice al n cl), X)] w16) := HL15.out.push hb hr; clear hr hb)
    | (go_at_call 20; (with_reducible refine (K14.out w16 va t10 (HL16.out.get va A (by simp)) (HL16.out.get t10 A (by simp))).mono ?_); rintro e w17 ⟨rfl, hb⟩; have HL17 : Hid (LiveE w [(t10, A), (t9, B), (t8, A), (t7, J), (t6, B), (t5, A), (t4, J), (t3, WL), (t2, A), (t1, WL), (vb, B), (va, A), ((.slice al n cl), X)] w17) := HL16.out.later hb; clear hb)
    | (go_at_call 19; (with_reducible refine (KVB.out w17 HL17.out.bel ).mono ?_); rintro e w18 ⟨t11, rfl, hr, hb⟩; have HL18 : Hid (LiveE w [(t11, B), (t10, A), (t9, B), (t8, A), (t7, J), (t6, B), (t5, A), (t4, J), (t3, WL), (t2, A), (t1, WL), (vb, B), (va, A), ((.slice al n cl), X)] w18) := HL17.out.push hb hr; clear hr hb)
    | (go_at_call 20; (with_reducible refine (K15.out w18 vb t11 (HL18.out.get vb B (by simp)) (HL18.out.get t11 B (by simp))).mono ?_); rintro e w19 ⟨rfl, hb⟩; have HL19 : Hid (LiveE w [(t11, B), (t10, A), (t9, B), (t8, A), (t7, J), (t6, B), (t5, A), (t4, J), (t3, WL), (t2, A), (t1, WL), (vb, B), (va, A), ((.slice al n cl), X)] w19) := HL18.out.later hb; clear hb)
    | (go_at_call 26; (with_reducible refine (K16.out w19 va vb (HL19.out.get va A (by simp)) (HL19.out.get vb B (by simp))).mono ?_); rintro e w20 ⟨rfl, hb⟩; have HL20 : Hid (LiveE w [(t11, B), (t10, A), (t9, B), (t8, A), (t7, J), (t6, B), (t5, A), (t4, J), (t3, WL), (t2, A), (t1, WL), (vb, B), (va, A), ((.slice al n cl), X)] w20) := HL19.out.later hb; clear hb)
    | (go_at_call 27; (with_reducible refine (K17.out w20 va vb (HL20.out.get va A (by simp)) (HL20.out.get vb B (by simp))).mono ?_); rintro e w21 ⟨rfl, hb⟩; have HL21 : Hid (LiveE w [(t11, B), (t10, A), (t9, B), (t8, A), (t7, J), (t6, B), (t5, A), (t4, J), (t3, WL), (t2, A), (t1, WL), (vb, B), (va, A), ((.slice al n cl), X)] w21) := HL20.out.later hb; clear hb)
    | (go_at_call 28; (with_reducible refine (K18.out w21 va (HL21.out.get va A (by simp))).mono ?_); rintro e w22 ⟨rfl, hb⟩; have HL22 : Hid (LiveE w [(t11, B), (t10, A), (t9, B), (t8, A), (t7, J), (t6, B), (t5, A), (t4, J), (t3, WL), (t2, A), (t1, WL), (vb, B), (va, A), ((.slice al n cl), X)] w22) := HL21.out.later hb; clear hb)
    | (go_at_call 29; (with_reducible refine (K19.out w22 va (HL22.out.get va A (by simp))).mono ?_); rintro e w23 ⟨rfl, hb⟩; have HL23 : Hid (LiveE w [(t11, B), (t10, A), (t9, B), (t8, A), (t7, J), (t6, B), (t5, A), (t4, J), (t3, WL), (t2, A), (t1, WL), (vb, B), (va, A), ((.slice al n cl), X)] w23) := HL22.out.later hb; clear hb)
    | (go_at_call 30; (with_reducible refine (K20.out w23 (.slice al n cl) (HL23.out.get (.slice al n cl) X (by simp))).mono ?_); rintro e w24 ⟨rfl, hb⟩; have HL24 : Hid (LiveE w [(t11, B), (t10, A), (t9, B), (t8, A), (t7, J), (t6, B), (t5, A), (t4, J), (t3, WL), (t2, A), (t1, WL), (vb, B), (va, A), ((.slice al n cl), X)] w24) := HL23.out.later hb; clear hb)
    | (go_at_call 31; (with_reducible refine (K21.out w24 (.slice al n cl) (HL24.out.get (.slice al n cl) X (by simp))).mono ?_); rintro e w25 ⟨rfl, hb⟩; have HL25 : Hid (LiveE w [(t11, B), (t10, A), (t9, B), (t8, A), (t7, J), (t6, B), (t5, A), (t4, J), (t3, WL), (t2, A), (t1, WL), (vb, B), (va, A), ((.slice al n cl), X)] w25) := HL24.out.later hb; clear hb))
  go_ret
  exact ⟨by first | rfl | simp, HL25.out.bel⟩
end Go.Proofs.Ytfagmcgcdlboiaa
