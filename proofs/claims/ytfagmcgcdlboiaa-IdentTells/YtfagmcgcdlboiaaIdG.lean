/- The walks of Gap and Vector. -/
import Derived.Test.YtfagmcgcdlboiaaIdF
namespace Go.Proofs.Ytfagmcgcdlboiaa
open Go.RowKit Go.Sort
set_option linter.unusedVariables false

theorem gap_app (A : List (Int × Int)) : (L M : List (Int × Int)) → gapL A (L ++ M) = gapL A L + gapL A M
  | [], M => by simp [gapL]
  | x :: r, M => by rw [List.cons_append, gapL, gapL, gap_app A r M]; omega
theorem gap_next (A L : List (Int × Int)) (i : Nat) (h : i < L.length) : gapL A (L.take (i + 1)) = gapL A (L.take i) + max 0 ((L.getD i (0, 0)).2 - sqL A (L.getD i (0, 0)).1) := by
  have e : L.take (i + 1) = L.take i ++ [L.getD i (0, 0)] := by rw [List.take_add_one]; simp [h]
  rw [e, gap_app, gapL, gapL]
  omega
theorem gap_le (A : List (Int × Int)) : (L : List (Int × Int)) → (∀ x ∈ L, 0 ≤ x.2 ∧ x.2 ≤ 8589934592) → (∀ c, 0 ≤ sqL A c) → gapL A L ≤ L.length * 8589934592
  | [], _, _ => by simp [gapL]
  | x :: r, h, hs => by
    have h1 := gap_le A r (fun y hy => h y (by simp [hy])) hs
    have h2 := h x (by simp)
    have h3 := hs x.1
    rw [gapL, List.length_cons]
    omega
set_option maxHeartbeats 1000000 in
theorem gap_any (A L : List (Int × Int)) (a b : Option Addr) (la ca lb cb : Nat) (w : World) (hA : AscE A) (ra : RdE w a la A) (rb : RdE w b lb L) (h1 : la ≤ 100000) (h2 : lb ≤ 1000) (hb : ∀ x ∈ L, 0 ≤ x.2 ∧ x.2 ≤ 8589934592) (hs : ∀ c, 0 ≤ sqL A c ∧ sqL A c ≤ 8589934592) :
    Calls Try.prog 26 #[.slice a la ca, .slice b lb cb] w fun e w' => e = .returned (.int .i64 (gapL A L)) ∧ Gw w w' := by
  have HL : Hid (L.length = lb) := rb.1
  have HD : Hid (RdE w b lb L) := rb
  have HS : Hid (∀ c, 0 ≤ sqL A c ∧ sqL A c ≤ 8589934592) := hs
  have HBD : Hid (∀ x ∈ L, 0 ≤ x.2 ∧ x.2 ≤ 8589934592) := hb
  have HC : Hid (∀ W p, Gw w W → Calls Try.prog 28 #[.slice a la ca, .int .i64 p] W fun e w' => e = .returned (.int .i64 (sqL A p)) ∧ ∃ q os', w' = grow (W.drewN q) os') := fun W p hW => seq_any A p a la ca W hA (ra.gw hW) (by omega)
  have mixed : Try.prog.follows .mixedOrders = true := by kernel_rfl
  clear hA ra rb hb hs
  go_enter Try.func26, Try.ntmps26
  go_wp2
  go_loopw [5, 10] (fun x5 x10 wr => ∃ i : Nat, x5 = .int .i64 (gapL A (L.take i)) ∧ x10 = .int .i64 i ∧ i ≤ lb ∧ Gw w wr) (fun _ x10 _ => lb - (intOf x10).toNat)
  case atStart => exact ⟨0, rfl, rfl, by omega, Gw.refl _⟩
  case round =>
    obtain ⟨i, hx5, hx10, hil, hgw⟩ := hrel
    subst hx10
    have HG : Hid (Gw w wr) := hgw
    clear hgw
    by_cases hlt : i < lb
    · have hiL : i < L.length := by rw [HL.out]; exact hlt
      obtain ⟨bb, off, hab, c0, c1⟩ := (HD.out.gw HG.out).at i hlt
      subst hab
      have hn := gap_next A L i hiL
      have g0 := gap_nonneg A (L.take i)
      have g1 := gap_le A (L.take i) (fun x hx => HBD.out x (List.mem_of_mem_take hx)) (fun c => (HS.out c).1)
      have g2 : (L.take i).length = i := by simp; omega
      rw [g2] at g1
      have hy2 := HBD.out (L.getD i (0, 0)) (by simp [hiL])
      have hsq := HS.out (L.getD i (0, 0)).1
      have HCC : Hid (∀ W, Gw w W → Calls Try.prog 28 #[.slice a la ca, .int .i64 (L.getD i (0, 0)).1] W fun e w' => e = .returned (.int .i64 (sqL A (L.getD i (0, 0)).1)) ∧ ∃ q os', w' = grow (W.drewN q) os') := fun W hW => HC.out W _ hW
      generalize sqL A (L.getD i (0, 0)).1 = S at hn hsq HCC
      generalize (L.getD i (0, 0)).1 = y1 at c0 HCC
      generalize (L.getD i (0, 0)).2 = y2 at c1 hn hy2
      generalize gapL A (L.take i) = G at hn g0 g1 hx5
      subst hx5
      obtain ⟨M, hM⟩ : ∃ M, M = max 0 (y2 - S) := ⟨_, rfl⟩
      have hmx := max_run 0 (y2 - S)
      rw [← hM] at hn hmx
      have hM0 : 0 ≤ M := by omega
      have hM1 : M ≤ 8589934592 := by omega
      have HN : Hid (gapL A (L.take (i + 1)) = G + M) := hn
      obtain ⟨hy20, hy21⟩ := hy2
      obtain ⟨hs0, hs1⟩ := hsq
      have hG1 : G ≤ 8589934592000 := by omega
      have HW1 : Hid (IntKind.i64.wrap (y2 - S) = y2 - S) := by show IntKind.i64.wrap (y2 - S) = y2 - S; rw [IntKind.wrap_i64]; omega
      have HW2 : Hid (IntKind.i64.wrap (G + M) = G + M) := by show IntKind.i64.wrap (G + M) = G + M; rw [IntKind.wrap_i64]; omega
      have HM : Hid (M = max 0 (y2 - S)) := hM
      clear hn hM g1 g2 hiL
      go_upto_region 5 with fail
      obtain ⟨N, hN⟩ : ∃ N, N = wr.heap.size := ⟨_, rfl⟩
      obtain ⟨W0, hW0⟩ : ∃ W0, W0 = wr.alloc (.cells #[.int .i64 y1, .int .i64 y2] 47) := ⟨_, rfl⟩
      rw [← hN, ← hW0]
      have HG0 : Hid (Gw w W0) := HG.out.trans (alloc_gw wr _ hW0)
      obtain ⟨z0, z1⟩ := box2 (show W0.heap[N]? = _ by rw [hN, hW0]; exact heap_alloc_new wr _)
      have HCD : Hid (∀ n os, Calls Try.prog 28 #[.slice a la ca, .int .i64 y1] (grow (W0.drewN n) os) fun e w' => e = .returned (.int .i64 S) ∧ ∃ q os', w' = grow ((grow (W0.drewN n) os).drewN q) os') := fun n os => HCC.out _ (HG0.out.trans ⟨n, os, rfl⟩)
      have d0 := cell_g z0; have d1 := cell_g z1
      clear hN hW0 z0 z1 c0 c1
      go_quiet_grown (first | (go_at_call 28; refine Calls.grown_of (HCD.out _ _)))
      go_wp2
      go_roundw
      case rel => exact ⟨i + 1, by first | rw [HN.out, HW1.out, ← HM.out, HW2.out] | rw [HN.out], by go_num, by omega, HG0.out.trans ⟨_, _, rfl⟩⟩
      case measure => simp [intOf]; omega
    · obtain rfl : i = lb := by omega
      have HT : Hid (gapL A (L.take i) = gapL A L) := by
        show gapL A (L.take i) = gapL A L
        rw [List.take_of_length_le (by rw [HL.out]; omega)]
      subst hx5
      go_wp2
      go_ret
      exact ⟨by rw [← HT.out]; rfl, HG.out⟩
/-- Vector, from a last author on. -/
def vcB : Int → List (Int × Int) → Bool
  | _, [] => true
  | last, x :: r => !decide (x.1 ≤ last) && auB x.1 && cnB x.2 && vcB x.1 r
theorem vc_true : (v : List (Int × Int)) → (last : Int) → AscE v → (∀ x ∈ v, last < x.1 ∧ auB x.1 = true ∧ cnB x.2 = true) → vcB last v = true
  | [], _, _, _ => rfl
  | x :: r, last, hA, h => by
    obtain ⟨h1, h2, h3⟩ := h x (by simp)
    rw [vcB, h2, h3, vc_true r x.1 hA.2 (fun y hy => ⟨hA.1 y hy, (h y (by simp [hy])).2⟩), decide_eq_false (by omega)]
    rfl
/-- The last author ahead of a place. -/
def lsA (L : List (Int × Int)) : Nat → Int
  | 0 => -1
  | i + 1 => (L.getD i (0, 0)).1
theorem vc_step (L : List (Int × Int)) (i : Nat) (h : i < L.length) : vcB (lsA L i) (L.drop i) = (!decide ((L.getD i (0, 0)).1 ≤ lsA L i) && auB (L.getD i (0, 0)).1 && cnB (L.getD i (0, 0)).2 && vcB (lsA L (i + 1)) (L.drop (i + 1))) := by
  have e : L.drop i = L.getD i (0, 0) :: L.drop (i + 1) := by
    rw [List.drop_eq_getElem_cons h]; simp [h]
  conv => lhs; rw [e]
  rw [vcB, lsA]
set_option maxHeartbeats 1000000 in
theorem vector_any (L : List (Int × Int)) (b : Option Addr) (lb cb : Nat) (w : World) (rb : RdE w b lb L) (h2 : lb ≤ 100000) :
    Calls Try.prog 30 #[.slice b lb cb] w fun e w' => e = .returned (.bool (vcB (-1) L)) ∧ Gw w w' := by
  have HL : Hid (L.length = lb) := rb.1
  have HD : Hid (RdE w b lb L) := rb
  clear rb
  go_enter Try.func30, Try.ntmps30
  go_wp2
  go_loopw [3, 8] (fun x3 x8 wr => ∃ i : Nat, x3 = .int .i64 (lsA L i) ∧ x8 = .int .i64 i ∧ i ≤ lb ∧ vcB (-1) L = vcB (lsA L i) (L.drop i) ∧ Gw w wr) (fun _ x8 _ => lb - (intOf x8).toNat)
  case atStart => exact ⟨0, rfl, rfl, by omega, rfl, Gw.refl _⟩
  case round =>
    obtain ⟨i, hx3, hx8, hil, heq, hgw⟩ := hrel
    subst hx8
    have HG : Hid (Gw w wr) := hgw
    have HGA : Hid (∀ o : Obj, Gw w (wr.alloc o)) := fun o => hgw.alloc o
    clear hgw
    by_cases hlt : i < lb
    · have hiL : i < L.length := by rw [HL.out]; exact hlt
      obtain ⟨bb, off, hab, c0, c1⟩ := (HD.out.gw HG.out).at i hlt
      subst hab
      have hst := vc_step L i hiL
      rw [hst] at heq
      have HLA : Hid ((L.getD i (0, 0)).1 = lsA L (i + 1)) := rfl
      generalize (L.getD i (0, 0)).1 = y1 at c0 heq HLA
      generalize (L.getD i (0, 0)).2 = y2 at c1 heq
      generalize lsA L i = la at heq hx3
      subst hx3
      have HA : Hid (∀ W : World, Calls Try.prog 33 #[.int .i64 y1] W fun e w' => e = .returned (.bool (auB y1)) ∧ w' = W) := fun W => isAuthor_any y1 W
      have HC : Hid (∀ W : World, Calls Try.prog 35 #[.int .i64 y2] W fun e w' => e = .returned (.bool (cnB y2)) ∧ w' = W) := fun W => counts_any y2 W
      generalize auB y1 = x1 at HA heq
      generalize cnB y2 = x2 at HC heq
      clear hst hiL
      by_cases hy : y1 ≤ la
      · rw [decide_eq_true hy] at heq
        simp only [Bool.not_true, Bool.false_and] at heq
        have HEQ : Hid (vcB (-1) L = false) := heq
        clear heq
        go_wp2
        go_ret
        exact ⟨by rw [HEQ.out]; rfl, HGA.out _⟩
      · rw [decide_eq_false hy] at heq
        cases x1
        · simp only [Bool.and_false, Bool.false_and] at heq
          have HEQ : Hid (vcB (-1) L = false) := heq
          clear heq
          go_wp2_with (first | (go_at_call 33; refine (HA.out _).mono ?_; rintro e w' ⟨rfl, hw'⟩; obtain rfl := hw'.symm; clear hw'))
          go_ret
          exact ⟨by rw [HEQ.out]; rfl, HGA.out _⟩
        · cases x2
          · simp only [Bool.and_false, Bool.false_and] at heq
            have HEQ : Hid (vcB (-1) L = false) := heq
            clear heq
            go_wp2_with (first | (go_at_call 33; refine (HA.out _).mono ?_; rintro e w' ⟨rfl, hw'⟩; obtain rfl := hw'.symm; clear hw') | (go_at_call 35; refine (HC.out _).mono ?_; rintro e w' ⟨rfl, hw'⟩; obtain rfl := hw'.symm; clear hw'))
            go_ret
            exact ⟨by rw [HEQ.out]; rfl, HGA.out _⟩
          · simp only [Bool.and_true, Bool.not_false, Bool.true_and] at heq
            have HEQ : Hid (vcB (-1) L = vcB (lsA L (i + 1)) (L.drop (i + 1))) := heq
            clear heq
            go_wp2_with (first | (go_at_call 33; refine (HA.out _).mono ?_; rintro e w' ⟨rfl, hw'⟩; obtain rfl := hw'.symm; clear hw') | (go_at_call 35; refine (HC.out _).mono ?_; rintro e w' ⟨rfl, hw'⟩; obtain rfl := hw'.symm; clear hw'))
            go_roundw
            case rel => exact ⟨i + 1, by rw [HLA.out], by go_num, by omega, HEQ.out, HGA.out _⟩
            case measure => simp [intOf]; omega
    · obtain rfl : i = lb := by omega
      have HT : Hid (vcB (-1) L = true) := by
        show vcB (-1) L = true
        rw [heq, List.drop_of_length_le (by rw [HL.out]; omega)]
        rfl
      subst hx3
      clear heq
      go_wp2
      go_ret
      exact ⟨by rw [HT.out]; rfl, HG.out⟩
end Go.Proofs.Ytfagmcgcdlboiaa
