/- The walks of Gap and Vector. -/
import Derived.Test.YtcbnmahbdcjamaaIdF
namespace Go.Proofs.Ytcbnmahbdcjamaa
open Go.RowKit Go.Sort
set_option linter.unusedVariables false

theorem gap_app (A : List (Int × Int)) : (L M : List (Int × Int)) → gapL A (L ++ M) = gapL A L + gapL A M
  | [], M => by simp [gapL]
  | x :: r, M => by rw [List.cons_append, gapL, gapL, gap_app A r M]; omega
theorem gap_next (A L : List (Int × Int)) (i : Nat) (h : i < L.length) : gapL A (L.take (i + 1)) = gapL A (L.take i) + max 0 ((L.getD i (0, 0)).2 - sqL A (L.getD i (0, 0)).1) := by
  have e : L.take (i + 1) = L.take i ++ [L.getD i (0, 0)] := by rw [List.take_add_one]; simp [h]
  rw [e, gap_app, gapL, gapL]
  omega
theorem gap_le (A : List (Int × Int)) : (L : List (Int × Int)) → (∀ x ∈ L, 0 ≤ x.2 ∧ x.2 ≤ 8589934592) → (∀ c, 0 ≤ sqL A c) → gapL A L ≤ L.length * 8589934592
  | [], _, _ => by simp [gapL]
  | x :: r, h, hs => by
    have h1 := gap_le A r (fun y hy => h y (by simp [hy])) hs
    have h2 := h x (by simp)
    have h3 := hs x.1
    rw [gapL, List.length_cons]
    omega
/-- Vector, from a last author on. -/
def vcB : Int → List (Int × Int) → Bool
  | _, [] => true
  | last, x :: r => !decide (x.1 ≤ last) && auB x.1 && cnB x.2 && vcB x.1 r
theorem vc_true : (v : List (Int × Int)) → (last : Int) → AscE v → (∀ x ∈ v, last < x.1 ∧ auB x.1 = true ∧ cnB x.2 = true) → vcB last v = true
  | [], _, _, _ => rfl
  | x :: r, last, hA, h => by
    obtain ⟨h1, h2, h3⟩ := h x (by simp)
    rw [vcB, h2, h3, vc_true r x.1 hA.2 (fun y hy => ⟨hA.1 y hy, (h y (by simp [hy])).2⟩), decide_eq_false (by omega)]
    rfl
/-- The last author ahead of a place. -/
def lsA (L : List (Int × Int)) : Nat → Int
  | 0 => -1
  | i + 1 => (L.getD i (0, 0)).1
theorem vc_step (L : List (Int × Int)) (i : Nat) (h : i < L.length) : vcB (lsA L i) (L.drop i) = (!decide ((L.getD i (0, 0)).1 ≤ lsA L i) && auB (L.getD i (0, 0)).1 && cnB (L.getD i (0, 0)).2 && vcB (lsA L (i + 1)) (L.drop (i + 1))) := by
  have e : L.drop i = L.getD i (0, 0) :: L.drop (i + 1) := by
    rw [List.drop_eq_getElem_cons h]; simp [h]
  conv => lhs; rw [e]
  rw [vcB, lsA]
set_option maxHeartbeats 1000000 in
theorem vector_any (L : List (Int × Int)) (b : Option Addr) (lb cb : Nat) (w : World) (rb : RdE w b lb L) (h2 : lb ≤ 100000) :
    Calls Try.prog 72 #[.slice b lb cb] w fun e w' => e = .returned (.bool (vcB (-1) L)) ∧ Gw w w' := by
  have HL : Hid (L.length = lb) := rb.1
  have HD : Hid (RdE w b lb L) := rb
  clear rb
  go_enter Try.func72, Try.ntmps72
  go_wp2
  go_loopw [3, 8] (fun x3 x8 wr => ∃ i : Nat, x3 = .int .i64 (lsA L i) ∧ x8 = .int .i64 i ∧ i ≤ lb ∧ vcB (-1) L = vcB (lsA L i) (L.drop i) ∧ Gw w wr) (fun _ x8 _ => lb - (intOf x8).toNat)
  case atStart => exact ⟨0, rfl, rfl, by omega, rfl, Gw.refl _⟩
  case round =>
    obtain ⟨i, hx3, hx8, hil, heq, hgw⟩ := hrel
    subst hx8
    have HG : Hid (Gw w wr) := hgw
    have HGA : Hid (∀ o : Obj, Gw w (wr.alloc o)) := fun o => hgw.alloc o
    clear hgw
    by_cases hlt : i < lb
    · have hiL : i < L.length := by rw [HL.out]; exact hlt
      obtain ⟨bb, off, hab, c0, c1⟩ := (HD.out.gw HG.out).at i hlt
      subst hab
      have hst := vc_step L i hiL
      rw [hst] at heq
      have HLA : Hid ((L.getD i (0, 0)).1 = lsA L (i + 1)) := rfl
      generalize (L.getD i (0, 0)).1 = y1 at c0 heq HLA
      generalize (L.getD i (0, 0)).2 = y2 at c1 heq
      generalize lsA L i = la at heq hx3
      subst hx3
      have HA : Hid (∀ W : World, Calls Try.prog 123 #[.int .i64 y1] W fun e w' => e = .returned (.bool (auB y1)) ∧ w' = W) := fun W => isAuthor_any y1 W
      have HC : Hid (∀ W : World, Calls Try.prog 99 #[.int .i64 y2] W fun e w' => e = .returned (.bool (cnB y2)) ∧ w' = W) := fun W => counts_any y2 W
      generalize auB y1 = x1 at HA heq
      generalize cnB y2 = x2 at HC heq
      clear hst hiL
      by_cases hy : y1 ≤ la
      · rw [decide_eq_true hy] at heq
        simp only [Bool.not_true, Bool.false_and] at heq
        have HEQ : Hid (vcB (-1) L = false) := heq
        clear heq
        go_wp2
        go_ret
        exact ⟨by rw [HEQ.out]; rfl, HGA.out _⟩
      · rw [decide_eq_false hy] at heq
        cases x1
        · simp only [Bool.and_false, Bool.false_and] at heq
          have HEQ : Hid (vcB (-1) L = false) := heq
          clear heq
          go_wp2_with (first | (go_at_call 123; refine (HA.out _).mono ?_; rintro e w' ⟨rfl, hw'⟩; obtain rfl := hw'.symm; clear hw'))
          go_ret
          exact ⟨by rw [HEQ.out]; rfl, HGA.out _⟩
        · cases x2
          · simp only [Bool.and_false, Bool.false_and] at heq
            have HEQ : Hid (vcB (-1) L = false) := heq
            clear heq
            go_wp2_with (first | (go_at_call 123; refine (HA.out _).mono ?_; rintro e w' ⟨rfl, hw'⟩; obtain rfl := hw'.symm; clear hw') | (go_at_call 99; refine (HC.out _).mono ?_; rintro e w' ⟨rfl, hw'⟩; obtain rfl := hw'.symm; clear hw'))
            go_ret
            exact ⟨by rw [HEQ.out]; rfl, HGA.out _⟩
          · simp only [Bool.and_true, Bool.not_false, Bool.true_and] at heq
            have HEQ : Hid (vcB (-1) L = vcB (lsA L (i + 1)) (L.drop (i + 1))) := heq
            clear heq
            go_wp2_with (first | (go_at_call 123; refine (HA.out _).mono ?_; rintro e w' ⟨rfl, hw'⟩; obtain rfl := hw'.symm; clear hw') | (go_at_call 99; refine (HC.out _).mono ?_; rintro e w' ⟨rfl, hw'⟩; obtain rfl := hw'.symm; clear hw'))
            go_roundw
            case rel => exact ⟨i + 1, by rw [HLA.out], by go_num, by omega, HEQ.out, HGA.out _⟩
            case measure => simp [intOf]; omega
    · obtain rfl : i = lb := by omega
      have HT : Hid (vcB (-1) L = true) := by
        show vcB (-1) L = true
        rw [heq, List.drop_of_length_le (by rw [HL.out]; omega)]
        rfl
      subst hx3
      clear heq
      go_wp2
      go_ret
      exact ⟨by rw [HT.out]; rfl, HG.out⟩
end Go.Proofs.Ytcbnmahbdcjamaa
