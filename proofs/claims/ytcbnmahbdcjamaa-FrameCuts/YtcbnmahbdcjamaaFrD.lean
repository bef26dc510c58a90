/- The walks of frame's Right and Bytes. -/
import Derived.Test.YtcbnmahbdcjamaaFrC
namespace Go.Proofs.Ytcbnmahbdcjamaa
open Go.RowKit Go.Sort
set_option linter.unusedVariables false
set_option linter.unusedSimpArgs false

set_option maxRecDepth 100000 in
theorem wrong_any (o : Opn) (w : World) : Calls Try.prog 74 #[.agg #[.int .i64 o.c, .int .i64 o.a, .int .i64 o.s, .bool o.ins, .int .i64 o.rc, .int .i64 o.ra, .int .i32 o.ch]] w fun e w' => e = .returned (.bool (!opB o)) ∧ Below w.heap.size w w' := by
  have HC : Hid (∀ W : World, Calls Try.prog 56 #[.agg #[.int .i64 o.c, .int .i64 o.a, .int .i64 o.s, .bool o.ins, .int .i64 o.rc, .int .i64 o.ra, .int .i32 o.ch]] W fun e w' => e = .returned (.bool (opB o)) ∧ Gw W w') := fun W => right_any o W
  generalize opB o = z at HC ⊢
  have HB : Hid (∀ x : Obj, Below w.heap.size w (w.alloc x)) := fun x => (Below.refl _ w).alloc (Nat.le_refl _) x
  go_enter Try.func74, Try.ntmps74
  go_wp2_with (go_at_call 56; refine (HC.out _).mono ?_; rintro e w2 ⟨rfl, hg⟩; have HG2 : Hid (Gw _ w2) := hg; clear hg)
  go_ret
  exact ⟨rfl, (HB.out _).trans (HG2.out.below.mono (by simp))⟩
set_option maxRecDepth 100000 in
set_option maxHeartbeats 1000000 in
theorem indexF_any (l : List Opn) (a : Option Addr) (n cap : Nat) (w : World) (hr : RdP w a n l) (hn : n ≤ 1000000) :
    Calls Try.prog 124 #[.slice a n cap, .func (.func 74) #[] #[]] w fun e w' => ∃ i : Int, e = .returned (.int .i64 i) ∧ decide (0 ≤ i) = !(l.all opB) ∧ Below w.heap.size w w' := by
  have HL : Hid (l.length = n) := hr.1
  have HD : Hid (∀ W, Below w.heap.size w W → RdP W a n l) := fun W h => hr.later h
  have HA : Hid ((l.take 0).all opB = true) := rfl
  clear hr
  go_enter Try.func124, Try.ntmps124
  go_wp2
  go_loopw [8] (fun x8 wr => ∃ k : Nat, x8 = .int .i64 (k : Int) ∧ k ≤ n ∧ (l.take k).all opB = true ∧ Below w.heap.size w wr) (fun x8 _ => n - (RowKit.intOf x8).toNat)
  case atStart => exact ⟨0, rfl, by omega, HA.out, Below.refl _ _⟩
  case round =>
    obtain ⟨k, hx, hk, hal, hb⟩ := hrel
    subst hx
    have HAL : Hid ((l.take k).all opB = true) := hal
    have HB : Hid (Below w.heap.size w wr) := hb
    clear hal hb HA
    by_cases hlt : k < n
    · obtain ⟨b, off, hsa, c0, c1, c2, c3, c4, c5, c6⟩ := (HD.out wr HB.out).at k hlt
      subst hsa
      have hnx : l.take (k + 1) = l.take k ++ [l.getD k op0] := by
        have := HL.out
        rw [List.take_add_one, List.getElem?_eq_getElem (by omega)]
        simp [show k < l.length by omega]
      have hme : l.getD k op0 ∈ l := by
        have := HL.out
        simp [show k < l.length by omega]
      generalize l.getD k op0 = E at c0 c1 c2 c3 c4 c5 c6 hnx hme
      have HC : Hid (∀ W : World, Calls Try.prog 74 #[.agg #[.int .i64 E.c, .int .i64 E.a, .int .i64 E.s, .bool E.ins, .int .i64 E.rc, .int .i64 E.ra, .int .i32 E.ch]] W fun e w' => e = .returned (.bool (!opB E)) ∧ Below W.heap.size W w') := fun W => wrong_any E W
      have HNX : Hid (l.take (k + 1) = l.take k ++ [E]) := hnx
      have HME : Hid (E ∈ l) := hme
      clear hnx hme
      cases hz : opB E
      · rw [hz] at HC
        simp only [Bool.not_false] at HC
        have HZ : Hid (opB E = false) := hz
        clear hz
        go_wp2_with (go_at_call 74; refine (HC.out _).mono ?_; rintro e w2 ⟨rfl, hg⟩; have HG2 : Hid (Below wr.heap.size wr w2) := hg; clear hg)
        go_ret
        refine ⟨k, rfl, ?_, HB.out.trans (HG2.out.mono HB.out.size)⟩
        rw [decide_eq_true (by omega)]
        have : l.all opB = false := by
          rw [Bool.eq_false_iff]
          intro h
          rw [List.all_eq_true] at h
          have h2 := h E HME.out
          rw [HZ.out] at h2
          cases h2
        rw [this]
        rfl
      · rw [hz] at HC
        simp only [Bool.not_true] at HC
        have HZ : Hid (opB E = true) := hz
        clear hz
        go_wp2_with (go_at_call 74; refine (HC.out _).mono ?_; rintro e w2 ⟨rfl, hg⟩; have HG2 : Hid (Below wr.heap.size wr w2) := hg; clear hg)
        go_roundw
        case rel => exact ⟨k + 1, by go_num, by omega, by rw [HNX.out, List.all_append, HAL.out]; simp [HZ.out], HB.out.trans (HG2.out.mono HB.out.size)⟩
        case measure => simp [RowKit.intOf]; omega
    · obtain rfl : k = n := by omega
      go_wp2
      go_ret
      refine ⟨-1, rfl, ?_, HB.out⟩
      have := HAL.out
      rw [List.take_of_length_le (by rw [HL.out]; omega)] at this
      rw [this]
      rfl
set_option maxRecDepth 100000 in
theorem containsF_any (l : List Opn) (a : Option Addr) (n cap : Nat) (w : World) (hr : RdP w a n l) (hn : n ≤ 1000000) :
    Calls Try.prog 73 #[.slice a n cap, .func (.func 74) #[] #[]] w fun e w' => e = .returned (.bool (!(l.all opB))) ∧ Below w.heap.size w w' := by
  have HC : Hid (Calls Try.prog 124 #[.slice a n cap, .func (.func 74) #[] #[]] w fun e w' => ∃ i : Int, e = .returned (.int .i64 i) ∧ decide (0 ≤ i) = !(l.all opB) ∧ Below w.heap.size w w') := indexF_any l a n cap w hr hn
  generalize (!(l.all opB)) = z at HC ⊢
  clear hr
  go_enter Try.func73, Try.ntmps73
  go_wp2_with (go_at_call 124; refine HC.out.mono ?_; rintro e w2 ⟨i, rfl, hi, hb⟩; have HB : Hid (Below w.heap.size w w2) := hb; clear hb)
  go_ret
  exact ⟨rfl, HB.out⟩
/-- A frame's value. -/
abbrev frV (k g : Int) (va : Option Addr) (vn vc : Nat) (oa : Option Addr) (on oc : Nat) (x : Int) : Value := .agg #[.int .i64 k, .int .i64 g, .slice va vn vc, .slice oa on oc, .int .i64 x]
def rpN (k : Int) (vn on : Nat) (x : Int) : Bool :=
  if k = 1 then decide (vn = 0) && decide (on ≤ 64) && decide (x = 0)
  else if k = 2 then decide (on = 0) && decide (x = 0)
  else if k = 3 then decide (0 ≤ x) && decide (x ≤ 65536)
  else false
set_option maxRecDepth 100000 in
set_option maxHeartbeats 1000000 in
theorem rightParts_any (k g : Int) (va : Option Addr) (vn vc : Nat) (oa : Option Addr) (on oc : Nat) (x : Int) (w : World) :
    Calls Try.prog 71 #[frV k g va vn vc oa on oc x] w fun e w' => e = .returned (.bool (rpN k vn on x)) ∧ Below w.heap.size w w' := by
  have hR : rpN k vn on x = if k = 1 then decide (vn = 0) && decide (on ≤ 64) && decide (x = 0) else if k = 2 then decide (on = 0) && decide (x = 0) else if k = 3 then decide (0 ≤ x) && decide (x ≤ 65536) else false := rfl
  generalize rpN k vn on x = R at hR ⊢
  have HB : Hid (∀ x : Obj, Below w.heap.size w (w.alloc x)) := fun x => (Below.refl _ w).alloc (Nat.le_refl _) x
  have hd : ∀ n : Nat, ((n : Int) == 0) = decide (n = 0) := fun n => by
    rw [Bool.eq_iff_iff]; simp
  by_cases h1 : k = 1
  · subst h1
    rw [if_pos rfl] at hR
    by_cases a1 : vn = 0
    · have e1 := hd vn
      rw [decide_eq_true a1] at e1 hR
      subst a1
      by_cases a2 : on ≤ 64
      · have e2 : decide ((on : Int) ≤ 64) = true := decide_eq_true (by omega)
        rw [decide_eq_true a2] at hR
        by_cases a3 : x = 0
        all_goals
          simp only [a3, decide_true, decide_false, Bool.and_true, Bool.and_false] at hR
          subst hR
          go_enter Try.func71, Try.ntmps71
          go_wp2
          go_ret
          exact ⟨by simp [a3], HB.out _⟩
      · have e2 : decide ((on : Int) ≤ 64) = false := decide_eq_false (by omega)
        rw [decide_eq_false a2] at hR
        simp only [Bool.and_false, Bool.false_and] at hR
        subst hR
        go_enter Try.func71, Try.ntmps71
        go_wp2
        go_ret
        exact ⟨by simp, HB.out _⟩
    · have e1 := hd vn
      rw [decide_eq_false a1] at e1 hR
      simp only [Bool.false_and] at hR
      subst hR
      go_enter Try.func71, Try.ntmps71
      go_wp2
      go_ret
      exact ⟨by simp, HB.out _⟩
  · rw [if_neg h1] at hR
    by_cases h2 : k = 2
    · subst h2
      rw [if_pos rfl] at hR
      have e1 := hd on
      by_cases a1 : on = 0
      · rw [decide_eq_true a1] at e1 hR
        subst a1
        by_cases a3 : x = 0
        all_goals
          simp only [a3, decide_true, decide_false, Bool.and_true, Bool.and_false] at hR
          subst hR
          go_enter Try.func71, Try.ntmps71
          go_wp2
          go_ret
          exact ⟨by simp [a3], HB.out _⟩
      · rw [decide_eq_false a1] at e1 hR
        simp only [Bool.false_and] at hR
        subst hR
        go_enter Try.func71, Try.ntmps71
        go_wp2
        go_ret
        exact ⟨by simp, HB.out _⟩
    · rw [if_neg h2] at hR
      by_cases h3 : k = 3
      · subst h3
        rw [if_pos rfl] at hR
        by_cases a1 : 0 ≤ x
        · by_cases a2 : x ≤ 65536
          all_goals
            simp only [a1, a2, decide_true, decide_false, Bool.and_true, Bool.and_false] at hR
            subst hR
            go_enter Try.func71, Try.ntmps71
            go_wp2
            go_ret
            exact ⟨by simp [a2], HB.out _⟩
        · simp only [a1, decide_false, Bool.false_and] at hR
          subst hR
          go_enter Try.func71, Try.ntmps71
          go_wp2
          go_ret
          exact ⟨by simp, HB.out _⟩
      · rw [if_neg h3] at hR
        subst hR
        go_enter Try.func71, Try.ntmps71
        go_wp2
        go_ret
        exact ⟨by simp, HB.out _⟩
end Go.Proofs.Ytcbnmahbdcjamaa
