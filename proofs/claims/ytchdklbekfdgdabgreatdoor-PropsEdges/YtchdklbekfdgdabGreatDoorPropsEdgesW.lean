/- The walk of the statement PropsEdges: a range has its ends, and nothing beside them. -/
import Derived.Test.YtchdklbekfdgdabGreatDoorPropsY
namespace Go.Proofs.YtchdklbekfdgdabGreatDoor
open Go.RowKit
set_option linter.unusedVariables false

theorem and_low32 (n m : Int) (j : Nat) (hj : j ≤ 20) (hm : (BitVec.ofInt 32 m).toNat = 2 ^ j - 1) : bits .and .i32 n m = n % 2 ^ j := by
  have key : (BitVec.ofInt 32 n &&& BitVec.ofInt 32 m).toNat = (n % ((2 ^ 32 : Nat) : Int)).toNat % 2 ^ j := by
    rw [BitVec.toNat_and, BitVec.toNat_ofInt, hm, Nat.and_two_pow_sub_one_eq_mod]
  show IntKind.i32.wrap ((BitVec.ofInt 32 n &&& BitVec.ofInt 32 m).toNat : Nat) = n % 2 ^ j
  rw [key, IntKind.wrap_i32]
  have hd : ((2 ^ j : Nat) : Int) ∣ ((2 ^ 32 : Nat) : Int) := by
    have : (2 ^ j : Nat) ∣ (2 ^ 32 : Nat) := Nat.pow_dvd_pow 2 (by omega)
    exact_mod_cast this
  have h0 : 0 ≤ n % ((2 ^ 32 : Nat) : Int) := Int.emod_nonneg _ (by decide)
  have h1 : (((n % ((2 ^ 32 : Nat) : Int)).toNat % 2 ^ j : Nat) : Int) = n % 2 ^ j := by
    rw [Int.natCast_emod, Int.toNat_of_nonneg h0, Int.emod_emod_of_dvd n hd]; simp
  have h2 : ((n % ((2 ^ 32 : Nat) : Int)).toNat % 2 ^ j : Nat) < 2 ^ j := Nat.mod_lt _ (Nat.two_pow_pos j)
  have h3 : (2 : Nat) ^ j ≤ 2 ^ 20 := Nat.pow_le_pow_right (by decide) hj
  rw [h1]
  rw [← h1]
  generalize ((n % ((2 ^ 32 : Nat) : Int)).toNat % 2 ^ j : Nat) = q at *
  omega
def edN : List (List Int) := [[79, 117, 116], [73, 110]]
theorem ed_cls : clsOk edN = true := by decide
theorem ed_nms : Nms edN := by
  intro s hs
  simp [edN] at hs
  rcases hs with rfl | rfl <;> exact ⟨by decide, by decide⟩
/-- What the table of one range tells. -/
theorem ed_tells (ss : List Sp) (p q : Int) (h : Tells ss [(p, q, [73, 110])] edN) (c : Int) : clsP ss c = if p ≤ c ∧ c ≤ q then 1 else 0 := by
  by_cases hc : p ≤ c ∧ c ≤ q
  · rw [if_pos hc]
    exact (h.2.2 c).1 (p, q, [73, 110]) (List.mem_singleton.2 rfl) hc.1 hc.2
  · rw [if_neg hc]
    exact (h.2.2 c).2 fun r hr => by rw [List.mem_singleton.1 hr]; exact hc

set_option maxHeartbeats 4000000 in
theorem propsEdges_walk (f0 m0 c : Int) (w : World) (hg : Gl w) :
    Calls Tryz.prog 4 #[.int .i32 f0, .int .i32 m0, .int .i32 c] w fun e w' => e = .returned (.bool true) ∧ Below w.heap.size w w' := by
  obtain ⟨p, hp⟩ : ∃ p, p = f0 % 1048576 := ⟨_, rfl⟩
  obtain ⟨d, hd⟩ : ∃ d, d = m0 % 65536 := ⟨_, rfl⟩
  obtain ⟨q, hq⟩ : ∃ q, q = p + d := ⟨_, rfl⟩
  have hand1 : bits .and .i32 f0 1048575 = p := by rw [and_low32 f0 1048575 20 (by omega) (by decide)]; exact hp.symm
  have hand2 : bits .and .i32 m0 65535 = d := by rw [and_low32 m0 65535 16 (by omega) (by decide)]; exact hd.symm
  have hp0 : 0 ≤ p := by omega
  have hp1 : p ≤ 1048575 := by omega
  have hpq : p ≤ q := by omega
  have hq1 : q ≤ 1114110 := by omega
  have hadd : IntKind.i32.wrap (p + d) = q := by rw [IntKind.wrap_i32]; omega
  have hsub : IntKind.i32.wrap (p - 1) = p - 1 := by rw [IntKind.wrap_i32]; omega
  have hup : IntKind.i32.wrap (q + 1) = q + 1 := by rw [IntKind.wrap_i32]; omega
  have HRE : Hid (reR (p, q, [73, 110]) = true) := by
    show (decide (0 ≤ p) && decide (p ≤ q) && decide (q ≤ 1114111)) = true
    rw [decide_eq_true hp0, decide_eq_true hpq, decide_eq_true (show q ≤ 1114111 by omega)]; rfl
  have HG : Hid (Gl w) := hg
  have HPQ : Hid (0 ≤ p ∧ p ≤ 1048575 ∧ p ≤ q ∧ q ≤ 1114110) := ⟨hp0, hp1, hpq, hq1⟩
  clear hp hd hq hg hp0 hp1 hpq hq1
  go_enter Tryz.func4, Tryz.ntmps4
  go_wp2_with fail
  refine (shown_any w HG.out).mono ?_
  rintro e w1 ⟨rfl, hb1⟩
  have HB1 : Hid (Below w.heap.size w w1) := hb1
  clear hb1
  obtain ⟨o1, ho1⟩ : ∃ o : Obj, o = .cells #[.int .i32 p, .int .i32 q, .string ⟨#[73, 110]⟩] 42 := ⟨_, rfl⟩
  obtain ⟨o2, ho2⟩ : ∃ o : Obj, o = .cells #[.string ⟨#[79, 117, 116]⟩, .string ⟨#[73, 110]⟩] 9 := ⟨_, rfl⟩
  have HNEW : Hid (Calls Tryz.prog 12 #[.slice (some ⟨w1.heap.size, 0, none⟩) 1 1, .slice (some ⟨w1.heap.size + 1, 0, none⟩) 2 2] ((w1.alloc o1).alloc o2) (NewOk [(p, q, [73, 110])] edN ((w1.alloc o1).alloc o2))) := by
    refine new_ok [(p, q, [73, 110])] edN (some ⟨w1.heap.size, 0, none⟩) (some ⟨w1.heap.size + 1, 0, none⟩) 1 1 2 2 _ ?_ (by simp) ?_ ed_nms ⟨rfl, fun _ => ⟨w1.heap.size + 1, 0, rfl, fun i hi => ?_⟩⟩ (by decide) (by decide) (by decide) ed_cls ?_ (List.pairwise_singleton _ _) ?_
    · refine RdR.later (w := w1.alloc o1) ⟨rfl, fun _ => ⟨w1.heap.size, 0, rfl, fun j v hv => ?_⟩⟩ ((Below.refl _ _).alloc (Nat.le_refl _) _)
      subst ho1
      rw [cell_of_row _ w1.heap.size (0 + j) _ _ _ (heap_alloc_new w1 _), Nat.zero_add]
      rcases j with _ | _ | _ | j
      · simpa [flatR, encR] using hv
      · simpa [flatR, encR] using hv
      · simp [flatR, encR] at hv; subst hv; rfl
      · simp [flatR, encR] at hv
    · intro r hr
      rw [List.mem_singleton.1 hr]
      show ∀ y ∈ ([73, 110] : List Int), 0 ≤ y ∧ y ≤ 255
      decide
    · subst ho2
      have hnew := heap_alloc_new (w1.alloc o1) (.cells #[.string ⟨#[79, 117, 116]⟩, .string ⟨#[73, 110]⟩] 9)
      rw [show (w1.alloc o1).heap.size = w1.heap.size + 1 by simp] at hnew
      rw [cell_of_row _ (w1.heap.size + 1) (0 + i) _ _ _ hnew]
      rcases (by omega : i = 0 ∨ i = 1) with rfl | rfl <;> rfl
    · intro r hr
      rw [List.mem_singleton.1 hr]
      exact HRE.out
    · intro r hr
      rw [List.mem_singleton.1 hr]
      show ([73, 110] : List Int) ∈ edN
      decide
  have HB1a : Hid (∀ w2, Below ((w1.alloc o1).alloc o2).heap.size ((w1.alloc o1).alloc o2) w2 → Below w.heap.size w w2) := fun w2 h =>
    ((HB1.out.alloc HB1.out.size o1).alloc (by simp; have := HB1.out.size; omega) o2).trans (h.mono (by simp; have := HB1.out.size; omega))
  subst ho1 ho2
  go_wp2_with fail
  refine HNEW.out.mono ?_
  rintro e w2 ⟨hb2, t, ss, rfl, ht, htl⟩
  have HB2 : Hid (Below w.heap.size w w2) := HB1a.out w2 hb2
  have HT : Hid (TblAt w2 t ss) := ht
  have HCL : Hid (∀ (W : World) (x y : Int), Below w2.heap.size w2 W → clsP ss x = y → Calls Tryz.prog 13 #[.pointer (some ⟨t, 0, none⟩), .int .i32 x] W fun e w' => e = .returned (.int .i64 y) ∧ Below w2.heap.size w2 w') := by
    intro W x y hW hxy
    refine (class_any t ss x W htl.1 (ht.later hW) (by rw [htl.2.1]; simp)).mono ?_
    rintro e w' ⟨rfl, hb⟩
    exact ⟨by rw [hxy], hW.trans (hb.mono hW.size)⟩
  have HPQ' := HPQ.out
  have HC1 : Hid (clsP ss p = 1) := by show _ = _; rw [ed_tells ss p q htl, if_pos (by omega)]
  have HC2 : Hid (clsP ss q = 1) := by show _ = _; rw [ed_tells ss p q htl, if_pos (by omega)]
  have HC3 : Hid (clsP ss (p - 1) = 0) := by show _ = _; rw [ed_tells ss p q htl, if_neg (by omega)]
  have HC4 : Hid (clsP ss (q + 1) = 0) := by show _ = _; rw [ed_tells ss p q htl, if_neg (by omega)]
  have HC5 : Hid (clsP ss c = if p ≤ c ∧ c ≤ q then 1 else 0) := ed_tells ss p q htl c
  have HEND : Hid (∀ w', Below w2.heap.size w2 w' → Below w.heap.size w w') := fun w' h => HB2.out.trans (h.mono HB2.out.size)
  clear hb2 ht htl HPQ' HNEW HB1a
  obtain ⟨y, hy⟩ : ∃ y : Int, y = if p ≤ c ∧ c ≤ q then 1 else 0 := ⟨_, rfl⟩
  have HC6 : Hid (clsP ss c = y) := by show _ = _; rw [hy]; exact HC5.out
  by_cases h1 : p ≤ c
  · by_cases h2 : c ≤ q
    · rw [if_pos ⟨h1, h2⟩] at hy
      subst hy
      go_wp2_with fail
      refine (HCL.out w2 p 1 (Below.refl _ _) HC1.out).mono ?_
      rintro e w3 ⟨rfl, hb3⟩
      have HB3 : Hid (Below w2.heap.size w2 w3) := hb3
      clear hb3
      go_wp2_with fail
      refine (HCL.out w3 q 1 HB3.out HC2.out).mono ?_
      rintro e w4 ⟨rfl, hb4⟩
      have HB4 : Hid (Below w2.heap.size w2 w4) := hb4
      clear hb4
      go_wp2_with fail
      refine (HCL.out w4 (p - 1) 0 HB4.out HC3.out).mono ?_
      rintro e w5 ⟨rfl, hb5⟩
      have HB5 : Hid (Below w2.heap.size w2 w5) := hb5
      clear hb5
      go_wp2_with fail
      refine (HCL.out w5 (q + 1) 0 HB5.out HC4.out).mono ?_
      rintro e w6 ⟨rfl, hb6⟩
      have HB6 : Hid (Below w2.heap.size w2 w6) := hb6
      clear hb6
      go_wp2_with fail
      refine (HCL.out w6 c _ HB6.out HC6.out).mono ?_
      rintro e w7 ⟨rfl, hb7⟩
      have HB7 : Hid (Below w2.heap.size w2 w7) := hb7
      clear hb7
      go_wp2
      go_ret
      exact ⟨rfl, HEND.out _ HB7.out⟩
    · rw [if_neg (by omega)] at hy
      subst hy
      go_wp2_with fail
      refine (HCL.out w2 p 1 (Below.refl _ _) HC1.out).mono ?_
      rintro e w3 ⟨rfl, hb3⟩
      have HB3 : Hid (Below w2.heap.size w2 w3) := hb3
      clear hb3
      go_wp2_with fail
      refine (HCL.out w3 q 1 HB3.out HC2.out).mono ?_
      rintro e w4 ⟨rfl, hb4⟩
      have HB4 : Hid (Below w2.heap.size w2 w4) := hb4
      clear hb4
      go_wp2_with fail
      refine (HCL.out w4 (p - 1) 0 HB4.out HC3.out).mono ?_
      rintro e w5 ⟨rfl, hb5⟩
      have HB5 : Hid (Below w2.heap.size w2 w5) := hb5
      clear hb5
      go_wp2_with fail
      refine (HCL.out w5 (q + 1) 0 HB5.out HC4.out).mono ?_
      rintro e w6 ⟨rfl, hb6⟩
      have HB6 : Hid (Below w2.heap.size w2 w6) := hb6
      clear hb6
      go_wp2_with fail
      refine (HCL.out w6 c _ HB6.out HC6.out).mono ?_
      rintro e w7 ⟨rfl, hb7⟩
      have HB7 : Hid (Below w2.heap.size w2 w7) := hb7
      clear hb7
      go_wp2
      go_ret
      exact ⟨rfl, HEND.out _ HB7.out⟩
  · rw [if_neg (by omega)] at hy
    subst hy
    go_wp2_with fail
    refine (HCL.out w2 p 1 (Below.refl _ _) HC1.out).mono ?_
    rintro e w3 ⟨rfl, hb3⟩
    have HB3 : Hid (Below w2.heap.size w2 w3) := hb3
    clear hb3
    go_wp2_with fail
    refine (HCL.out w3 q 1 HB3.out HC2.out).mono ?_
    rintro e w4 ⟨rfl, hb4⟩
    have HB4 : Hid (Below w2.heap.size w2 w4) := hb4
    clear hb4
    go_wp2_with fail
    refine (HCL.out w4 (p - 1) 0 HB4.out HC3.out).mono ?_
    rintro e w5 ⟨rfl, hb5⟩
    have HB5 : Hid (Below w2.heap.size w2 w5) := hb5
    clear hb5
    go_wp2_with fail
    refine (HCL.out w5 (q + 1) 0 HB5.out HC4.out).mono ?_
    rintro e w6 ⟨rfl, hb6⟩
    have HB6 : Hid (Below w2.heap.size w2 w6) := hb6
    clear hb6
    go_wp2_with fail
    refine (HCL.out w6 c _ HB6.out HC6.out).mono ?_
    rintro e w7 ⟨rfl, hb7⟩
    have HB7 : Hid (Below w2.heap.size w2 w7) := hb7
    clear hb7
    go_wp2
    go_ret
    exact ⟨rfl, HEND.out _ HB7.out⟩
end Go.Proofs.YtchdklbekfdgdabGreatDoor
