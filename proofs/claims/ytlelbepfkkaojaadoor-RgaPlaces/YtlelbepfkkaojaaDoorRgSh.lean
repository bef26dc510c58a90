/- What every statement of the layer shows first. -/
import Derived.Test.YtlelbepfkkaojaaDoorRgZ
import Derived.Laws.Cover4
namespace Go.Proofs.YtlelbepfkkaojaaDoor
open Go.RowKit Go.Shelf Go.Maps Go.Sort
set_option linter.unusedVariables false
set_option linter.unusedSimpArgs false

theorem none14 : ∀ k : Nat, False → k < 0 ∧ True := fun _ h => h.elim
theorem bac_conv {w : World} {B : Nat} {v : Value} (h : w.ownsRow B 21 1 v 3 (flatC [98, 97, 99])) : ∃ a c, v = .slice a 3 c ∧ (convert 36 9 (.slice a 3 c)).run Tryd.prog w = .ok (.string ⟨#[98, 97, 99]⟩) w := by
  obtain ⟨a, c, rfl, _, _, hl, hr⟩ := rdC_own h
  obtain ⟨b, off, rfl, hc⟩ := hr (by omega)
  refine ⟨_, _, rfl, ?_⟩
  rw [run_convert_runes w 36 9 21 ⟨b, off, none⟩ 3 c [98, 97, 99] (by decide) Tryd.underlying36 Tryd.underlying21 Tryd.underlying9 (fun j hj => by rw [add_lit]; exact hc j hj)]
  have e : runesBytes (([98, 97, 99] : List Int).take 3) = ⟨#[98, 97, 99]⟩ := by kernel_rfl
  rw [e]
set_option maxHeartbeats 8000000 in
theorem shown14_any (w : World) : Calls Tryd.prog 4 #[] w fun e w' => e = .returned (.bool true) ∧ Below w.heap.size w w' := by
  obtain ⟨f1, g1, f2, g2, f3, g3, f4, g4, fv, fc, ft⟩ := shown14_facts
  have HN : Hid (Calls Tryd.prog 5 #[] w fun e w' => ∃ P, e = .returned (.pointer (some ⟨P, 0, none⟩)) ∧ RgS w w' P [] (fun _ => False)) := (s_new14 (Below.refl _ w) (fun _ => False) (fun _ h => h.elim)).mono fun e w' h => by obtain ⟨P, h1, h2, _⟩ := h; exact ⟨P, h1, h2⟩
  have HID : Hid (∀ c a (W : World), Calls Tryd.prog 13 #[.int .i64 c, .int .i64 a] W fun e w' => e = .returned (.agg #[.int .i64 c, .int .i64 a]) ∧ Gw W w') := fun c a W => id_any c a W
  have HLT : Hid (∀ w1 w2 P O, RgS w w1 P O (fun _ => False) → Gw w1 w2 → RgS w w2 P O (fun _ => False)) := fun w1 w2 P O h hg => h.later hg.below
  have HP1 : Hid (∀ P w1, RgS w w1 P [] (fun _ => False) → Calls Tryd.prog 6 #[.pointer (some ⟨P, 0, none⟩), .agg #[.int .i64 1, .int .i64 0, .int .i64 1, .bool true, .int .i64 0, .int .i64 0, .int .i32 97]] w1 fun e w' => e = .returned (.tuple #[.bool true, .int .i64 0]) ∧ RgS w w' P [o14a] (fun _ => False)) := fun P w1 h => (s_put h o14a (by simp)).mono fun e w' q => by
    rw [f1, g1] at q
    exact ⟨q.1, q.2.1⟩
  have HP2 : Hid (∀ P w1, RgS w w1 P [o14a] (fun _ => False) → Calls Tryd.prog 6 #[.pointer (some ⟨P, 0, none⟩), .agg #[.int .i64 1, .int .i64 1, .int .i64 1, .bool true, .int .i64 0, .int .i64 0, .int .i32 98]] w1 fun e w' => e = .returned (.tuple #[.bool true, .int .i64 0]) ∧ RgS w w' P [o14a, o14b] (fun _ => False)) := fun P w1 h => (s_put h o14b (by simp)).mono fun e w' q => by
    rw [f2, g2] at q
    exact ⟨q.1, q.2.1⟩
  have HP3 : Hid (∀ P w1, RgS w w1 P [o14a, o14b] (fun _ => False) → Calls Tryd.prog 6 #[.pointer (some ⟨P, 0, none⟩), .agg #[.int .i64 2, .int .i64 0, .int .i64 2, .bool true, .int .i64 1, .int .i64 0, .int .i32 99]] w1 fun e w' => e = .returned (.tuple #[.bool true, .int .i64 0]) ∧ RgS w w' P [o14a, o14b, o14c] (fun _ => False)) := fun P w1 h => (s_put h o14c (by simp)).mono fun e w' q => by
    rw [f3, g3] at q
    exact ⟨q.1, q.2.1⟩
  have HP4 : Hid (∀ P w1, RgS w w1 P [o14a, o14b, o14c] (fun _ => False) → Calls Tryd.prog 6 #[.pointer (some ⟨P, 0, none⟩), .agg #[.int .i64 2, .int .i64 1, .int .i64 3, .bool false, .int .i64 1, .int .i64 0, .int .i32 0]] w1 fun e w' => e = .returned (.tuple #[.bool false, .int .i64 6]) ∧ RgS w w' P [o14a, o14b, o14c] (fun _ => False)) := fun P w1 h => (s_put h o14d (by simp)).mono fun e w' q => by
    rw [f4, g4] at q
    exact ⟨q.1, q.2.1⟩
  have HV : Hid (∀ P w1, RgS w w1 P [o14a, o14b, o14c] (fun _ => False) → Calls Tryd.prog 9 #[.pointer (some ⟨P, 0, none⟩)] w1 fun e w' => ∃ a c, e = .returned (.slice a 3 c) ∧ (convert 36 9 (.slice a 3 c)).run Tryd.prog w' = .ok (.string ⟨#[98, 97, 99]⟩) w' ∧ RgS w w' P [o14a, o14b, o14c] (fun _ => False)) := fun P w1 h => (s_vis h (by simp)).mono fun e w' q => by
    obtain ⟨v, rfl, q1, q2⟩ := q
    rw [fv] at q1
    obtain ⟨a, c, rfl, q3⟩ := bac_conv q1
    exact ⟨a, c, rfl, q3, h.later q2⟩
  have HL : Hid (∀ P w1, RgS w w1 P [o14a, o14b, o14c] (fun _ => False) → Calls Tryd.prog 8 #[.pointer (some ⟨P, 0, none⟩)] w1 fun e w' => e = .returned (.int .i64 3) ∧ w' = w1) := fun P w1 h => by
    have := s_len14 h
    rw [fc] at this
    exact this
  have HT : Hid (∀ P w1, RgS w w1 P [o14a, o14b, o14c] (fun _ => False) → Calls Tryd.prog 14 #[.pointer (some ⟨P, 0, none⟩)] w1 fun e w' => e = .returned (.int .i64 2) ∧ w' = w1) := fun P w1 h => by
    have := s_top h
    rw [ft] at this
    exact this
  clear f1 g1 f2 g2 f3 g3 f4 g4 fv fc ft
  go_enter Tryd.func4, Tryd.ntmps4
  go_upto_region 4 with (first | (go_at_call 5; refine HN.out.mono ?_; rintro e w1 ⟨P, rfl, hs⟩; have HS0 : Hid (RgS w w1 P [] (fun _ => False)) := hs; clear hs))
  go_upto_region 5 with (first
    | (go_at_call 6; refine (HP1.out P _ HS0.out).mono ?_; rintro e w1 ⟨rfl, hs⟩; replace HS0 : Hid (RgS w w1 P [o14a] (fun _ => False)) := hs; clear hs)
    | (go_at_call 13; refine (HID.out _ _ _).mono ?_; rintro e wi ⟨rfl, hg⟩; replace HS0 : Hid (RgS w wi P [] (fun _ => False)) := HLT.out _ _ _ _ HS0.out hg; clear hg))
  go_upto_region 6 with (first
    | (go_at_call 6; refine (HP2.out P _ HS0.out).mono ?_; rintro e w1 ⟨rfl, hs⟩; replace HS0 : Hid (RgS w w1 P [o14a, o14b] (fun _ => False)) := hs; clear hs)
    | (go_at_call 13; refine (HID.out _ _ _).mono ?_; rintro e wi ⟨rfl, hg⟩; replace HS0 : Hid (RgS w wi P [o14a] (fun _ => False)) := HLT.out _ _ _ _ HS0.out hg; clear hg))
  go_upto_region 7 with (first
    | (go_at_call 6; refine (HP3.out P _ HS0.out).mono ?_; rintro e w1 ⟨rfl, hs⟩; replace HS0 : Hid (RgS w w1 P [o14a, o14b, o14c] (fun _ => False)) := hs; clear hs)
    | (go_at_call 13; refine (HID.out _ _ _).mono ?_; rintro e wi ⟨rfl, hg⟩; replace HS0 : Hid (RgS w wi P [o14a, o14b] (fun _ => False)) := HLT.out _ _ _ _ HS0.out hg; clear hg))
  go_upto_region 8 with (first
    | (go_at_call 6; refine (HP4.out P _ HS0.out).mono ?_; rintro e w1 ⟨rfl, hs⟩; replace HS0 : Hid (RgS w w1 P [o14a, o14b, o14c] (fun _ => False)) := hs; clear hs)
    | (go_at_call 13; refine (HID.out _ _ _).mono ?_; rintro e wi ⟨rfl, hg⟩; replace HS0 : Hid (RgS w wi P [o14a, o14b, o14c] (fun _ => False)) := HLT.out _ _ _ _ HS0.out hg; clear hg))
  go_upto_region 9 with (first | (go_at_call 9; refine (HV.out P _ HS0.out).mono ?_; rintro e w2 ⟨a, c, rfl, hcv, hs⟩; have HS9 : Hid (RgS w w2 P [o14a, o14b, o14c] (fun _ => False)) := hs; clear hs HS0))
  have HBL : Hid (Below w.heap.size w w2) := HS9.out.below
  go_wp2_with (first
    | (go_at_call 8; refine (HL.out P _ HS9.out).mono ?_; rintro e w' ⟨rfl, hw⟩; have hw := hw.symm; subst hw)
    | (go_at_call 14; refine (HT.out P _ HS9.out).mono ?_; rintro e w' ⟨rfl, hw⟩; have hw := hw.symm; subst hw))
  go_ret
  exact ⟨rfl, HBL.out⟩
end Go.Proofs.YtlelbepfkkaojaaDoor
