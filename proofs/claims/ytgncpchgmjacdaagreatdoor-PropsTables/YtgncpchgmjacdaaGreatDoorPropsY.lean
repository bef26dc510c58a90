/- The walk of shown: the closed case that every statement of this layer runs first. -/
import Derived.Test.YtgncpchgmjacdaaGreatDoorPropsX
import Derived.Test.YtgncpchgmjacdaaGreatDoorPropsKB
namespace Go.Proofs.YtgncpchgmjacdaaGreatDoor
open Go.RowKit
set_option linter.unusedVariables false

def shT1 : List Int := [48, 48, 48, 68, 32, 59, 32, 67, 82, 32, 35, 32, 114, 101, 116, 117, 114, 110, 10, 10, 48, 48, 52, 49, 46, 46, 48, 48, 53, 65, 59, 65, 76, 101, 116, 116, 101, 114]
def shT2 : List Int := [48, 48, 52, 49, 32, 59, 32, 65, 10, 119, 104, 97, 116]
def shR : List Rg := [(13, 13, [67, 82]), (65, 90, [65, 76, 101, 116, 116, 101, 114])]
def shN : List (List Int) := [[79, 116, 104, 101, 114], [65, 76, 101, 116, 116, 101, 114], [67, 82]]
theorem sh_p1 : parseT shT1 = .inl shR := by kernel_rfl
theorem sh_p2 : parseT shT2 = .inr (2, 2) := by kernel_rfl
theorem sh_s1 : strOfNums shT1 = ⟨#[48, 48, 48, 68, 32, 59, 32, 67, 82, 32, 35, 32, 114, 101, 116, 117, 114, 110, 10, 10, 48, 48, 52, 49, 46, 46, 48, 48, 53, 65, 59, 65, 76, 101, 116, 116, 101, 114]⟩ := by decide
theorem sh_s2 : strOfNums shT2 = ⟨#[48, 48, 52, 49, 32, 59, 32, 65, 10, 119, 104, 97, 116]⟩ := by decide
theorem sh_cls : clsOk shN = true := by decide
theorem sh_nms : Nms shN := by
  intro s hs
  simp only [shN, List.mem_cons, List.not_mem_nil, or_false] at hs
  rcases hs with rfl | rfl | rfl <;> exact ⟨by decide, by decide⟩
theorem sh_rgs : RgS shR := by
  intro r hr
  simp only [shR, List.mem_cons, List.not_mem_nil, or_false] at hr
  rcases hr with rfl | rfl <;> decide
theorem sh_ends : ∀ r ∈ shR, reR r = true := by decide
theorem sh_apart : shR.Pairwise ApR := by
  refine List.Pairwise.cons ?_ (List.Pairwise.cons (by simp) List.Pairwise.nil)
  intro y hy
  simp only [List.mem_singleton] at hy
  subst hy
  unfold ApR; decide
theorem sh_in : ∀ r ∈ shR, r.2.2 ∈ shN := by decide

set_option maxHeartbeats 4000000 in
theorem shown_any (w : World) (hg : Gl w) : Calls Tryz.prog 13 #[] w fun e w' => e = .returned (.bool true) ∧ Below w.heap.size w w' := by
  have HG : Hid (Gl w) := hg
  clear hg
  go_enter Tryz.func13, Tryz.ntmps13
  go_wp2_with fail
  rw [← sh_s1]
  refine (parse_any shT1 w (by decide) (by decide) HG.out).mono ?_
  rintro e w1 ⟨hb1, h1⟩
  have HB1 : Hid (Below w.heap.size w w1) := hb1
  have h1' : ∃ a cap, e = .returned (.tuple #[.slice a 2 cap, .nilIface]) ∧ RdR w1 a 2 shR ∧ (a = none → cap = 0) := by
    rcases h1 with ⟨out, v, hp, rfl, ho⟩ | ⟨ln, en, ev, hp, _⟩
    · rw [sh_p1] at hp
      cases hp
      obtain ⟨a, cap, rfl, _, _, hrd⟩ := own_rdR ho
      refine ⟨a, cap, rfl, hrd, fun ha => ?_⟩
      obtain ⟨b, off, hb, _⟩ := hrd.2 (by decide)
      rw [ha] at hb; cases hb
    · rw [sh_p1] at hp; cases hp
  clear h1 hb1
  obtain ⟨a, cap, rfl, hrd, hno⟩ := h1'
  have HD1 : Hid (RdR w1 a 2 shR) := hrd
  have HNO : Hid (a = none → cap = 0) := hno
  clear hrd hno
  go_wp2_with fail
  rw [← sh_s2]
  refine (parse_any shT2 w1 (by decide) (by decide) (HG.out.later HB1.out)).mono ?_
  rintro e w2 ⟨hb2, h2⟩
  have HB2 : Hid (Below w.heap.size w w2) := HB1.out.trans (hb2.mono HB1.out.size)
  have HD2 : Hid (RdR w2 a 2 shR) := HD1.out.later hb2
  have h2' : ∃ ev, e = .returned (.tuple #[.slice none 0 0, ev]) ∧ ErrAt w2 ev 2 2 := by
    rcases h2 with ⟨out, v, hp, _⟩ | ⟨ln, en, ev, hp, rfl, he, _⟩
    · rw [sh_p2] at hp; cases hp
    · rw [sh_p2] at hp
      cases hp
      exact ⟨ev, rfl, he⟩
  clear h2 hb2
  obtain ⟨ev, rfl, he⟩ := h2'
  have HE : Hid (ErrAt w2 ev 2 2) := he
  clear he
  go_wp2_with fail
  refine (line_err ev 2 2 w2 (HG.out.later HB2.out) HE.out).mono ?_
  rintro e w3 ⟨rfl, hb3⟩
  have HB3 : Hid (Below w.heap.size w w3) := HB2.out.trans (hb3.mono HB2.out.size)
  have HD3 : Hid (RdR w3 a 2 shR) := HD2.out.later hb3
  clear hb3
  go_wp2_with fail
  refine (line_nil w3).mono ?_
  rintro e w4 ⟨rfl, hb4⟩
  have HB4 : Hid (Below w.heap.size w w4) := HB3.out.trans (hb4.mono HB3.out.size)
  have HD4 : Hid (RdR w4 a 2 shR) := HD3.out.later hb4
  clear hb4
  have HNEW : Hid (Calls Tryz.prog 21 #[.slice a 2 cap, .slice (some ⟨w4.heap.size, 0, none⟩) 3 3] (w4.alloc (.cells #[.string ⟨#[79, 116, 104, 101, 114]⟩, .string ⟨#[65, 76, 101, 116, 116, 101, 114]⟩, .string ⟨#[67, 82]⟩] 9)) (NewOk shR shN (w4.alloc (.cells #[.string ⟨#[79, 116, 104, 101, 114]⟩, .string ⟨#[65, 76, 101, 116, 116, 101, 114]⟩, .string ⟨#[67, 82]⟩] 9)))) := by
    refine new_ok shR shN a (some ⟨w4.heap.size, 0, none⟩) 2 cap 3 3 _ (HD4.out.later ((Below.refl _ w4).alloc (Nat.le_refl _) _)) HNO.out sh_rgs sh_nms ⟨rfl, fun _ => ⟨w4.heap.size, 0, rfl, fun i hi => ?_⟩⟩ (by decide) (by decide) (by decide) sh_cls sh_ends sh_apart sh_in
    rw [cell_of_row _ w4.heap.size (0 + i) _ _ _ (heap_alloc_new w4 _)]
    rcases (by omega : i = 0 ∨ i = 1 ∨ i = 2) with rfl | rfl | rfl <;> rfl
  go_wp2_with fail
  refine HNEW.out.mono ?_
  rintro e w5 ⟨hb5, t, ss, rfl, ht, htl⟩
  have HB5 : Hid (Below w.heap.size w w5) := (HB4.out.alloc HB4.out.size _).trans (hb5.mono (by simp; have := HB4.out.size; omega))
  have HD5 : Hid (RdR w5 a 2 shR) := (HD4.out.later ((Below.refl _ w4).alloc (Nat.le_refl _) _)).later hb5
  have HT : Hid (TblAt w5 t ss) := ht
  have HAS : Hid (AscS ss) := htl.1
  have HSL : Hid (ss.length ≤ 4611686018427387903) := by show ss.length ≤ _; rw [htl.2.1]; decide
  have HC1 : Hid (clsP ss 66 = 1) := (htl.2.2 66).1 (65, 90, [65, 76, 101, 116, 116, 101, 114]) (by decide) (by decide) (by decide)
  have HC2 : Hid (clsP ss 13 = 2) := (htl.2.2 13).1 (13, 13, [67, 82]) (by decide) (by decide) (by decide)
  have HC3 : Hid (clsP ss 98 = 0) := (htl.2.2 98).2 (by decide)
  clear hb5 ht htl
  obtain ⟨b, off, hab, c0, c1, c2⟩ := HD5.out.at 0 (by omega)
  obtain ⟨b2, off2, hab2, d0, d1, d2⟩ := HD5.out.at 1 (by omega)
  subst hab
  cases hab2
  have k0 : w5.cell? ⟨b, off, none⟩ = some (.int .i32 13) := by simpa [shR] using c0
  have k1 : w5.cell? ⟨b, off + 3 + 1, none⟩ = some (.int .i32 90) := by simpa [shR] using d1
  have k2 : w5.cell? ⟨b, off + 4, none⟩ = some (.int .i32 90) := k1
  clear c0 c1 c2 d0 d1 d2
  have HLATE : Hid (∀ w6 : World, Below w5.heap.size w5 w6 → Below w.heap.size w w6 ∧ TblAt w6 t ss) := fun w6 h => ⟨HB5.out.trans (h.mono HB5.out.size), HT.out.later h⟩
  go_wp2_with fail
  refine (class_any t ss 66 w5 HAS.out HT.out HSL.out).mono ?_
  rw [HC1.out]
  rintro e w6 ⟨rfl, hb6⟩
  have HB6 : Hid (Below w.heap.size w w6 ∧ TblAt w6 t ss) := HLATE.out w6 hb6
  clear hb6
  go_wp2_with fail
  refine (class_any t ss 13 w6 HAS.out HB6.out.2 HSL.out).mono ?_
  rw [HC2.out]
  rintro e w7 ⟨rfl, hb7⟩
  have HB7 : Hid (Below w.heap.size w w7 ∧ TblAt w7 t ss) := ⟨HB6.out.1.trans (hb7.mono HB6.out.1.size), HB6.out.2.later hb7⟩
  clear hb7
  go_wp2_with fail
  refine (class_any t ss 98 w7 HAS.out HB7.out.2 HSL.out).mono ?_
  rw [HC3.out]
  rintro e w8 ⟨rfl, hb8⟩
  have HB8 : Hid (Below w.heap.size w w8) := HB7.out.1.trans (hb8.mono HB7.out.1.size)
  clear hb8
  go_wp2
  go_ret
  exact ⟨rfl, HB8.out⟩
end Go.Proofs.YtgncpchgmjacdaaGreatDoor
