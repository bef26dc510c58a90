/- The walk of the statement PropsParses: a text has the ranges that the document says, or what is wrong stands in the line that it says. -/
import Derived.Test.YtgncpchgmjacdaaGreatDoorPropsZ
import Derived.Test.YtgncpchgmjacdaaGreatDoorPropsRp
import Derived.Test.YtgncpchgmjacdaaGreatDoorPropsSm
namespace Go.Proofs.YtgncpchgmjacdaaGreatDoor
open Go.RowKit
set_option linter.unusedVariables false

set_option maxHeartbeats 4000000 in
theorem propsParses_walk (s0 : ByteArray) (w : World) (hs0 : s0.size ≤ 9223372036854775807) (hg : Gl w) :
    Calls Tryz.prog 3 #[.string s0] w fun e w' => e = .returned (.bool true) ∧ Below w.heap.size w w' := by
  obtain ⟨ls, hls⟩ : ∃ n, n = s0.size := ⟨_, rfl⟩
  obtain ⟨n, hn⟩ : ∃ n, n = min ls 4000 := ⟨_, rfl⟩
  have hmin1 := min_run ls n 4000 (by omega)
  obtain ⟨S, hS⟩ : ∃ S, S = (nums s0).take n := ⟨_, rfl⟩
  obtain ⟨bS, hbS⟩ : ∃ b, b = strOfNums S := ⟨_, rfl⟩
  have hcut1 : ∀ W, (Instr.slice 9 (.string s0) none (some (.int .i64 n)) none).run Tryz.prog W = .ok (.string bS) W := by rw [hbS, hS]; exact str_cut s0 ls n 4000 hls.symm (by omega) (by omega)
  have hSl : S.length = n := by rw [hS, List.length_take, nums_len]; omega
  have HSR : Hid (∀ y ∈ S, 0 ≤ y ∧ y ≤ 255) := by rw [hS]; exact fun y hy => nums_rng s0 y (List.mem_of_mem_take hy)
  have HSL : Hid (S.length ≤ 4000) := by show S.length ≤ 4000; omega
  have HBS : Hid (bS = strOfNums S) := hbS
  have hsz1 : s0.size = ls := hls.symm
  have HG : Hid (Gl w) := hg
  have hls63 : ls ≤ 9223372036854775807 := by omega
  have hn63 : n ≤ 4000 := by omega
  have HREF : Hid (∀ W : World, Calls Tryz.prog 15 #[.string bS] W (RfPost S W)) := by
    intro W; rw [hbS]; exact parseRef_any S W HSR.out (by have := HSL.out; omega)
  clear hS hg hn hls hs0 hSl hbS
  go_enter Tryz.func3, Tryz.ntmps3
  go_wp2_with fail
  refine (shown_any w HG.out).mono ?_
  rintro e w1 ⟨rfl, hb1⟩
  have HB1 : Hid (Below w.heap.size w w1) := hb1
  clear hb1
  go_wp2_with fail
  cases hp : parseT S with
  | inr p =>
    obtain ⟨ln, en⟩ := p
    have hrng := parse_rng S ln en hp
    have HP : Hid (parseT S = .inr (ln, en)) := hp
    have hen : ¬ en = 0 := by omega
    have hli : (ln : Int) ≤ 4001 := by have := HSL.out; omega
    have HPB : Hid (∀ W : World, Below w.heap.size w W → Calls Tryz.prog 14 #[.string bS] W fun e w' => Below W.heap.size W w' ∧ ∃ p, e = .returned (.tuple #[.slice none 0 0, .iface 82 (.pointer (some ⟨p, 0, none⟩))]) ∧ ErrAt w' (.iface 82 (.pointer (some ⟨p, 0, none⟩))) ln en) := by
      intro W hW
      rw [HBS.out]
      exact parse_bad S ln en W HP.out HSR.out (by have := HSL.out; omega) (HG.out.later hW)
    clear hp hrng
    refine (HPB.out w1 HB1.out).mono ?_
    rintro e w2 ⟨hb2, p, rfl, he2⟩
    have HB2 : Hid (Below w.heap.size w w2) := HB1.out.trans (hb2.mono HB1.out.size)
    have HE2 : Hid (ErrAt w2 (.iface 82 (.pointer (some ⟨p, 0, none⟩))) ln en) := he2
    clear hb2 he2
    go_wp2_with fail
    refine (HREF.out w2).mono ?_
    rintro e w3 ⟨hb3, h3⟩
    rcases h3 with ⟨out, v, hq, _⟩ | ⟨ln', en', hq, rfl⟩
    · rw [HP.out] at hq; cases hq
    · rw [HP.out] at hq
      cases hq
      have HB3 : Hid (Below w.heap.size w w3) := HB2.out.trans (hb3.mono HB2.out.size)
      have HE3 : Hid (ErrAt w3 (.iface 82 (.pointer (some ⟨p, 0, none⟩))) ln en) := HE2.out.later hb3
      clear hb3
      go_wp2_with fail
      refine (line_err _ ln en w3 (HG.out.later HB3.out) HE3.out).mono ?_
      rintro e w4 ⟨rfl, hb4⟩
      have HB4 : Hid (Below w.heap.size w w4) := HB3.out.trans (hb4.mono HB3.out.size)
      have HSM : Hid (Calls Tryz.prog 17 #[.slice none 0 0, .slice none 0 0] w4 fun e w' => e = .returned (.bool true) ∧ ∃ n, w' = w4.drewN n) :=
        same_refl [] none none 0 0 0 w4 (fun r hr => by cases hr) ⟨rfl, fun h => absurd h (by omega)⟩ ⟨rfl, fun h => absurd h (by omega)⟩ (by omega)
      clear hb4
      go_wp2_with fail
      refine HSM.out.mono ?_
      rintro e w5 ⟨rfl, nd, rfl⟩
      have HB5 : Hid (Below w.heap.size w (w4.drewN nd)) := HB4.out.trans ((below_drewN w4 nd).mono HB4.out.size)
      generalize w4.drewN nd = w5 at HB5 ⊢
      go_wp2
      go_ret
      exact ⟨by first | rfl | simp, HB5.out⟩
  | inl out =>
    have HP : Hid (parseT S = .inl out) := hp
    have HFI := parseT_fine S out hp
    have HRG : Hid (RgS out) := rgS_parse S out hp
    have HOL : Hid (out.length ≤ 2000) := HFI.1
    have HPO : Hid (∀ W : World, Below w.heap.size w W → Calls Tryz.prog 14 #[.string bS] W fun e w' => Below W.heap.size W w' ∧ ∃ a cap, e = .returned (.tuple #[.slice a out.length cap, .nilIface]) ∧ RdR w' a out.length out ∧ (a = none → cap = 0)) := by
      intro W hW
      rw [HBS.out]
      exact parse_ok S out W HP.out HSR.out (by have := HSL.out; omega) (HG.out.later hW)
    clear hp HFI
    refine (HPO.out w1 HB1.out).mono ?_
    rintro e w2 ⟨hb2, a, cap, rfl, hrd2, _⟩
    have HB2 : Hid (Below w.heap.size w w2) := HB1.out.trans (hb2.mono HB1.out.size)
    have HD2 : Hid (RdR w2 a out.length out) := hrd2
    clear hb2 hrd2
    go_wp2_with fail
    refine (HREF.out w2).mono ?_
    rintro e w3 ⟨hb3, h3⟩
    rcases h3 with ⟨out', v, hq, rfl, ho⟩ | ⟨ln', en', hq, _⟩
    · rw [HP.out] at hq
      cases hq
      obtain ⟨a3, cap3, rfl, hq1, hq2, hrd3⟩ := own_rdR ho
      have HB3 : Hid (Below w.heap.size w w3) := HB2.out.trans (hb3.mono HB2.out.size)
      have HD3 : Hid (RdR w3 a3 out.length out) := hrd3
      have HD23 : Hid (RdR w3 a out.length out) := HD2.out.later hb3
      clear hb3 ho hrd3 hq1 hq2
      go_wp2_with fail
      refine (line_nil w3).mono ?_
      rintro e w4 ⟨rfl, hb4⟩
      have HB4 : Hid (Below w.heap.size w w4) := HB3.out.trans (hb4.mono HB3.out.size)
      have HSM : Hid (Calls Tryz.prog 17 #[.slice a out.length cap, .slice a3 out.length cap3] w4 fun e w' => e = .returned (.bool true) ∧ ∃ n, w' = w4.drewN n) :=
        same_refl out a a3 out.length cap cap3 w4 HRG.out (HD23.out.later hb4) (HD3.out.later hb4) (by have := HOL.out; omega)
      clear hb4
      go_wp2_with fail
      refine HSM.out.mono ?_
      rintro e w5 ⟨rfl, nd, rfl⟩
      have HB5 : Hid (Below w.heap.size w (w4.drewN nd)) := HB4.out.trans ((below_drewN w4 nd).mono HB4.out.size)
      generalize w4.drewN nd = w5 at HB5 ⊢
      go_wp2
      go_ret
      exact ⟨by first | rfl | simp, HB5.out⟩
    · rw [HP.out] at hq; cases hq
end Go.Proofs.YtgncpchgmjacdaaGreatDoor
