/- The walk of the statement PropsLines: an error tells its line, however deep it is wrapped. -/
import Derived.Test.YtchdklbekfdgdabGreatDoorPropsLn
import Derived.Test.YtchdklbekfdgdabGreatDoorPropsEr
import Derived.Test.YtchdklbekfdgdabGreatDoorPropsY
namespace Go.Proofs.YtchdklbekfdgdabGreatDoor
open Go.RowKit Go.Sort
set_option linter.unusedVariables false

theorem ce_s : strOfNums ([58, 32] ++ erT) = ⟨#[58, 32, 101, 114, 114, 111, 114, 32]⟩ := by apply str_ext; rw [strOfNums_data]; rfl
theorem fa_eq (ln en : Nat) : liT ++ decN ln ++ ([58, 32] ++ erT) ++ decN en = faT ln en := by unfold faT; simp
theorem unwrap_any (q ln en : Nat) (w : World) (hq : w.heap[q]? = some (.cells #[.int .i64 ln, .iface 24 (.int .i64 en)] 28)) :
    Calls Tryz.prog 10 #[.pointer (some ⟨q, 0, none⟩)] w fun e w' => e = .returned (.iface 24 (.int .i64 en)) ∧ w' = w := by
  have hc1 : w.cell? ⟨q, 1, none⟩ = some (.iface 24 (.int .i64 en)) := cell_of_row w q 1 _ _ _ hq
  clear hq
  go_enter Tryz.func10, Tryz.ntmps10
  go_wp2
  go_ret
  exact ⟨rfl, rfl⟩

set_option maxHeartbeats 4000000 in
theorem propsLines_walk (l0 e0 t0 : Int) (w : World) (hg : Gl w) (htab : Tab w) :
    Calls Tryz.prog 3 #[.int .i64 l0, .int .i64 e0, .int .i64 t0] w fun e w' => e = .returned (.bool true) ∧ RowKit.Below w.heap.size w w' := by
  obtain ⟨ln, hln⟩ : ∃ m : Nat, (m : Int) = l0 % 65536 := ⟨(l0 % 65536).toNat, by omega⟩
  obtain ⟨e1, he1⟩ : ∃ m : Int, m = e0 % 256 := ⟨_, rfl⟩
  obtain ⟨e2, he2⟩ : ∃ m : Int, m = e1 % 8 := ⟨_, rfl⟩
  obtain ⟨en, hen⟩ : ∃ m : Nat, (m : Int) = 1 + e2 := ⟨(1 + e2).toNat, by omega⟩
  obtain ⟨m, hm⟩ : ∃ m : Nat, (m : Int) = t0 % 8 := ⟨(t0 % 8).toNat, by omega⟩
  have hand1 : bits .and .i64 l0 65535 = (ln : Int) := by rw [and_low l0 65535 16 (by omega) (by decide)]; exact hln.symm
  have hand2 : bits .and .i64 e0 255 = e1 := by rw [and_low e0 255 8 (by omega) (by decide)]; exact he1.symm
  have hand3 : bits .and .i64 t0 7 = (m : Int) := by rw [and_low t0 7 3 (by omega) (by decide)]; exact hm.symm
  have hrem : e1.tmod 8 = e2 := by rw [Int.tmod_eq_emod_of_nonneg (by omega)]; exact he2.symm
  have hwr0 : IntKind.i64.wrap e2 = e2 := by rw [IntKind.wrap_i64]; omega
  have hwr1 : IntKind.i64.wrap (1 + e2) = (en : Int) := by rw [IntKind.wrap_i64]; omega
  have hen1 : 1 ≤ (en : Int) := by omega
  have HLN : Hid (ln ≤ 65535) := by show ln ≤ 65535; omega
  have HEN : Hid (en ≤ 65535) := by show en ≤ 65535; omega
  have hm7 : (m : Int) ≤ 7 := by omega
  have HG : Hid (Gl w) := hg
  have HT : Hid (Tab w) := htab
  obtain ⟨bl, hbl⟩ : ∃ b, b = strOfNums (decN ln) := ⟨_, rfl⟩
  obtain ⟨be, hbe⟩ : ∃ b, b = strOfNums (decN en) := ⟨_, rfl⟩
  obtain ⟨b1, hb1⟩ : ∃ b, b = strOfNums (liT ++ decN ln) := ⟨_, rfl⟩
  obtain ⟨b2, hb2⟩ : ∃ b, b = strOfNums (liT ++ decN ln ++ ([58, 32] ++ erT)) := ⟨_, rfl⟩
  obtain ⟨b3, hb3⟩ : ∃ b, b = strOfNums (faT ln en) := ⟨_, rfl⟩
  have l1 := decN_len ln HLN.out
  have l2 := decN_len en HEN.out
  have hadd1 : ∀ W, (Op.stringOp .add ⟨#[108, 105, 110, 101, 32]⟩ bl).run Tryz.prog W = .ok (.string b1) W := by rw [← li_s, hbl, hb1]; exact add_str liT (decN ln) (by simp [liT]; omega)
  have hadd2 : ∀ W, (Op.stringOp .add b1 ⟨#[58, 32, 101, 114, 114, 111, 114, 32]⟩).run Tryz.prog W = .ok (.string b2) W := by rw [← ce_s, hb1, hb2]; exact add_str (liT ++ decN ln) ([58, 32] ++ erT) (by simp [liT, erT]; omega)
  have hadd3 : ∀ W, (Op.stringOp .add b2 be).run Tryz.prog W = .ok (.string b3) W := by rw [hb2, hbe, hb3, ← fa_eq]; exact add_str (liT ++ decN ln ++ ([58, 32] ++ erT)) (decN en) (by simp [liT, erT]; omega)
  have hbq : (b3.toList == b3.toList) = true := by simp
  have HDL : Hid (∀ W, Calls Tryz.prog 8 #[.int .i64 ln] W fun e w' => e = .returned (.string bl) ∧ RowKit.Below W.heap.size W w') := by intro W; rw [hbl]; exact decimal_any ln HLN.out W
  have HDE : Hid (∀ W, Calls Tryz.prog 8 #[.int .i64 en] W fun e w' => e = .returned (.string be) ∧ RowKit.Below W.heap.size W w') := by intro W; rw [hbe]; exact decimal_any en HEN.out W
  have HFT : Hid (∀ (W : World) (q : Nat), RowKit.Below w.heap.size w W → W.heap[q]? = some (.cells #[.int .i64 ln, .iface 24 (.int .i64 en)] 28) → Calls Tryz.prog 7 #[.pointer (some ⟨q, 0, none⟩)] W fun e w' => e = .returned (.string b3) ∧ RowKit.Below W.heap.size W w') := by
    intro W q hW hq
    rw [hb3]
    exact faultText_any q ln en HLN.out HEN.out W (HT.out.later hW) hq
  clear hln he1 he2 hen hm hg htab hbl hbe hb1 hb2 hb3 l1 l2
  go_enter Tryz.func3, Tryz.ntmps3
  go_wp2_with fail
  refine (shown_any w HG.out).mono ?_
  rintro e w1 ⟨rfl, hb1⟩
  have HB1 : Hid (RowKit.Below w.heap.size w w1) := hb1
  clear hb1
  go_wp2_with fail
  refine (HFT.out _ _ (HB1.out.alloc HB1.out.size _) (heap_alloc_new w1 _)).mono ?_
  rintro e w2 ⟨rfl, hb2⟩
  have HB2 : Hid (RowKit.Below w.heap.size w w2) := (HB1.out.alloc HB1.out.size _).trans (hb2.mono (by simp; have := HB1.out.size; omega))
  have HQ2 : Hid (w2.heap[w1.heap.size]? = some (.cells #[.int .i64 ln, .iface 24 (.int .i64 en)] 28)) := by
    show _ = _
    rw [hb2.block _ (by simp)]; exact heap_alloc_new w1 _
  clear hb2
  generalize w1.heap.size = q at HQ2 ⊢
  go_wp2_with fail
  refine (HDL.out w2).mono ?_
  rintro e w3 ⟨rfl, hb3⟩
  have HB3 : Hid (RowKit.Below w.heap.size w w3) := HB2.out.trans (hb3.mono HB2.out.size)
  have HQ3 : Hid (w3.heap[q]? = some (.cells #[.int .i64 ln, .iface 24 (.int .i64 en)] 28)) := by
    show _ = _
    rw [hb3.block _ (Array.getElem?_eq_some_iff.1 HQ2.out).1]; exact HQ2.out
  clear hb3
  go_wp2_with fail
  refine (HDE.out w3).mono ?_
  rintro e w4 ⟨rfl, hb4⟩
  have HB4 : Hid (RowKit.Below w.heap.size w w4) := HB3.out.trans (hb4.mono HB3.out.size)
  have HQ4 : Hid (w4.heap[q]? = some (.cells #[.int .i64 ln, .iface 24 (.int .i64 en)] 28)) := by
    show _ = _
    rw [hb4.block _ (Array.getElem?_eq_some_iff.1 HQ3.out).1]; exact HQ3.out
  clear hb4
  go_wp2_with fail
  refine (unwrap_any q ln en w4 HQ4.out).mono ?_
  rintro e w' ⟨rfl, hw'⟩
  obtain rfl : w4 = w' := hw'.symm
  have HSY : Hid (Calls Tryz.prog 9 #[.iface 24 (.int .i64 en), .int .i64 en] w4 fun e w' => e = .returned (.bool true) ∧ RowKit.Below w4.heap.size w4 w') := by
    refine (says_ch en en _ 0 w4 .num).mono ?_
    rintro e w' ⟨rfl, os, rfl⟩
    exact ⟨by simp, below_grow w4 0 os⟩
  go_wp2_with fail
  refine HSY.out.mono ?_
  rintro e w5 ⟨rfl, hb5⟩
  have HB5 : Hid (RowKit.Below w.heap.size w w5) := HB4.out.trans (hb5.mono HB4.out.size)
  have HQ5 : Hid (w5.heap[q]? = some (.cells #[.int .i64 ln, .iface 24 (.int .i64 en)] 28)) := by
    show _ = _
    rw [hb5.block _ (Array.getElem?_eq_some_iff.1 HQ4.out).1]; exact HQ4.out
  clear hb5
  go_wp2
  go_loop [10, 11, 12] (fun x10 x11 x12 => ∃ i : Nat, i ≤ m ∧ x12 = .int .i64 i ∧ Wr (.iface 23 (.pointer (some ⟨q, 0, none⟩))) x10 i ∧ Wr (.iface 24 (.int .i64 en)) x11 i) (fun _ _ x12 => m - (intOf x12).toNat)
  case atStart => exact ⟨0, by omega, rfl, .here, .here⟩
  case round =>
    obtain ⟨i, hi, hx12, h1, h2⟩ := hrel
    subst hx12
    have H1 : Hid (Wr (.iface 23 (.pointer (some ⟨q, 0, none⟩))) u10 i) := h1
    have H2 : Hid (Wr (.iface 24 (.int .i64 en)) u11 i) := h2
    obtain ⟨t1, v1, hu10⟩ := h1.iface ⟨_, _, rfl, by decide⟩
    obtain ⟨t2, v2, hu11⟩ := h2.iface ⟨_, _, rfl, by decide⟩
    clear h1 h2
    subst hu10 hu11
    by_cases hlt : i < m
    · have hlt' : (i : Int) < (m : Int) := by omega
      go_wp2
      go_round
      case rel => exact ⟨i + 1, by omega, by go_num, .wrap _ _ H1.out, .wrap _ _ H2.out⟩
      case measure => simp [intOf]; omega
    · obtain rfl : i = m := by omega
      go_wp2_with fail
      refine (line_wr q ln en _ _ w5 (HG.out.later HB5.out) HQ5.out H1.out).mono ?_
      rintro e w6 ⟨rfl, hb6⟩
      have HB6 : Hid (RowKit.Below w.heap.size w w6) := HB5.out.trans (hb6.mono HB5.out.size)
      clear hb6
      go_wp2_with fail
      refine (line_alone en _ _ w6 (HG.out.later HB6.out) H2.out).mono ?_
      rintro e w7 ⟨rfl, hb7⟩
      have HB7 : Hid (RowKit.Below w.heap.size w w7) := HB6.out.trans (hb7.mono HB6.out.size)
      clear hb7
      go_wp2
      go_ret
      exact ⟨rfl, HB7.out⟩
end Go.Proofs.YtchdklbekfdgdabGreatDoor
