/- The walk of bounded. -/
import Derived.Test.YtodaoelkljaflaaNfaR
import Derived.Test.YtodaoelkljaflaaNfaQ
namespace Go.Proofs.Ytodaoelkljaflaa
open Go.RowKit
set_option linter.unusedVariables false
set_option linter.unusedSimpArgs false

/-- What bounded leaves, of an expression that is right. -/
def BdPost (n : Nd) (c bn : Nat) (w : World) (e : Ending) (w' : World) : Prop :=
  ∃ c' : Nat, e = .returned (.bool true) ∧ w.grownBy w' (some bn) ∧ w'.heap[bn]? = some (.cells #[nI c'] 3) ∧ c' + n.wds = c
def BdC (d : Nat) : Prop := ∀ (D : Nat) (n : Nd) (ca pa : Option Addr) (cc pc c bn : Nat) (N : Int) (w0 w : World), InV w0.heap.size w0 D n [.int .i64 n.op, .slice ca n.cl.length cc, .slice pa (toL n.kids).length pc] → Below w0.heap.size w0 w → w0.heap.size ≤ bn → w.heap[bn]? = some (.cells #[nI c] 3) → okN d n = true → (d : Int) ≤ N → N ≤ 131072 → n.wds ≤ c → c ≤ 268435456 →
  Calls Try.prog 31 #[.agg #[.int .i64 n.op, .slice ca n.cl.length cc, .slice pa (toL n.kids).length pc], .int .i64 N, .pointer (some ⟨bn, 0, none⟩)] w (BdPost n c bn w)
set_option maxHeartbeats 8000000 in
theorem bd_up (d : Nat) (HP : BdC d) : BdC (d + 1) := by
  intro D n ca pa cc pc c bn N w0 w hin hb0 hbn hbc hok hN hN2 hwc hc
  have HPC : Hid (BdC d) := HP
  have HIN : Hid (InV w0.heap.size w0 D n [.int .i64 n.op, .slice ca n.cl.length cc, .slice pa (toL n.kids).length pc]) := hin
  obtain ⟨_, _, _, _, hcl⟩ := okN_op _ n hok
  have HALL : Hid (∀ x ∈ toL n.kids, okN d x = true) := by
    simp only [okN, Bool.and_eq_true, List.all_eq_true] at hok
    exact hok.2
  have hbd := hin.bounds
  obtain ⟨op, hop⟩ : ∃ op, op = n.op := ⟨_, rfl⟩
  obtain ⟨cn, hcn⟩ : ∃ cn, cn = n.cl.length := ⟨_, rfl⟩
  obtain ⟨K, hK⟩ : ∃ K, K = (toL n.kids).length := ⟨_, rfl⟩
  obtain ⟨c1, hc1⟩ : ∃ c1 : Nat, c1 + 7 + cn = c := ⟨c - 7 - cn, by have := wds_eq n; omega⟩
  have HC1 : Hid (c1 + 7 + cn = c ∧ n.wds = 7 + cn + wdsL (toL n.kids) ∧ n.wds ≤ c ∧ c ≤ 268435456) := ⟨hc1, by rw [hcn]; exact wds_eq n, hwc, hc⟩
  have hKi : (K : Int) ≤ 2600000000000 := by omega
  have hc1i : (c1 : Int) ≤ 268435456 := by omega
  have hcni : (cn : Int) ≤ 24 := by omega
  have hs1 : IntKind.i64.wrap (7 + (cn : Int)) = 7 + (cn : Int) := by rw [IntKind.wrap_i64]; omega
  have hs2 : IntKind.i64.wrap ((c : Int) - (7 + (cn : Int))) = (c1 : Int) := by rw [IntKind.wrap_i64]; omega
  have hs3 : (c : Int) - (7 + (cn : Int)) = (c1 : Int) := by omega
  have hNn : decide (N < 0) = false := by simp; omega
  have hNw : IntKind.i64.wrap (N - 1) = N - 1 := by rw [IntKind.wrap_i64]; omega
  have HNN : Hid ((d : Int) ≤ N - 1 ∧ N - 1 ≤ 131072) := by refine ⟨?_, ?_⟩ <;> omega
  have hc1n : decide ((c1 : Int) < 0) = false := by simp
  obtain ⟨wA, hwA⟩ : ∃ wA, wA = w.alloc (.cells #[.int .i64 op, .slice ca cn cc, .slice pa K pc] 25) := ⟨_, rfl⟩
  obtain ⟨H, hH⟩ : ∃ H, H = w.heap.size := ⟨_, rfl⟩
  have HB : Hid (Below w.heap.size w wA) := by rw [hwA]; exact (Below.refl _ w).alloc (Nat.le_refl _) _
  have hbx : wA.heap[H]? = some (.cells #[.int .i64 op, .slice ca cn cc, .slice pa K pc] 25) := by rw [hwA, hH]; exact heap_alloc_new w _
  have HBX : Hid (wA.heap[H]? = some (.cells #[.int .i64 op, .slice ca cn cc, .slice pa K pc] 25)) := hbx
  have hbcA : wA.heap[bn]? = some (.cells #[nI c] 3) := (HB.out.block bn (Array.getElem?_eq_some_iff.1 hbc).1).trans hbc
  have HBC : Hid (wA.heap[bn]? = some (.cells #[nI c] 3)) := hbcA
  have hbl : bn < w.heap.size := (Array.getElem?_eq_some_iff.1 hbc).1
  have HG0 : Hid (w.grownBy wA (some bn)) := ⟨HB.out.os, HB.out.tape, HB.out.output, HB.out.size, fun k hk _ => HB.out.block k hk⟩
  have e1 : wA.cell? ⟨H, 1, none⟩ = some (.slice ca cn cc) := cell_of_row wA H 1 _ _ _ hbx
  have eb : wA.cell? ⟨bn, 0, none⟩ = some (.int .i64 (c : Int)) := cell_of_row wA bn 0 _ _ _ hbcA
  have ef : wA.frozen? ⟨bn, 0, none⟩ = false := Lib.frozen_of_heap hbcA 0
  obtain ⟨w2, hw2⟩ : ∃ w2, w2 = (wA.setCell ⟨bn, 0, none⟩ (.int .i64 (c1 : Int))).drew := ⟨_, rfl⟩
  have HB2 : Hid (w2.heap[bn]? = some (.cells #[nI c1] 3)) := by rw [hw2]; exact heap_setCell_same wA bn 0 _ _ _ HBC.out
  have HG12 : Hid (wA.grownBy w2 (some bn)) := by rw [hw2]; exact grown_all (grown_cell wA bn 0 _) (grown_drew3 _ _)
  have HG2 : Hid (w.grownBy w2 (some bn)) := grown_all HG0.out HG12.out
  have hneH : bn ≠ H := by omega
  have HBX2 : Hid (w2.heap[H]? = some (.cells #[.int .i64 op, .slice ca cn cc, .slice pa K pc] 25)) := (HG12.out.block H (Array.getElem?_eq_some_iff.1 HBX.out).1 (fun e => hneH (Option.some.inj e).symm)).trans HBX.out
  rw [← hop, ← hcn, ← hK]
  have HK : Hid (K = (toL n.kids).length) := hK
  have HBB : Hid (w0.heap.size ≤ bn ∧ bn < w.heap.size ∧ H = w.heap.size ∧ Below w0.heap.size w0 w) := ⟨hbn, hbl, hH, hb0⟩
  clear HP hin hb0 hbn hbc hbd hcl hop hcn hK hbx hbcA hbl hok hN hN2 hwc hc hc1
  go_enter Try.func31, Try.ntmps31
  go_upto_region 1 with fail
  rw [← hH, ← hwA]
  clear hH hwA
  go_region
  rw [← hw2]
  clear hw2 e1 eb ef hs1 hs2 hs3 hneH
  have eb2 : w2.cell? ⟨bn, 0, none⟩ = some (.int .i64 (c1 : Int)) := cell_of_row w2 bn 0 _ _ _ HB2.out
  have f2 : w2.cell? ⟨H, 2, none⟩ = some (.slice pa K pc) := cell_of_row w2 H 2 _ _ _ HBX2.out
  go_wp2
  go_loopw [29] (fun x29 wr => ∃ k ck : Nat, k ≤ K ∧ x29 = .int .i64 k ∧ w.grownBy wr (some bn) ∧ wr.heap[bn]? = some (.cells #[nI ck] 3) ∧ ck + wdsL ((toL n.kids).take k) = c1) (fun x29 _ => K - (intOf x29).toNat)
  case atStart => exact ⟨0, c1, by omega, rfl, HG2.out, HB2.out, by simp [wdsL]⟩
  case round =>
    obtain ⟨k, ck, hk, hx29, hg, hbk, hck⟩ := hrel
    subst hx29
    have HG : Hid (w.grownBy wr (some bn)) := hg
    have HBK : Hid (wr.heap[bn]? = some (.cells #[nI ck] 3)) := hbk
    have HCK : Hid (ck + wdsL ((toL n.kids).take k) = c1) := hck
    clear hg hbk hck f2 eb2
    by_cases hlt : k < K
    · have hkn : k < (toL n.kids).length := by rw [← HK.out]; exact hlt
      have HW0 : Hid (Below w0.heap.size w0 wr) := by
        obtain ⟨q1, q2, q3, q4⟩ := HBB.out
        exact q4.grown HG.out q4.size (fun k hk => by cases hk; exact q1)
      obtain ⟨b, off, xa, xc, ya, yc, d', hpa, hkid, _, c0', c1', c2'⟩ := HIN.out.kid k hkn
      subst hpa
      have k0 := upC HW0.out c0'
      have k1 := upC HW0.out c1'
      have k2 := upC HW0.out c2'
      have HV : Hid (∀ W1 : World, Below wr.heap.size wr W1 → Calls Try.prog 31 #[.agg #[.int .i64 (toL n.kids)[k].op, .slice xa (toL n.kids)[k].cl.length xc, .slice ya (toL (toL n.kids)[k].kids).length yc], .int .i64 (N - 1), .pointer (some ⟨bn, 0, none⟩)] W1 (BdPost (toL n.kids)[k] ck bn W1)) := by
        intro W1 hW1
        have h1 := HC1.out
        have h2 := HCK.out
        have h3 := wdsL_take (toL n.kids) k hkn
        exact HPC.out d' (toL n.kids)[k] xa ya xc yc ck bn (N - 1) w0 W1 hkid (HW0.out.trans (hW1.mono HW0.out.size)) HBB.out.1 ((hW1.block bn (Array.getElem?_eq_some_iff.1 HBK.out).1).trans HBK.out) (HALL.out _ (List.getElem_mem hkn)) HNN.out.1 HNN.out.2 (by omega) (by omega)
      obtain ⟨xo, hxo⟩ : ∃ xo, xo = (toL n.kids)[k].op := ⟨_, rfl⟩
      obtain ⟨xn, hxn⟩ : ∃ xn, xn = (toL n.kids)[k].cl.length := ⟨_, rfl⟩
      obtain ⟨xk, hxk⟩ : ∃ xk, xk = (toL (toL n.kids)[k].kids).length := ⟨_, rfl⟩
      rw [← hxo] at k0 HV
      rw [← hxn] at k1 HV
      rw [← hxk] at k2 HV
      obtain ⟨W1, hW1⟩ : ∃ W1, W1 = wr.alloc (.cells #[.int .i64 xo, .slice xa xn xc, .slice ya xk yc] 25) := ⟨_, rfl⟩
      have HBW : Hid (Below wr.heap.size wr W1) := by rw [hW1]; exact (Below.refl _ wr).alloc (Nat.le_refl _) _
      have HCC := HV.out W1 HBW.out
      have HC : Hid (Calls Try.prog 31 #[.agg #[.int .i64 xo, .slice xa xn xc, .slice ya xk yc], .int .i64 (N - 1), .pointer (some ⟨bn, 0, none⟩)] W1 (BdPost (toL n.kids)[k] ck bn W1)) := HCC
      clear HCC HV hkid c0' c1' c2' hxo hxn hxk
      go_wp2_with fail
      rw [← hW1]
      clear hW1 k0 k1 k2
      refine HC.out.mono ?_
      rintro e w3 ⟨c3, rfl, hg3, hb3, hc3⟩
      have HG3 : Hid (w.grownBy w3 (some bn)) := grown_all (grown_all HG.out ⟨HBW.out.os, HBW.out.tape, HBW.out.output, HBW.out.size, fun k hk _ => HBW.out.block k hk⟩) hg3
      have HB3 : Hid (w3.heap[bn]? = some (.cells #[nI c3] 3)) := hb3
      have HNX : Hid (c3 + wdsL ((toL n.kids).take (k + 1)) = c1) := by
        have h2 := HCK.out
        show _ = _
        rw [take_snoc _ k hkn, wdsL_snoc]; omega
      clear hg3 hb3 hc3 HC
      go_wp2
      go_roundw
      case rel => exact ⟨k + 1, c3, by omega, by go_num, HG3.out, HB3.out, HNX.out⟩
      case measure => simp [intOf]; omega
    · obtain rfl : k = K := by omega
      have HFN : Hid (BdPost n c bn w (.returned (.bool true)) wr) := by
        have ht : (toL n.kids).take k = toL n.kids := List.take_of_length_le (by rw [← HK.out]; exact Nat.le_refl _)
        have h1 := HCK.out
        rw [ht] at h1
        have h3 := HC1.out
        exact ⟨ck, rfl, HG.out, HBK.out, by omega⟩
      go_wp2
      go_ret
      exact HFN.out
theorem bd_any : (d : Nat) → BdC d
  | 0 => fun D n ca pa cc pc c bn N w0 w hin hb0 hbn hbc hok => by simp [okN] at hok
  | d + 1 => bd_up d (bd_any d)
end Go.Proofs.Ytodaoelkljaflaa
