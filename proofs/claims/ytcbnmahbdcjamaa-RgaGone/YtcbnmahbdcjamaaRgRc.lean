/- The walk of the reference's Put, where it refuses the operation. -/
import Derived.Test.YtcbnmahbdcjamaaRgRb
namespace Go.Proofs.Ytcbnmahbdcjamaa
open Go.RowKit Go.Sort
set_option linter.unusedVariables false
set_option linter.unusedSimpArgs false
set_option maxRecDepth 100000 in
set_option maxHeartbeats 16000000 in
theorem no_rf {w : World} {T : Nat} {a : Option Addr} {n c : Nat} {O : List Opn} (h : RfT w T a n c O) (hn : n ≤ 100000) (hv : Rv O) (o : Opn) (ht : (putA O o).1 = false) :
    Calls Try.prog 55 #[.pointer (some ⟨T, 0, none⟩), o.val] w fun e w' => e = .returned (.tuple #[.bool false, .int .i64 (putA O o).2]) ∧ Below w.heap.size w w' := by
  obtain ⟨U3, hU3⟩ : ∃ U3, U3 = w.alloc (bxR o) := ⟨_, rfl⟩
  obtain ⟨X, hX⟩ : ∃ X, X = w.heap.size := ⟨_, rfl⟩
  have hb3 : Below w.heap.size w U3 := by rw [hU3]; exact (Below.refl _ w).alloc (Nat.le_refl _) _
  have hx3 : U3.heap[X]? = some (bxR o) := by rw [hU3, hX]; exact heap_alloc_new w _
  have h3 := h.later hb3
  obtain ⟨ok, hok⟩ : ∃ ok, ok = opB o := ⟨_, rfl⟩
  have HRI : Hid (Calls Try.prog 76 #[o.val] U3 fun e w' => e = .returned (.bool ok) ∧ Below U3.heap.size U3 w') := (refRight_any o U3).mono (by rintro e w' ⟨rfl, q⟩; exact ⟨by rw [hok], q.below⟩)
  obtain ⟨SS, hSS⟩ : ∃ SS, SS = (lastO O o.a).s := ⟨_, rfl⟩
  obtain ⟨CC, hCC⟩ : ∃ CC, CC = (lastO O o.a).c := ⟨_, rfl⟩
  obtain ⟨hb, hhb⟩ : ∃ hb, hb = hasE O (o.rc, o.ra) := ⟨_, rfl⟩
  have HKN : Hid (∀ V, Below U3.heap.size U3 V → Calls Try.prog 96 #[.pointer (some ⟨T, 0, none⟩), .int .i64 o.a] V fun e w' => e = .returned (.tuple #[.int .i64 SS, .int .i64 CC]) ∧ w' = V) := fun V hV => by
    have := known_rf (h3.later hV) (by omega) o.a
    rw [knF_last hv, ← hSS, ← hCC] at this
    exact this
  have HHS : Hid (∀ V, Below U3.heap.size U3 V → Calls Try.prog 97 #[.pointer (some ⟨T, 0, none⟩), .agg #[.int .i64 o.rc, .int .i64 o.ra]] V fun e w' => e = .returned (.bool hb) ∧ Below U3.heap.size U3 w') := fun V hV => (has_rf (h3.later hV) (by omega) o.rc o.ra).mono (by
    rintro e w' ⟨rfl, q⟩
    exact ⟨by rw [hhb], hV.trans (q.mono hV.size)⟩)
  have HXX : Hid (∀ w', Below U3.heap.size U3 w' → w'.cell? ⟨X, 0, none⟩ = some (.int .i64 o.c) ∧ w'.cell? ⟨X, 1, none⟩ = some (.int .i64 o.a) ∧ w'.cell? ⟨X, 2, none⟩ = some (.int .i64 o.s) ∧ w'.cell? ⟨X, 3, none⟩ = some (.bool o.ins) ∧ w'.cell? ⟨X, 4, none⟩ = some (.int .i64 o.rc) ∧ w'.cell? ⟨X, 5, none⟩ = some (.int .i64 o.ra) ∧ w'.cell? ⟨X, 6, none⟩ = some (.int .i32 o.ch)) := fun V hV => bxR_cells (belR hV hx3)
  have HB0 : Hid (Below U3.heap.size U3 U3) := Below.refl _ _
  have HFIN : Hid (∀ V, Below U3.heap.size U3 V → Below w.heap.size w V) := fun V hV => hb3.trans (hV.mono hb3.size)
  obtain ⟨er, her⟩ : ∃ er, er = (putA O o).2 := ⟨_, rfl⟩
  rw [← her]
  have hid := fun q : opB o = true => op_id q
  have hcs : (ok = false ∧ er = 1) ∨ (ok = true ∧ o.s ≤ SS ∧ er = 0) ∨ (ok = true ∧ 1 ≤ o.s ∧ o.s < 9223372036854775807 ∧ SS + 1 < o.s ∧ er = 6) ∨ (ok = true ∧ o.s = SS + 1 ∧ 1 ≤ o.s ∧ o.s < 9223372036854775807 ∧ hb = false ∧ ¬ (o.rc, o.ra) = ((0 : Int), (0 : Int)) ∧ er = 6) ∨ (ok = true ∧ o.s = SS + 1 ∧ 1 ≤ o.s ∧ o.s < 9223372036854775807 ∧ (hb = true ∨ (hb = false ∧ o.rc = 0 ∧ o.ra = 0)) ∧ o.c ≤ CC ∧ er = 1) := by
    rw [hSS, hCC, hhb, her, hok]
    cases hop : opB o
    · left; exact ⟨rfl, by unfold putA; rw [if_pos hop]⟩
    · right
      have hi := hid hop
      obtain ⟨c1, c2, c3, c4⟩ := putA_cases O o hop
      by_cases e1 : o.s ≤ (lastO O o.a).s
      · left; exact ⟨rfl, e1, by rw [c1 e1]⟩
      right
      by_cases e2 : (lastO O o.a).s + 1 < o.s
      · left; exact ⟨rfl, by omega, by omega, e2, by rw [c2 e1 e2]⟩
      right
      by_cases e3 : o.ref = (0, 0)
      · right
        by_cases e5 : o.c ≤ (lastO O o.a).c
        · refine ⟨rfl, by omega, by omega, by omega, ?_, e5, by rw [(c4 e1 e2 (.inl e3)).1 e5]⟩
          have e6 := e3
          unfold Opn.ref at e6
          injection e6 with e7 e8
          cases hh : hasE O (o.rc, o.ra)
          · exact .inr ⟨rfl, e7, e8⟩
          · exact .inl rfl
        · rw [(c4 e1 e2 (.inl e3)).2 e5] at ht; cases ht
      · cases hh : hasE O (o.rc, o.ra)
        · left; exact ⟨rfl, by omega, by omega, by omega, rfl, e3, by rw [c3 e1 e2 e3 hh]⟩
        · right
          by_cases e5 : o.c ≤ (lastO O o.a).c
          · exact ⟨rfl, by omega, by omega, by omega, .inl rfl, e5, by rw [(c4 e1 e2 (.inr hh)).1 e5]⟩
          · rw [(c4 e1 e2 (.inr hh)).2 e5] at ht; cases ht
  have hnz : ∀ W, (binOp .neq 32 (.agg #[.int .i64 0, .int .i64 0]) (.agg #[.int .i64 0, .int .i64 0])).run Try.prog W = .ok (.bool false) W := neq_ids 0 0 0 0 false (by simp)
  have hnr : ¬ (o.rc, o.ra) = ((0 : Int), (0 : Int)) → ∀ W, (binOp .neq 32 (.agg #[.int .i64 o.rc, .int .i64 o.ra]) (.agg #[.int .i64 0, .int .i64 0])).run Try.prog W = .ok (.bool true) W := fun q => neq_ids _ _ _ _ true (by simp [q])
  clear h h3 hb3 hx3 ht hv hok hSS hCC hhb her hid
  obtain ⟨oc, oa, os, oi, orc, ora, och⟩ := o
  simp only [Opn.val] at HRI HKN HHS HXX hcs hnr ⊢
  rcases hcs with ⟨rfl, rfl⟩ | ⟨rfl, k1, rfl⟩ | ⟨rfl, k1, k2, k3, rfl⟩ | ⟨rfl, k1, k2, k3, rfl, k4, rfl⟩ | ⟨rfl, k1, k2, k3, k4, k5, rfl⟩
  · obtain ⟨q0, q1, q2, q3, q4, q5, q6⟩ := HXX.out U3 HB0.out
    go_enter Try.func55, Try.ntmps55
    go_upto_region 1 with fail
    rw [← hX, ← hU3]
    clear hX hU3
    go_wp2_with (go_at_call 76; refine HRI.out.mono ?_; rintro e w4 ⟨rfl, h1⟩; have HB4 : Hid (Below U3.heap.size U3 w4) := h1; clear h1)
    go_ret2
    exact ⟨rfl, HFIN.out _ HB4.out⟩
  · have hd1 : decide (os ≤ SS) = true := decide_eq_true k1
    obtain ⟨q0, q1, q2, q3, q4, q5, q6⟩ := HXX.out U3 HB0.out
    go_enter Try.func55, Try.ntmps55
    go_upto_region 1 with fail
    rw [← hX, ← hU3]
    clear hX hU3
    go_upto_region 4 with (go_at_call 76; refine HRI.out.mono ?_; rintro e w4 ⟨rfl, h1⟩; have HB4 : Hid (Below U3.heap.size U3 w4) := h1; clear h1)
    clear q0 q1 q2 q3 q4 q5 q6
    obtain ⟨q0, q1, q2, q3, q4, q5, q6⟩ := HXX.out w4 HB4.out
    go_wp2_with (go_at_call 96; refine (HKN.out _ HB4.out).mono ?_; rintro e w9 ⟨rfl, h1⟩; have h1 := h1.symm; subst h1)
    go_ret2
    exact ⟨rfl, HFIN.out _ HB4.out⟩
  · have hd1 : decide (os ≤ SS) = false := decide_eq_false (by omega)
    obtain ⟨Z, hZ⟩ : ∃ Z, Z = os - 1 := ⟨_, rfl⟩
    have hs1 : IntKind.i64.wrap (os - 1) = Z := by rw [IntKind.wrap_i64]; omega
    have hs2 : wrap64 (os - 1) = Z := by unfold wrap64; omega
    have hz1 : (SS == Z) = false := by rw [beq_eq_false_iff_ne]; omega
    have hz2 : decide (SS = Z) = false := decide_eq_false (by omega)
    have hz3 : (SS != Z) = true := by rw [bne_iff_ne]; omega
    clear hZ
    obtain ⟨q0, q1, q2, q3, q4, q5, q6⟩ := HXX.out U3 HB0.out
    go_enter Try.func55, Try.ntmps55
    go_upto_region 1 with fail
    rw [← hX, ← hU3]
    clear hX hU3
    go_upto_region 4 with (go_at_call 76; refine HRI.out.mono ?_; rintro e w4 ⟨rfl, h1⟩; have HB4 : Hid (Below U3.heap.size U3 w4) := h1; clear h1)
    clear q0 q1 q2 q3 q4 q5 q6
    obtain ⟨q0, q1, q2, q3, q4, q5, q6⟩ := HXX.out w4 HB4.out
    go_upto_region 8 with (first
        | (go_at_call 97; refine (HHS.out _ HB4.out).mono ?_; rintro e w5 ⟨rfl, h1⟩; have HB5 : Hid (Below U3.heap.size U3 w5) := h1; clear h1)
        | (go_at_call 96; refine (HKN.out _ HB4.out).mono ?_; rintro e w9 ⟨rfl, h1⟩; have h1 := h1.symm; subst h1))
    clear q0 q1 q2 q3 q4 q5 q6
    obtain ⟨q0, q1, q2, q3, q4, q5, q6⟩ := HXX.out w5 HB5.out
    go_wp2
    go_ret2
    exact ⟨rfl, HFIN.out _ HB5.out⟩
  · have hd1 : decide (os ≤ SS) = false := decide_eq_false (by omega)
    have hs1 : IntKind.i64.wrap (os - 1) = SS := by rw [IntKind.wrap_i64]; omega
    have hs2 : wrap64 (os - 1) = SS := by unfold wrap64; omega
    have hnq := hnr k4
    clear k1 k2 k3
    obtain ⟨q0, q1, q2, q3, q4, q5, q6⟩ := HXX.out U3 HB0.out
    go_enter Try.func55, Try.ntmps55
    go_upto_region 1 with fail
    rw [← hX, ← hU3]
    clear hX hU3
    go_upto_region 4 with (go_at_call 76; refine HRI.out.mono ?_; rintro e w4 ⟨rfl, h1⟩; have HB4 : Hid (Below U3.heap.size U3 w4) := h1; clear h1)
    clear q0 q1 q2 q3 q4 q5 q6
    obtain ⟨q0, q1, q2, q3, q4, q5, q6⟩ := HXX.out w4 HB4.out
    go_upto_region 8 with (first
        | (go_at_call 97; refine (HHS.out _ HB4.out).mono ?_; rintro e w5 ⟨rfl, h1⟩; have HB5 : Hid (Below U3.heap.size U3 w5) := h1; clear h1)
        | (go_at_call 96; refine (HKN.out _ HB4.out).mono ?_; rintro e w9 ⟨rfl, h1⟩; have h1 := h1.symm; subst h1))
    clear q0 q1 q2 q3 q4 q5 q6
    obtain ⟨q0, q1, q2, q3, q4, q5, q6⟩ := HXX.out w5 HB5.out
    go_wp2
    go_ret2
    exact ⟨rfl, HFIN.out _ HB5.out⟩
  · have hd1 : decide (os ≤ SS) = false := decide_eq_false (by omega)
    have hd2 : decide (oc ≤ CC) = true := decide_eq_true k5
    have hs1 : IntKind.i64.wrap (os - 1) = SS := by rw [IntKind.wrap_i64]; omega
    have hs2 : wrap64 (os - 1) = SS := by unfold wrap64; omega
    clear k1 k2 k3 k5
    rcases k4 with rfl | ⟨rfl, rfl, rfl⟩
    · obtain ⟨q0, q1, q2, q3, q4, q5, q6⟩ := HXX.out U3 HB0.out
      go_enter Try.func55, Try.ntmps55
      go_upto_region 1 with fail
      rw [← hX, ← hU3]
      clear hX hU3
      go_upto_region 4 with (go_at_call 76; refine HRI.out.mono ?_; rintro e w4 ⟨rfl, h1⟩; have HB4 : Hid (Below U3.heap.size U3 w4) := h1; clear h1)
      clear q0 q1 q2 q3 q4 q5 q6
      obtain ⟨q0, q1, q2, q3, q4, q5, q6⟩ := HXX.out w4 HB4.out
      go_upto_region 8 with (first
          | (go_at_call 97; refine (HHS.out _ HB4.out).mono ?_; rintro e w5 ⟨rfl, h1⟩; have HB5 : Hid (Below U3.heap.size U3 w5) := h1; clear h1)
          | (go_at_call 96; refine (HKN.out _ HB4.out).mono ?_; rintro e w9 ⟨rfl, h1⟩; have h1 := h1.symm; subst h1))
      clear q0 q1 q2 q3 q4 q5 q6
      obtain ⟨q0, q1, q2, q3, q4, q5, q6⟩ := HXX.out w5 HB5.out
      go_wp2
      go_ret2
      exact ⟨rfl, HFIN.out _ HB5.out⟩
    · obtain ⟨q0, q1, q2, q3, q4, q5, q6⟩ := HXX.out U3 HB0.out
      go_enter Try.func55, Try.ntmps55
      go_upto_region 1 with fail
      rw [← hX, ← hU3]
      clear hX hU3
      go_upto_region 4 with (go_at_call 76; refine HRI.out.mono ?_; rintro e w4 ⟨rfl, h1⟩; have HB4 : Hid (Below U3.heap.size U3 w4) := h1; clear h1)
      clear q0 q1 q2 q3 q4 q5 q6
      obtain ⟨q0, q1, q2, q3, q4, q5, q6⟩ := HXX.out w4 HB4.out
      go_upto_region 8 with (first
          | (go_at_call 97; refine (HHS.out _ HB4.out).mono ?_; rintro e w5 ⟨rfl, h1⟩; have HB5 : Hid (Below U3.heap.size U3 w5) := h1; clear h1)
          | (go_at_call 96; refine (HKN.out _ HB4.out).mono ?_; rintro e w9 ⟨rfl, h1⟩; have h1 := h1.symm; subst h1))
      clear q0 q1 q2 q3 q4 q5 q6
      obtain ⟨q0, q1, q2, q3, q4, q5, q6⟩ := HXX.out w5 HB5.out
      go_wp2
      go_ret2
      exact ⟨rfl, HFIN.out _ HB5.out⟩
end Go.Proofs.Ytcbnmahbdcjamaa
