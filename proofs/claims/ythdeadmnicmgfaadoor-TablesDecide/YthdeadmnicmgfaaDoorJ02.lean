/- In one text: NfaD, DfaA, DfaB, DfaC, DfaD, DfaE, NfaEa, DfaM, DfaN, DfaO. -/
import Derived.Test.YthdeadmnicmgfaaDoorJ01
import Derived.Laws.BitsAllLaws
/- The walks of rightCount, rightClasses, rightNode and Right. -/
namespace Go.Proofs.YthdeadmnicmgfaaDoor
open Go.RowKit
set_option linter.unusedVariables false
set_option linter.unusedSimpArgs false

theorem rc_any (op : Int) (k : Nat) (w : World) (hk : (k : Int) ≤ 2600000000000) : Calls Tryd.prog 92 #[.int .i64 op, .int .i64 (k : Int)] w fun e w' => e = .returned (.bool (rcB op k)) ∧ w' = w := by
  have e0 : decide (k = 0) = ((k : Int) == 0) := by rw [Bool.eq_iff_iff]; simp
  have e1 : decide (k = 1) = ((k : Int) == 1) := by rw [Bool.eq_iff_iff]; simp; omega
  have w1 : IntKind.i64.wrap ((k : Int) - 1) = (k : Int) - 1 := by rw [IntKind.wrap_i64]; omega
  have e2 : (((k : Int) - 1) == 0) = ((k : Int) == 1) := by rw [Bool.eq_iff_iff]; simp; omega
  by_cases h0 : op = 0
  · subst h0
    rw [show rcB 0 k = ((k : Int) == 0) by rw [← e0]; rfl]
    clear e0 e1 e2
    go_enter Tryd.func92, Tryd.ntmps92
    go_wp2
    go_ret
    exact ⟨rfl, rfl⟩
  by_cases h1 : op = 1
  · subst h1
    rw [show rcB 1 k = ((k : Int) == 0) by rw [← e0]; rfl]
    clear e0 e1 e2
    go_enter Tryd.func92, Tryd.ntmps92
    go_wp2
    go_ret
    exact ⟨rfl, rfl⟩
  by_cases h2 : op = 2
  · subst h2
    clear e0 e1 e2
    go_enter Tryd.func92, Tryd.ntmps92
    go_wp2
    go_ret
    exact ⟨rfl, rfl⟩
  by_cases h3 : op = 3
  · subst h3
    clear e0 e1 e2
    go_enter Tryd.func92, Tryd.ntmps92
    go_wp2
    go_ret
    exact ⟨rfl, rfl⟩
  obtain ⟨b, hb⟩ : ∃ b, b = ((k : Int) == 1) := ⟨_, rfl⟩
  by_cases h4 : op = 4
  · subst h4
    rw [show rcB 4 k = ((k : Int) == 1) by rw [← e1]; rfl]
    rw [← hb] at e2 ⊢
    have hb' := hb.symm
    clear e0 e1 hb
    go_enter Tryd.func92, Tryd.ntmps92
    go_wp2
    go_ret
    exact ⟨by simp_all, rfl⟩
  by_cases h5 : op = 5
  · subst h5
    rw [show rcB 5 k = ((k : Int) == 1) by rw [← e1]; rfl]
    rw [← hb] at e2 ⊢
    have hb' := hb.symm
    clear e0 e1 hb
    go_enter Tryd.func92, Tryd.ntmps92
    go_wp2
    go_ret
    exact ⟨by simp_all, rfl⟩
  · rw [show rcB op k = false by unfold rcB; simp [h0, h1, h2, h3, h4, h5]]
    clear e0 e1 e2 hb
    go_enter Tryd.func92, Tryd.ntmps92
    go_wp2
    go_ret
    exact ⟨rfl, rfl⟩
/-- Where the look at classes stands. -/
def lastI (l : List Int) : Int := l.foldl (fun _ x => x) (-1)
theorem lastI_snoc (l : List Int) (c : Int) : lastI (l ++ [c]) = c := by simp [lastI]
theorem risB_snoc : (l : List Int) → (a c : Int) → risB a (l ++ [c]) = (risB a l && decide (l.foldl (fun _ x => x) a < c) && decide (c < 24))
  | [], a, c => by simp only [List.nil_append, risB, Bool.and_true, Bool.true_and, List.foldl_nil]; rfl
  | x :: r, a, c => by
    have ih := risB_snoc r x c
    simp only [List.cons_append, risB, ih, Bool.and_assoc, List.foldl_cons]
    rfl
theorem risB_cut : (l m : List Int) → (a : Int) → risB a (l ++ m) = true → risB a l = true
  | [], _, _, _ => rfl
  | x :: r, m, a, h => by
    simp only [List.cons_append, risB, Bool.and_eq_true] at h ⊢
    exact ⟨h.1, risB_cut r m x h.2⟩
set_option maxHeartbeats 2000000 in
theorem rcl_any (op : Int) (cl : List Int) (ca pa : Option Addr) (cc pn pc : Nat) (w : World) (hrd : Rd .i64 w ca cl.length cl) (hm : cl.length ≤ 140737488355328) :
    Calls Tryd.prog 93 #[.agg #[.int .i64 op, .slice ca cl.length cc, .slice pa pn pc]] w fun e w' => e = .returned (.bool (rclB op cl)) ∧ Below w.heap.size w w' := by
  obtain ⟨n, hn⟩ : ∃ n, n = cl.length := ⟨_, rfl⟩
  have hni : (n : Int) ≤ 140737488355328 := by omega
  obtain ⟨wA, hwA⟩ : ∃ wA, wA = w.alloc (.cells #[.int .i64 op, .slice ca n cc, .slice pa pn pc] 38) := ⟨_, rfl⟩
  obtain ⟨H, hH⟩ : ∃ H, H = w.heap.size := ⟨_, rfl⟩
  have HB : Hid (Below w.heap.size w wA) := by rw [hwA]; exact (Below.refl _ w).alloc (Nat.le_refl _) _
  have hbx : wA.heap[H]? = some (.cells #[.int .i64 op, .slice ca n cc, .slice pa pn pc] 38) := by rw [hwA, hH]; exact heap_alloc_new w _
  have c0 : wA.cell? ⟨H, 0, none⟩ = some (.int .i64 op) := cell_of_row wA H 0 _ _ _ hbx
  have c1 : wA.cell? ⟨H, 1, none⟩ = some (.slice ca n cc) := cell_of_row wA H 1 _ _ _ hbx
  have HRD : Hid (Rd .i64 wA ca n cl) := by rw [hn]; exact hrd.later HB.out
  have HN : Hid (n = cl.length) := hn
  rw [← hn]
  by_cases h1 : op = 1
  · subst h1
    rw [show rclB 1 cl = risB (-1) cl from rfl]
    obtain ⟨R, hR⟩ : ∃ R, R = risB (-1) cl := ⟨_, rfl⟩
    have HR : Hid (R = risB (-1) cl) := hR
    rw [← hR]
    clear hR hrd hm hn hbx
    go_enter Tryd.func93, Tryd.ntmps93
    go_upto_region 1 with fail
    rw [← hH, ← hwA]
    clear hH hwA
    go_wp2
    go_loop [3, 16] (fun x3 x16 => ∃ k : Nat, k ≤ n ∧ x16 = .int .i64 k ∧ x3 = .int .i64 (lastI (cl.take k)) ∧ risB (-1) (cl.take k) = true) (fun _ x16 => n - (intOf x16).toNat)
    case atStart => exact ⟨0, by omega, rfl, rfl, rfl⟩
    case round =>
      obtain ⟨k, hk, hx16, hx3, hr⟩ := hrel
      subst hx16 hx3
      have HRI : Hid (risB (-1) (cl.take k) = true) := hr
      clear hr
      by_cases hlt : k < n
      · have hkl : k < cl.length := by rw [← HN.out]; exact hlt
        obtain ⟨b, off, rfl, hcl⟩ := HRD.out.2 (by omega)
        have hcc := hcl k hlt
        obtain ⟨x, hx⟩ : ∃ x, x = cl.getD k 0 := ⟨_, rfl⟩
        have hxk : x = cl[k] := by rw [hx]; simp [hkl]
        obtain ⟨y, hy⟩ : ∃ y, y = lastI (cl.take k) := ⟨_, rfl⟩
        have hsn : risB (-1) (cl.take (k + 1)) = (risB (-1) (cl.take k) && decide (y < x) && decide (x < 24)) := by
          rw [take_snoc cl k hkl, risB_snoc, hy, hxk]; rfl
        have HY : Hid (x = lastI (cl.take (k + 1))) := by
          show _ = _
          rw [take_snoc cl k hkl, lastI_snoc, hxk]
        rw [← hx] at hcc
        rw [← hy]
        rw [HRI.out, Bool.true_and] at hsn
        clear hcl hx hxk hy
        by_cases h2 : x ≤ y
        · have hR : R = false := by
            rw [HR.out]
            cases hh : risB (-1) cl with
            | false => rfl
            | true =>
              have := risB_cut (cl.take (k + 1)) (cl.drop (k + 1)) (-1) (by rw [List.take_append_drop]; exact hh)
              rw [hsn, decide_eq_false (by omega : ¬ y < x)] at this
              cases this
          subst hR
          clear hsn
          go_wp2
          go_ret
          exact ⟨rfl, HB.out⟩
        · by_cases h3 : x < 24
          · have HNX : Hid (risB (-1) (cl.take (k + 1)) = true) := by
              show _ = _
              rw [hsn]; simp; omega
            have h2' : y < x := by omega
            clear hsn h2
            go_wp2
            go_round
            case rel => exact ⟨k + 1, by omega, by go_num, by rw [← HY.out], HNX.out⟩
            case measure => simp [intOf]; omega
          · have hR : R = false := by
              rw [HR.out]
              cases hh : risB (-1) cl with
              | false => rfl
              | true =>
                have := risB_cut (cl.take (k + 1)) (cl.drop (k + 1)) (-1) (by rw [List.take_append_drop]; exact hh)
                rw [hsn, decide_eq_false h3, Bool.and_false] at this
                cases this
            subst hR
            have h2' : y < x := by omega
            have h3' : 24 ≤ x := by omega
            clear hsn h2 h3
            go_wp2
            go_ret
            exact ⟨rfl, HB.out⟩
      · have hR : R = true := by
          rw [HR.out, ← HRI.out, List.take_of_length_le (by rw [← HN.out]; omega)]
        subst hR
        go_wp2
        go_ret
        exact ⟨rfl, HB.out⟩
  · have hr : rclB op cl = ((n : Int) == 0) := by unfold rclB; rw [if_neg h1, Bool.eq_iff_iff]; simp only [decide_eq_true_eq, beq_iff_eq]; omega
    rw [hr]
    clear hr hrd hm hn hbx
    go_enter Tryd.func93, Tryd.ntmps93
    go_upto_region 1 with fail
    rw [← hH, ← hwA]
    clear hH hwA
    go_wp2
    go_ret
    exact ⟨rfl, HB.out⟩
/-- What rightNode tells, and leaves. -/
def RnPost (d : Nat) (n : Nd) (c bn : Nat) (w : World) (e : Ending) (w' : World) : Prop :=
  ∃ (b : Bool) (c' : Nat), e = .returned (.bool b) ∧ w.grownBy w' (some bn) ∧ w'.heap[bn]? = some (.cells #[nI c'] 3) ∧ c' ≤ c ∧ (b = true ↔ (okN d n = true ∧ n.cnt ≤ c)) ∧ (b = true → c' + n.cnt = c)
def RnC (d : Nat) : Prop := ∀ (D : Nat) (n : Nd) (ca pa : Option Addr) (cc pc c bn : Nat) (w0 w : World), InV w0.heap.size w0 D n [.int .i64 n.op, .slice ca n.cl.length cc, .slice pa (toL n.kids).length pc] → Below w0.heap.size w0 w → w0.heap.size ≤ bn → w.heap[bn]? = some (.cells #[nI c] 3) → c ≤ 1000 →
  Calls Tryd.prog 75 #[.agg #[.int .i64 n.op, .slice ca n.cl.length cc, .slice pa (toL n.kids).length pc], .int .i64 (d : Int), .pointer (some ⟨bn, 0, none⟩)] w (RnPost d n c bn w)
set_option maxHeartbeats 8000000 in
theorem rn_up (d : Nat) (hd : d ≤ 1000) (HP : RnC d) : RnC (d + 1) := by
  intro D n ca pa cc pc c bn w0 w hin hb0 hbn hbc hc
  have HPC : Hid (RnC d) := HP
  have HIN : Hid (InV w0.heap.size w0 D n [.int .i64 n.op, .slice ca n.cl.length cc, .slice pa (toL n.kids).length pc]) := hin
  have hbd := hin.bounds
  obtain ⟨hrd, hcl⟩ := hin.classes
  obtain ⟨op, hop⟩ : ∃ op, op = n.op := ⟨_, rfl⟩
  obtain ⟨cn, hcn⟩ : ∃ cn, cn = n.cl.length := ⟨_, rfl⟩
  obtain ⟨K, hK⟩ : ∃ K, K = (toL n.kids).length := ⟨_, rfl⟩
  have HCNT : Hid (n.cnt = 1 + cntL (toL n.kids)) := cnt_eq n
  obtain ⟨T, hT⟩ : ∃ T : Int, T = ((d + 1 : Nat) : Int) := ⟨_, rfl⟩
  have hTb : (T == 0) = false := by rw [beq_eq_false_iff_ne]; omega
  have hT0 : ¬ T = 0 := by omega
  have hTw : IntKind.i64.wrap (T - 1) = T - 1 := by rw [IntKind.wrap_i64]; omega
  have HT : Hid (T - 1 = (d : Int)) := by show _ = _; omega
  have hKi : (K : Int) ≤ 2600000000000 := by omega
  obtain ⟨wA, hwA⟩ : ∃ wA, wA = w.alloc (.cells #[.int .i64 op, .slice ca cn cc, .slice pa K pc] 38) := ⟨_, rfl⟩
  obtain ⟨H, hH⟩ : ∃ H, H = w.heap.size := ⟨_, rfl⟩
  have HB : Hid (Below w.heap.size w wA) := by rw [hwA]; exact (Below.refl _ w).alloc (Nat.le_refl _) _
  have HA0 : Hid (Below w0.heap.size w0 wA) := hb0.trans (HB.out.mono hb0.size)
  have hbx : wA.heap[H]? = some (.cells #[.int .i64 op, .slice ca cn cc, .slice pa K pc] 38) := by rw [hwA, hH]; exact heap_alloc_new w _
  have HBX : Hid (wA.heap[H]? = some (.cells #[.int .i64 op, .slice ca cn cc, .slice pa K pc] 38)) := hbx
  have hbcA : wA.heap[bn]? = some (.cells #[nI c] 3) := (HB.out.block bn (Array.getElem?_eq_some_iff.1 hbc).1).trans hbc
  have HBC : Hid (wA.heap[bn]? = some (.cells #[nI c] 3)) := hbcA
  have hbl : bn < w.heap.size := (Array.getElem?_eq_some_iff.1 hbc).1
  have HG0 : Hid (w.grownBy wA (some bn)) := ⟨HB.out.os, HB.out.tape, HB.out.output, HB.out.size, fun k hk _ => HB.out.block k hk⟩
  have HFALSE : Hid (∀ V : World, w.grownBy V (some bn) → V.heap[bn]? = some (.cells #[nI c] 3) → ¬ (okN (d + 1) n = true ∧ n.cnt ≤ c) → RnPost (d + 1) n c bn w (.returned (.bool false)) V) := fun V h1 h2 h3 => ⟨false, c, rfl, h1, h2, Nat.le_refl _, ⟨fun h => (by cases h), fun h => absurd h h3⟩, fun h => (by cases h)⟩
  have hOK : okN (d + 1) n = (rcB n.op (toL n.kids).length && rclB n.op n.cl && (toL n.kids).all (okN d)) := rfl
  have e0 : wA.cell? ⟨H, 0, none⟩ = some (.int .i64 op) := cell_of_row wA H 0 _ _ _ hbx
  have e1 : wA.cell? ⟨H, 1, none⟩ = some (.slice ca cn cc) := cell_of_row wA H 1 _ _ _ hbx
  have e2 : wA.cell? ⟨H, 2, none⟩ = some (.slice pa K pc) := cell_of_row wA H 2 _ _ _ hbx
  have eb : wA.cell? ⟨bn, 0, none⟩ = some (.int .i64 (c : Int)) := cell_of_row wA bn 0 _ _ _ hbcA
  have HRC : Hid (Calls Tryd.prog 92 #[.int .i64 op, .int .i64 (K : Int)] wA fun e w' => e = .returned (.bool (rcB op K)) ∧ w' = wA) := rc_any op K wA hKi
  have HRL : Hid (Calls Tryd.prog 93 #[.agg #[.int .i64 op, .slice ca cn cc, .slice pa K pc]] wA fun e w' => e = .returned (.bool (rclB op n.cl)) ∧ Below wA.heap.size wA w') := by
    rw [hcn]; exact rcl_any op n.cl ca pa cc K pc wA (hrd.later HA0.out) hcl
  rw [← hop, ← hcn, ← hK, ← hT]
  rw [← hop, ← hK] at hOK
  have HOK : Hid (okN (d + 1) n = (rcB op K && rclB op n.cl && (toL n.kids).all (okN d))) := hOK
  have HK : Hid (K = (toL n.kids).length) := hK
  have HCN : Hid (1 ≤ n.cnt) := by rw [HCNT.out]; show 1 ≤ _; omega
  have hci : (c : Int) ≤ 1000 := by omega
  have HBB : Hid (w0.heap.size ≤ bn ∧ bn < w.heap.size ∧ H = w.heap.size ∧ Below w0.heap.size w0 w) := ⟨hbn, hbl, hH, hb0⟩
  clear HP hin hb0 hbn hbc hbd hrd hcl hop hcn hK hT hbx hbcA hbl hOK hc
  go_enter Tryd.func75, Tryd.ntmps75
  go_upto_region 1 with fail
  rw [← hH, ← hwA]
  clear hH hwA
  by_cases hc0 : c = 0
  · have HFN : Hid (RnPost (d + 1) n c bn w (.returned (.bool false)) wA) := HFALSE.out wA HG0.out HBC.out (fun h => by have := h.2; have := HCN.out; omega)
    have hcb : ((c : Int) == 0) = true := by rw [hc0]; rfl
    have hci0 : (c : Int) = 0 := by omega
    subst hc0
    go_wp2
    go_ret
    exact HFN.out
  have hcb : ((c : Int) == 0) = false := by rw [beq_eq_false_iff_ne]; omega
  have hci0 : ¬ (c : Int) = 0 := by omega
  go_wp2_with fail
  refine HRC.out.mono ?_
  rintro e w1 ⟨rfl, hw1⟩
  obtain rfl : wA = w1 := hw1.symm
  clear HRC
  obtain ⟨x, hx⟩ : ∃ x, x = rcB op K := ⟨_, rfl⟩
  rw [← hx]
  rw [← hx] at HOK
  cases x with
  | false =>
    have HFN : Hid (RnPost (d + 1) n c bn w (.returned (.bool false)) wA) := HFALSE.out wA HG0.out HBC.out (fun h => by rw [HOK.out] at h; cases h.1)
    clear hx
    go_wp2
    go_ret
    exact HFN.out
  | true =>
    clear hx
    go_wp2_with fail
    refine HRL.out.mono ?_
    rintro e w1 ⟨rfl, hb1⟩
    obtain ⟨y, hy⟩ : ∃ y, y = rclB op n.cl := ⟨_, rfl⟩
    rw [← hy]
    rw [← hy] at HOK
    have HB1 : Hid (Below wA.heap.size wA w1) := hb1
    have HG1 : Hid (w.grownBy w1 (some bn)) := grown_all HG0.out ⟨hb1.os, hb1.tape, hb1.output, hb1.size, fun k hk _ => hb1.block k hk⟩
    have HBC1 : Hid (w1.heap[bn]? = some (.cells #[nI c] 3)) := (hb1.block bn (Array.getElem?_eq_some_iff.1 HBC.out).1).trans HBC.out
    have HBX1 : Hid (w1.heap[H]? = some (.cells #[.int .i64 op, .slice ca cn cc, .slice pa K pc] 38)) := (hb1.block H (Array.getElem?_eq_some_iff.1 HBX.out).1).trans HBX.out
    clear hb1 HRL e0 e1 e2 eb
    cases y with
    | false =>
      have HFN : Hid (RnPost (d + 1) n c bn w (.returned (.bool false)) w1) := HFALSE.out w1 HG1.out HBC1.out (fun h => by rw [HOK.out] at h; cases h.1)
      clear hy
      go_wp2
      go_ret
      exact HFN.out
    | true =>
      clear hy
      have eb : w1.cell? ⟨bn, 0, none⟩ = some (.int .i64 (c : Int)) := cell_of_row w1 bn 0 _ _ _ HBC1.out
      have ef : w1.frozen? ⟨bn, 0, none⟩ = false := Lib.frozen_of_heap HBC1.out 0
      obtain ⟨c1, hc1⟩ : ∃ c1 : Nat, c1 + 1 = c := ⟨c - 1, by omega⟩
      have hcw : IntKind.i64.wrap ((c : Int) - 1) = (c1 : Int) := by rw [IntKind.wrap_i64]; omega
      have hcs : (c : Int) - 1 = (c1 : Int) := by omega
      obtain ⟨w2, hw2⟩ : ∃ w2, w2 = w1.setCell ⟨bn, 0, none⟩ (.int .i64 (c1 : Int)) := ⟨_, rfl⟩
      have HB2 : Hid (w2.heap[bn]? = some (.cells #[nI c1] 3)) := by rw [hw2]; exact heap_setCell_same w1 bn 0 _ _ _ HBC1.out
      have HG12 : Hid (w1.grownBy w2 (some bn)) := by rw [hw2]; exact grown_cell w1 bn 0 _
      have HG2 : Hid (w.grownBy w2 (some bn)) := grown_all HG1.out HG12.out
      have hneH : bn ≠ H := by have := HBB.out; omega
      have HBX2 : Hid (w2.heap[H]? = some (.cells #[.int .i64 op, .slice ca cn cc, .slice pa K pc] 38)) := (HG12.out.block H (Array.getElem?_eq_some_iff.1 HBX1.out).1 (fun e => hneH (Option.some.inj e).symm)).trans HBX1.out
      have HC1 : Hid (c1 + 1 = c) := hc1
      clear hc1
      go_upto_region 4 with fail
      rw [← hw2]
      clear hw2 eb ef hcw hcs
      have f2 : w2.cell? ⟨H, 2, none⟩ = some (.slice pa K pc) := cell_of_row w2 H 2 _ _ _ HBX2.out
      go_wp2
      go_loopw [39] (fun x39 wr => ∃ k ck : Nat, k ≤ K ∧ x39 = .int .i64 k ∧ w.grownBy wr (some bn) ∧ wr.heap[bn]? = some (.cells #[nI ck] 3) ∧ ck + 1 + cntL ((toL n.kids).take k) = c ∧ ((toL n.kids).take k).all (okN d) = true) (fun x39 _ => K - (intOf x39).toNat)
      case atStart => exact ⟨0, c1, by omega, rfl, HG2.out, HB2.out, by have := HC1.out; simp [cntL]; omega, rfl⟩
      case round =>
        obtain ⟨k, ck, hk, hx39, hg, hbk, hck, hall⟩ := hrel
        subst hx39
        have HG : Hid (w.grownBy wr (some bn)) := hg
        have HBK : Hid (wr.heap[bn]? = some (.cells #[nI ck] 3)) := hbk
        have HCK : Hid (ck + 1 + cntL ((toL n.kids).take k) = c) := hck
        have HALL : Hid (((toL n.kids).take k).all (okN d) = true) := hall
        clear hg hbk hck hall f2
        by_cases hlt : k < K
        · have hkn : k < (toL n.kids).length := by rw [← HK.out]; exact hlt
          have HW0 : Hid (Below w0.heap.size w0 wr) := by
            obtain ⟨q1, q2, q3, q4⟩ := HBB.out
            exact q4.grown HG.out q4.size (fun k hk => by cases hk; exact q1)
          obtain ⟨b, off, xa, xc, ya, yc, d', hpa, hkid, _, c0', c1', c2'⟩ := HIN.out.kid k hkn
          subst hpa
          have c0 := upC HW0.out c0'
          have c1 := upC HW0.out c1'
          have c2 := upC HW0.out c2'
          have HV : Hid (∀ W1 : World, Below wr.heap.size wr W1 → Calls Tryd.prog 75 #[.agg #[.int .i64 (toL n.kids)[k].op, .slice xa (toL n.kids)[k].cl.length xc, .slice ya (toL (toL n.kids)[k].kids).length yc], .int .i64 (T - 1), .pointer (some ⟨bn, 0, none⟩)] W1 (RnPost d (toL n.kids)[k] ck bn W1)) := by
            intro W1 hW1
            rw [HT.out]
            refine HPC.out d' (toL n.kids)[k] xa ya xc yc ck bn w0 W1 hkid (HW0.out.trans (hW1.mono HW0.out.size)) HBB.out.1 ((hW1.block bn (Array.getElem?_eq_some_iff.1 HBK.out).1).trans HBK.out) ?_
            have := HCK.out
            omega
          obtain ⟨xo, hxo⟩ : ∃ xo, xo = (toL n.kids)[k].op := ⟨_, rfl⟩
          obtain ⟨xn, hxn⟩ : ∃ xn, xn = (toL n.kids)[k].cl.length := ⟨_, rfl⟩
          obtain ⟨xk, hxk⟩ : ∃ xk, xk = (toL (toL n.kids)[k].kids).length := ⟨_, rfl⟩
          rw [← hxo] at c0 HV
          rw [← hxn] at c1 HV
          rw [← hxk] at c2 HV
          obtain ⟨W1, hW1⟩ : ∃ W1, W1 = wr.alloc (.cells #[.int .i64 xo, .slice xa xn xc, .slice ya xk yc] 38) := ⟨_, rfl⟩
          have HBW : Hid (Below wr.heap.size wr W1) := by rw [hW1]; exact (Below.refl _ wr).alloc (Nat.le_refl _) _
          have HCC := HV.out W1 HBW.out
          have HC : Hid (Calls Tryd.prog 75 #[.agg #[.int .i64 xo, .slice xa xn xc, .slice ya xk yc], .int .i64 (T - 1), .pointer (some ⟨bn, 0, none⟩)] W1 (RnPost d (toL n.kids)[k] ck bn W1)) := HCC
          clear HCC HV hkid c0' c1' c2' hxo hxn hxk
          go_wp2_with fail
          rw [← hW1]
          clear hW1 c0 c1 c2
          refine HC.out.mono ?_
          rintro e w3 ⟨b3, c3, rfl, hg3, hb3, hc3, hi3, ht3⟩
          have HG3 : Hid (w.grownBy w3 (some bn)) := grown_all (grown_all HG.out ⟨HBW.out.os, HBW.out.tape, HBW.out.output, HBW.out.size, fun k hk _ => HBW.out.block k hk⟩) hg3
          have HB3 : Hid (w3.heap[bn]? = some (.cells #[nI c3] 3)) := hb3
          have HI3 : Hid ((b3 = true ↔ (okN d (toL n.kids)[k] = true ∧ (toL n.kids)[k].cnt ≤ ck)) ∧ (b3 = true → c3 + (toL n.kids)[k].cnt = ck) ∧ c3 ≤ ck) := ⟨hi3, ht3, hc3⟩
          clear hg3 hb3 hc3 hi3 ht3 HC
          cases b3 with
          | false =>
            have HFN : Hid (RnPost (d + 1) n c bn w (.returned (.bool false)) w3) := by
              refine ⟨false, c3, rfl, HG3.out, HB3.out, by have := HI3.out.2.2; have := HCK.out; omega, ⟨fun h => (by cases h), fun h => ?_⟩, fun h => (by cases h)⟩
              exfalso
              have h1 := h.1
              rw [HOK.out] at h1
              simp only [Bool.true_and, List.all_eq_true] at h1
              have h2 := h1 _ (List.getElem_mem hkn)
              have h3 := cntL_take (toL n.kids) k hkn
              have h4 := HCNT.out
              have h5 := HCK.out
              have h6 := h.2
              have h7 := HI3.out.1.2 ⟨h2, by omega⟩
              cases h7
            go_wp2
            go_ret
            exact HFN.out
          | true =>
            have HNX : Hid (c3 + 1 + cntL ((toL n.kids).take (k + 1)) = c ∧ ((toL n.kids).take (k + 1)).all (okN d) = true) := by
              have h1 := HI3.out.2.1 rfl
              have h2 := HCK.out
              refine ⟨?_, ?_⟩
              · rw [take_snoc _ k hkn, cntL_snoc]; omega
              · rw [take_snoc _ k hkn, List.all_append, HALL.out]
                simp [(HI3.out.1.1 rfl).1]
            go_wp2
            go_roundw
            case rel => exact ⟨k + 1, c3, by omega, by go_num, HG3.out, HB3.out, HNX.out.1, HNX.out.2⟩
            case measure => simp [intOf]; omega
        · obtain rfl : k = K := by omega
          have HFN : Hid (RnPost (d + 1) n c bn w (.returned (.bool true)) wr) := by
            have ht : (toL n.kids).take k = toL n.kids := List.take_of_length_le (by rw [← HK.out]; exact Nat.le_refl _)
            have h1 := HCK.out
            have h2 := HALL.out
            rw [ht] at h1 h2
            have h3 := HCNT.out
            refine ⟨true, ck, rfl, HG.out, HBK.out, by omega, ⟨fun _ => ⟨by rw [HOK.out, h2]; rfl, by omega⟩, fun _ => rfl⟩, fun _ => by omega⟩
          go_wp2
          go_ret
          exact HFN.out
theorem rn_zero : RnC 0 := by
  intro D n ca pa cc pc c bn w0 w hin hb0 hbn hbc hc
  have HFN : Hid (∀ V, Below w.heap.size w V → RnPost 0 n c bn w (.returned (.bool false)) V) := fun V hV => ⟨false, c, rfl, ⟨hV.os, hV.tape, hV.output, hV.size, fun k hk _ => hV.block k hk⟩, (hV.block bn (Array.getElem?_eq_some_iff.1 hbc).1).trans hbc, Nat.le_refl _, ⟨fun h => (by cases h), fun h => (by simp [okN] at h)⟩, fun h => (by cases h)⟩
  clear hin hb0 hbn hbc hc
  go_enter Tryd.func75, Tryd.ntmps75
  go_wp2
  go_ret
  exact HFN.out _ ((Below.refl _ w).alloc (Nat.le_refl _) _)
theorem rn_any : (d : Nat) → d ≤ 1000 → RnC d
  | 0, _ => rn_zero
  | d + 1, h => rn_up d (by omega) (rn_any d (by omega))
set_option maxHeartbeats 2000000 in
theorem right_any (D : Nat) (n : Nd) (ca pa : Option Addr) (cc pc : Nat) (w : World) (hin : InV w.heap.size w D n [.int .i64 n.op, .slice ca n.cl.length cc, .slice pa (toL n.kids).length pc]) :
    Calls Tryd.prog 43 #[.agg #[.int .i64 n.op, .slice ca n.cl.length cc, .slice pa (toL n.kids).length pc]] w fun e w' => e = .returned (.bool n.ok) ∧ Below w.heap.size w w' := by
  obtain ⟨op, hop⟩ : ∃ op, op = n.op := ⟨_, rfl⟩
  obtain ⟨cn, hcn⟩ : ∃ cn, cn = n.cl.length := ⟨_, rfl⟩
  obtain ⟨K, hK⟩ : ∃ K, K = (toL n.kids).length := ⟨_, rfl⟩
  obtain ⟨W0, hW0⟩ : ∃ W0, W0 = (w.alloc (.cells #[.int .i64 op, .slice ca cn cc, .slice pa K pc] 38)).alloc (.cells #[.int .i64 400] 3) := ⟨_, rfl⟩
  obtain ⟨H, hH⟩ : ∃ H, H = w.heap.size := ⟨_, rfl⟩
  have HB0 : Hid (Below w.heap.size w W0) := by rw [hW0]; exact ((Below.refl _ w).alloc (Nat.le_refl _) _).alloc (by simp) _
  have hax : W0.heap[H]? = some (.cells #[.int .i64 op, .slice ca cn cc, .slice pa K pc] 38) := by
    rw [hW0, hH]
    exact (((Below.refl _ (w.alloc _)).alloc (Nat.le_refl _) _).block w.heap.size (by simp)).trans (heap_alloc_new w _)
  have hbx : W0.heap[H + 1]? = some (.cells #[nI 400] 3) := by
    have := heap_alloc_new (w.alloc (.cells #[.int .i64 op, .slice ca cn cc, .slice pa K pc] 38)) (.cells #[.int .i64 400] 3)
    rw [show (w.alloc (.cells #[.int .i64 op, .slice ca cn cc, .slice pa K pc] 38)).heap.size = w.heap.size + 1 by simp] at this
    rw [hW0, hH]
    exact this
  have HC : Hid (Calls Tryd.prog 75 #[.agg #[.int .i64 op, .slice ca cn cc, .slice pa K pc], .int .i64 32, .pointer (some ⟨H + 1, 0, none⟩)] W0 (RnPost 32 n 400 (H + 1) W0)) := by
    rw [hop, hcn, hK]
    exact rn_any 32 (by omega) D n ca pa cc pc 400 (H + 1) w W0 hin HB0.out (by omega) hbx (by omega)
  have e0 : W0.cell? ⟨H, 0, none⟩ = some (.int .i64 op) := cell_of_row W0 H 0 _ _ _ hax
  have e1 : W0.cell? ⟨H, 1, none⟩ = some (.slice ca cn cc) := cell_of_row W0 H 1 _ _ _ hax
  have e2 : W0.cell? ⟨H, 2, none⟩ = some (.slice pa K pc) := cell_of_row W0 H 2 _ _ _ hax
  have HFIN : Hid (∀ (b : Bool) (w' : World), W0.grownBy w' (some (H + 1)) → Below w.heap.size w w') := fun b w' hg => HB0.out.grown hg HB0.out.size (fun k hk => by cases hk; omega)
  rw [← hop, ← hcn, ← hK]
  clear hin hop hcn hK hax hbx
  go_enter Tryd.func43, Tryd.ntmps43
  go_upto_region 2 with fail
  rw [← hH, ← hW0]
  clear hH hW0
  go_wp2_with fail
  refine HC.out.mono ?_
  rintro e w1 ⟨b, c', rfl, hg, _, _, hi, _⟩
  have HE : Hid (b = n.ok ∧ Below w.heap.size w w1) := ⟨by rw [Bool.eq_iff_iff, hi]; unfold Nd.ok; simp, HFIN.out b w1 hg⟩
  clear hg hi e0 e1 e2 HC
  go_wp2
  go_ret
  exact ⟨by rw [HE.out.1]; rfl, HE.out.2⟩
end Go.Proofs.YthdeadmnicmgfaaDoor

/- The walk of below: are all classes of an expression below a number? -/
namespace Go.Proofs.YthdeadmnicmgfaaDoor
open Go.RowKit
set_option linter.unusedVariables false
set_option linter.unusedSimpArgs false

def belF (K : Int) : Fo → Bool
  | .nil => true
  | .node _ _ a k r => (a.2.all (fun c => decide (c < K)) && belF K k) && belF K r
/-- Are all classes of an expression below a number? -/
def Nd.bel (K : Int) (n : Nd) : Bool := n.cl.all (fun c => decide (c < K)) && belF K n.kids
theorem belF_all (K : Int) : (f : Fo) → belF K f = (toL f).all (Nd.bel K)
  | .nil => rfl
  | .node _ _ a k r => by simp only [belF, toL, List.all_cons, belF_all K r]; rfl
theorem bel_eq (K : Int) (n : Nd) : n.bel K = (n.cl.all (fun c => decide (c < K)) && (toL n.kids).all (Nd.bel K)) := by
  show (n.cl.all (fun c => decide (c < K)) && belF K n.kids) = _
  rw [belF_all]
def BlC (d : Nat) : Prop := ∀ (n : Nd) (ca pa : Option Addr) (cc pc : Nat) (C : Int) (w0 w : World), InV w0.heap.size w0 d n [.int .i64 n.op, .slice ca n.cl.length cc, .slice pa (toL n.kids).length pc] → Below w0.heap.size w0 w →
  Calls Tryd.prog 52 #[.agg #[.int .i64 n.op, .slice ca n.cl.length cc, .slice pa (toL n.kids).length pc], .int .i64 C] w fun e w' => e = .returned (.bool (n.bel C)) ∧ Below w.heap.size w w'
set_option maxHeartbeats 8000000 in
theorem bl_up (d : Nat) (HP : ∀ d', d' < d → BlC d') : BlC d := by
  intro n ca pa cc pc C w0 w hin hb0
  have HPC : Hid (∀ d', d' < d → BlC d') := HP
  have HIN : Hid (InV w0.heap.size w0 d n [.int .i64 n.op, .slice ca n.cl.length cc, .slice pa (toL n.kids).length pc]) := hin
  have hbd := hin.bounds
  obtain ⟨hrd, hcl⟩ := hin.classes
  obtain ⟨op, hop⟩ : ∃ op, op = n.op := ⟨_, rfl⟩
  obtain ⟨cn, hcn⟩ : ∃ cn, cn = n.cl.length := ⟨_, rfl⟩
  obtain ⟨K, hK⟩ : ∃ K, K = (toL n.kids).length := ⟨_, rfl⟩
  have hKi : (K : Int) ≤ 2600000000000 := by omega
  have hci : (cn : Int) ≤ 140737488355328 := by omega
  obtain ⟨wA, hwA⟩ : ∃ wA, wA = w.alloc (.cells #[.int .i64 op, .slice ca cn cc, .slice pa K pc] 38) := ⟨_, rfl⟩
  obtain ⟨H, hH⟩ : ∃ H, H = w.heap.size := ⟨_, rfl⟩
  have HB : Hid (Below w.heap.size w wA) := by rw [hwA]; exact (Below.refl _ w).alloc (Nat.le_refl _) _
  have HA0 : Hid (Below w0.heap.size w0 wA) := hb0.trans (HB.out.mono hb0.size)
  have hbx : wA.heap[H]? = some (.cells #[.int .i64 op, .slice ca cn cc, .slice pa K pc] 38) := by rw [hwA, hH]; exact heap_alloc_new w _
  have HBX : Hid (wA.heap[H]? = some (.cells #[.int .i64 op, .slice ca cn cc, .slice pa K pc] 38)) := hbx
  have e1 : wA.cell? ⟨H, 1, none⟩ = some (.slice ca cn cc) := cell_of_row wA H 1 _ _ _ hbx
  have e2 : wA.cell? ⟨H, 2, none⟩ = some (.slice pa K pc) := cell_of_row wA H 2 _ _ _ hbx
  have HRD : Hid (Rd .i64 wA ca cn n.cl) := by rw [hcn]; exact hrd.later HA0.out
  obtain ⟨R, hR⟩ : ∃ R, R = n.bel C := ⟨_, rfl⟩
  have HR : Hid (R = (n.cl.all (fun c => decide (c < C)) && (toL n.kids).all (Nd.bel C))) := by show _ = _; rw [hR, bel_eq]
  have HK : Hid (K = (toL n.kids).length) := hK
  have HCN : Hid (cn = n.cl.length) := hcn
  rw [← hop, ← hcn, ← hK, ← hR]
  clear HP hin hbd hrd hcl hop hcn hK hR hbx
  go_enter Tryd.func52, Tryd.ntmps52
  go_upto_region 1 with fail
  rw [← hH, ← hwA]
  clear hH hwA
  go_wp2
  go_loop [12] (fun x12 => ∃ k : Nat, k ≤ cn ∧ x12 = .int .i64 k ∧ (n.cl.take k).all (fun c => decide (c < C)) = true) (fun x12 => cn - (intOf x12).toNat)
  case atStart => exact ⟨0, by omega, rfl, rfl⟩
  case round =>
    obtain ⟨k, hk, hx12, hall⟩ := hrel
    subst hx12
    have HALL : Hid ((n.cl.take k).all (fun c => decide (c < C)) = true) := hall
    clear hall
    by_cases hlt : k < cn
    · have hkl : k < n.cl.length := by rw [← HCN.out]; exact hlt
      obtain ⟨b, off, rfl, hcl⟩ := HRD.out.2 (by omega)
      have hcc := hcl k hlt
      obtain ⟨x, hx⟩ : ∃ x, x = n.cl.getD k 0 := ⟨_, rfl⟩
      have hxk : x = n.cl[k] := by rw [hx]; simp [hkl]
      rw [← hx] at hcc
      have HX : Hid (x = n.cl[k]) := hxk
      clear hcl hx hxk
      by_cases h2 : C ≤ x
      · have hR : R = false := by
          rw [HR.out]
          have : n.cl.all (fun c => decide (c < C)) = false := by
            rw [List.all_eq_false]
            exact ⟨n.cl[k], List.getElem_mem hkl, by rw [← HX.out]; simp; omega⟩
          rw [this]; rfl
        subst hR
        go_wp2
        go_ret
        exact ⟨rfl, HB.out⟩
      · have h2' : x < C := by omega
        have HNX : Hid ((n.cl.take (k + 1)).all (fun c => decide (c < C)) = true) := by
          show _ = _
          rw [take_snoc n.cl k hkl, List.all_append, HALL.out, ← HX.out]
          simp [h2']
        clear h2
        go_wp2
        go_round
        case rel => exact ⟨k + 1, by omega, by go_num, HNX.out⟩
        case measure => simp [intOf]; omega
    · have HCL : Hid (n.cl.all (fun c => decide (c < C)) = true) := by
        show _ = _
        rw [← HALL.out, List.take_of_length_le (by rw [← HCN.out]; omega)]
      clear HALL
      go_wp2
      go_loopw [23] (fun x23 wr => ∃ k : Nat, k ≤ K ∧ x23 = .int .i64 k ∧ Below w.heap.size w wr ∧ ((toL n.kids).take k).all (Nd.bel C) = true) (fun x23 _ => K - (intOf x23).toNat)
      case atStart => exact ⟨0, by omega, rfl, HB.out, rfl⟩
      case round =>
        obtain ⟨k, hk, hx23, hbw, hall⟩ := hrel
        subst hx23
        have HBW0 : Hid (Below w.heap.size w wr) := hbw
        have HALL : Hid (((toL n.kids).take k).all (Nd.bel C) = true) := hall
        have HW0 : Hid (Below w0.heap.size w0 wr) := hb0.trans (hbw.mono hb0.size)
        clear hbw hall
        by_cases hlt : k < K
        · have hkn : k < (toL n.kids).length := by rw [← HK.out]; exact hlt
          obtain ⟨b, off, xa, xc, ya, yc, d', hpa, hkid, hd', c0', c1', c2'⟩ := HIN.out.kid k hkn
          subst hpa
          have c0 := upC HW0.out c0'
          have c1 := upC HW0.out c1'
          have c2 := upC HW0.out c2'
          have HV : Hid (∀ W1 : World, Below wr.heap.size wr W1 → Calls Tryd.prog 52 #[.agg #[.int .i64 (toL n.kids)[k].op, .slice xa (toL n.kids)[k].cl.length xc, .slice ya (toL (toL n.kids)[k].kids).length yc], .int .i64 C] W1 fun e w' => e = .returned (.bool ((toL n.kids)[k].bel C)) ∧ Below W1.heap.size W1 w') := by
            intro W1 hW1
            exact HPC.out d' (by omega) (toL n.kids)[k] xa ya xc yc C w0 W1 hkid (HW0.out.trans (hW1.mono HW0.out.size))
          obtain ⟨xo, hxo⟩ : ∃ xo, xo = (toL n.kids)[k].op := ⟨_, rfl⟩
          obtain ⟨xn, hxn⟩ : ∃ xn, xn = (toL n.kids)[k].cl.length := ⟨_, rfl⟩
          obtain ⟨xk, hxk⟩ : ∃ xk, xk = (toL (toL n.kids)[k].kids).length := ⟨_, rfl⟩
          obtain ⟨z, hz⟩ : ∃ z, z = (toL n.kids)[k].bel C := ⟨_, rfl⟩
          rw [← hxo] at c0 HV
          rw [← hxn] at c1 HV
          rw [← hxk] at c2 HV
          rw [← hz] at HV
          have HZ : Hid (z = (toL n.kids)[k].bel C) := hz
          obtain ⟨W1, hW1⟩ : ∃ W1, W1 = wr.alloc (.cells #[.int .i64 xo, .slice xa xn xc, .slice ya xk yc] 38) := ⟨_, rfl⟩
          have HBW : Hid (Below wr.heap.size wr W1) := by rw [hW1]; exact (Below.refl _ wr).alloc (Nat.le_refl _) _
          have HCC := HV.out W1 HBW.out
          have HC : Hid (Calls Tryd.prog 52 #[.agg #[.int .i64 xo, .slice xa xn xc, .slice ya xk yc], .int .i64 C] W1 fun e w' => e = .returned (.bool z) ∧ Below W1.heap.size W1 w') := HCC
          clear HCC HV hkid c0' c1' c2' hxo hxn hxk hz hd'
          go_wp2_with fail
          rw [← hW1]
          clear hW1 c0 c1 c2
          refine HC.out.mono ?_
          rintro e w3 ⟨rfl, hb3⟩
          have HB3 : Hid (Below w.heap.size w w3) := HBW0.out.trans ((HBW.out.trans (hb3.mono HBW.out.size)).mono HBW0.out.size)
          clear hb3 HC
          cases z with
          | false =>
            have hR : R = false := by
              rw [HR.out]
              have : (toL n.kids).all (Nd.bel C) = false := by
                rw [List.all_eq_false]
                exact ⟨(toL n.kids)[k], List.getElem_mem hkn, by rw [← HZ.out]; simp⟩
              rw [this, Bool.and_false]
            subst hR
            go_wp2
            go_ret
            exact ⟨rfl, HB3.out⟩
          | true =>
            have HNX : Hid (((toL n.kids).take (k + 1)).all (Nd.bel C) = true) := by
              show _ = _
              rw [take_snoc _ k hkn, List.all_append, HALL.out]
              simp [← HZ.out]
            go_wp2
            go_roundw
            case rel => exact ⟨k + 1, by omega, by go_num, HB3.out, HNX.out⟩
            case measure => simp [intOf]; omega
        · have hR : R = true := by
            have h1 := HALL.out
            rw [List.take_of_length_le (by rw [← HK.out]; omega)] at h1
            rw [HR.out, HCL.out, h1]; rfl
          subst hR
          go_wp2
          go_ret
          exact ⟨rfl, HBW0.out⟩
theorem bl_any : (d : Nat) → BlC d := fun d => Nat.strongRecOn d fun d ih => bl_up d ih
/-- below tells whether all classes of an expression are below a number. -/
theorem below_any (D : Nat) (n : Nd) (ca pa : Option Addr) (cc pc : Nat) (C : Int) (w : World) (hin : InV w.heap.size w D n [.int .i64 n.op, .slice ca n.cl.length cc, .slice pa (toL n.kids).length pc]) :
    Calls Tryd.prog 52 #[.agg #[.int .i64 n.op, .slice ca n.cl.length cc, .slice pa (toL n.kids).length pc], .int .i64 C] w fun e w' => e = .returned (.bool (n.bel C)) ∧ Below w.heap.size w w' :=
  bl_any D n ca pa cc pc C w w hin (Below.refl _ w)
end Go.Proofs.YthdeadmnicmgfaaDoor

/- The walk of allowed: may there be a machine of these? -/
namespace Go.Proofs.YthdeadmnicmgfaaDoor
open Go.RowKit
set_option linter.unusedVariables false
set_option linter.unusedSimpArgs false

/-- Expressions in a row in memory, each with whether it must fit all that is ahead. -/
def XRow (B : Nat) (w : World) (D : Nat) (a : Option Addr) (xs : List (Nd × Bool)) : Prop := 0 < xs.length → ∃ b off, a = some ⟨b, off, none⟩ ∧ ∀ i (hi : i < xs.length), ∃ us, InV B w D xs[i].1 us ∧ (∀ j v, us[j]? = some v → w.cell? ⟨b, off + i * 4 + j, none⟩ = some v) ∧ w.cell? ⟨b, off + i * 4 + 3, none⟩ = some (.bool xs[i].2)
theorem XRow.later {B : Nat} {w w' : World} {D : Nat} {a : Option Addr} {xs : List (Nd × Bool)} (h : XRow B w D a xs) (hb : Below w.heap.size w w') : XRow B w' D a xs := by
  intro hp
  obtain ⟨b, off, e, hk⟩ := h hp
  refine ⟨b, off, e, fun i hi => ?_⟩
  obtain ⟨us, h1, h2, h3⟩ := hk i hi
  exact ⟨us, h1.later hb D, fun j v hv => upC hb (h2 j v hv), upC hb h3⟩
/-- May there be a machine of these? -/
def alwB (K : Int) (xs : List (Nd × Bool)) : Bool := decide (1 ≤ K) && decide (K ≤ 24) && decide (xs.length ≤ 64) && xs.all (fun x => x.1.ok && x.1.bel K)
set_option maxHeartbeats 8000000 in
theorem allowed_any (D : Nat) (K : Int) (xs : List (Nd × Bool)) (a : Option Addr) (cap : Nat) (w : World) (hx : XRow w.heap.size w D a xs) (hl : xs.length ≤ 2600000000000) :
    Calls Tryd.prog 33 #[.int .i64 K, .slice a xs.length cap] w fun e w' => e = .returned (.bool (alwB K xs)) ∧ Below w.heap.size w w' := by
  obtain ⟨n, hn⟩ : ∃ n, n = xs.length := ⟨_, rfl⟩
  have HN : Hid (n = xs.length) := hn
  have HX : Hid (XRow w.heap.size w D a xs) := hx
  have hni : (n : Int) ≤ 2600000000000 := by omega
  obtain ⟨R, hR⟩ : ∃ R, R = alwB K xs := ⟨_, rfl⟩
  have HR : Hid (R = (decide (1 ≤ K) && decide (K ≤ 24) && decide (n ≤ 64) && xs.all (fun x => x.1.ok && x.1.bel K))) := by show _ = _; rw [hR, hn]; rfl
  rw [← hn, ← hR]
  clear hn hx hl hR
  by_cases h1 : K < 1
  · have hR : R = false := by rw [HR.out, decide_eq_false (by omega : ¬ 1 ≤ K)]; rfl
    subst hR
    go_enter Tryd.func33, Tryd.ntmps33
    go_wp2
    go_ret
    exact ⟨rfl, Below.refl _ w⟩
  by_cases h2 : 24 < K
  · have hR : R = false := by rw [HR.out, decide_eq_false (by omega : ¬ K ≤ 24)]; simp
    subst hR
    have h1' : 1 ≤ K := by omega
    clear h1
    go_enter Tryd.func33, Tryd.ntmps33
    go_wp2
    go_ret
    exact ⟨rfl, Below.refl _ w⟩
  have h1' : 1 ≤ K := by omega
  have h2' : K ≤ 24 := by omega
  clear h1 h2
  by_cases h3 : 64 < n
  · have hR : R = false := by rw [HR.out, decide_eq_false (by omega : ¬ n ≤ 64)]; simp
    subst hR
    go_enter Tryd.func33, Tryd.ntmps33
    go_wp2
    go_ret
    exact ⟨rfl, Below.refl _ w⟩
  have h3' : n ≤ 64 := by omega
  have HR' : Hid (R = xs.all (fun x => x.1.ok && x.1.bel K)) := by show _ = _; rw [HR.out]; simp [h1', h2', h3']
  clear h3 HR
  go_enter Tryd.func33, Tryd.ntmps33
  go_wp2
  go_loopw [20] (fun x20 wr => ∃ k : Nat, k ≤ n ∧ x20 = .int .i64 k ∧ Below w.heap.size w wr ∧ (xs.take k).all (fun x => x.1.ok && x.1.bel K) = true) (fun x20 _ => n - (intOf x20).toNat)
  case atStart => exact ⟨0, by omega, rfl, Below.refl _ w, rfl⟩
  case round =>
    obtain ⟨k, hk, hx20, hbw, hall⟩ := hrel
    subst hx20
    have HBW0 : Hid (Below w.heap.size w wr) := hbw
    have HALL : Hid ((xs.take k).all (fun x => x.1.ok && x.1.bel K) = true) := hall
    clear hbw hall
    by_cases hlt : k < n
    · have hkn : k < xs.length := by rw [← HN.out]; exact hlt
      obtain ⟨b, off, hpa, hks⟩ := HX.out (by omega)
      obtain ⟨us, hin, hcs, hcb⟩ := hks k hkn
      subst hpa
      obtain ⟨xa, xc, ya, yc, rfl⟩ := hin.three
      have c0 := upC HBW0.out (hcs 0 _ rfl)
      have c1 := upC HBW0.out (hcs 1 _ rfl)
      have c2 := upC HBW0.out (hcs 2 _ rfl)
      have c3 := upC HBW0.out hcb
      rw [Nat.add_zero] at c0
      obtain ⟨X, hX⟩ : ∃ X, X = xs[k] := ⟨_, rfl⟩
      have HXK : Hid (X = xs[k]) := hX
      rw [← hX] at hin c0 c1 c2 c3
      obtain ⟨xo, hxo⟩ : ∃ xo, xo = X.1.op := ⟨_, rfl⟩
      obtain ⟨xn, hxn⟩ : ∃ xn, xn = X.1.cl.length := ⟨_, rfl⟩
      obtain ⟨xk, hxk⟩ : ∃ xk, xk = (toL X.1.kids).length := ⟨_, rfl⟩
      obtain ⟨xw, hxw⟩ : ∃ xw, xw = X.2 := ⟨_, rfl⟩
      obtain ⟨W1, hW1⟩ : ∃ W1, W1 = wr.alloc (.cells #[.int .i64 xo, .slice xa xn xc, .slice ya xk yc, .bool xw] 40) := ⟨_, rfl⟩
      obtain ⟨H, hH⟩ : ∃ H, H = wr.heap.size := ⟨_, rfl⟩
      have HBW : Hid (Below wr.heap.size wr W1) := by rw [hW1]; exact (Below.refl _ wr).alloc (Nat.le_refl _) _
      have hbx : W1.heap[H]? = some (.cells #[.int .i64 xo, .slice xa xn xc, .slice ya xk yc, .bool xw] 40) := by rw [hW1, hH]; exact heap_alloc_new wr _
      have HBX : Hid (W1.heap[H]? = some (.cells #[.int .i64 xo, .slice xa xn xc, .slice ya xk yc, .bool xw] 40)) := hbx
      have HB1 : Hid (Below w.heap.size w W1) := HBW0.out.trans (HBW.out.mono HBW0.out.size)
      have HRT : Hid (Calls Tryd.prog 43 #[.agg #[.int .i64 xo, .slice xa xn xc, .slice ya xk yc]] W1 fun e w' => e = .returned (.bool X.1.ok) ∧ Below W1.heap.size W1 w') := by
        rw [hxo, hxn, hxk]
        exact right_any D X.1 xa ya xc yc W1 ((hin.later HB1.out D).base HB1.out.size D)
      have HBL : Hid (∀ W2 : World, Below W1.heap.size W1 W2 → Calls Tryd.prog 52 #[.agg #[.int .i64 xo, .slice xa xn xc, .slice ya xk yc], .int .i64 K] W2 fun e w' => e = .returned (.bool (X.1.bel K)) ∧ Below W2.heap.size W2 w') := by
        intro W2 hW2
        have h := HB1.out.trans (hW2.mono HB1.out.size)
        rw [hxo, hxn, hxk]
        exact below_any D X.1 xa ya xc yc K W2 ((hin.later h D).base h.size D)
      rw [← hxo] at c0
      rw [← hxn] at c1
      rw [← hxk] at c2
      rw [← hxw] at c3
      have e0 : W1.cell? ⟨H, 0, none⟩ = some (.int .i64 xo) := cell_of_row W1 H 0 _ _ _ hbx
      have e1 : W1.cell? ⟨H, 1, none⟩ = some (.slice xa xn xc) := cell_of_row W1 H 1 _ _ _ hbx
      have e2 : W1.cell? ⟨H, 2, none⟩ = some (.slice ya xk yc) := cell_of_row W1 H 2 _ _ _ hbx
      clear hks hcs hcb hin hX hxo hxn hxk hxw hbx
      go_upto_region 6 with fail
      rw [← hH, ← hW1]
      clear hH hW1 c0 c1 c2 c3
      go_wp2_with fail
      refine HRT.out.mono ?_
      rintro e w2 ⟨rfl, hb2⟩
      have HB2 : Hid (Below W1.heap.size W1 w2) := hb2
      have HBW2 : Hid (Below w.heap.size w w2) := HB1.out.trans (hb2.mono HB1.out.size)
      have hbx2 : w2.heap[H]? = some (.cells #[.int .i64 xo, .slice xa xn xc, .slice ya xk yc, .bool xw] 40) := (hb2.block H (Array.getElem?_eq_some_iff.1 HBX.out).1).trans HBX.out
      have f0 : w2.cell? ⟨H, 0, none⟩ = some (.int .i64 xo) := cell_of_row w2 H 0 _ _ _ hbx2
      have f1 : w2.cell? ⟨H, 1, none⟩ = some (.slice xa xn xc) := cell_of_row w2 H 1 _ _ _ hbx2
      have f2 : w2.cell? ⟨H, 2, none⟩ = some (.slice ya xk yc) := cell_of_row w2 H 2 _ _ _ hbx2
      obtain ⟨z, hz⟩ : ∃ z, z = X.1.ok := ⟨_, rfl⟩
      have HZ : Hid (z = X.1.ok) := hz
      rw [← hz]
      clear HRT hb2 hbx2 e0 e1 e2 hz
      cases z with
      | false =>
        have hR : R = false := by
          rw [HR'.out, List.all_eq_false]
          exact ⟨xs[k], List.getElem_mem hkn, by rw [← HXK.out, ← HZ.out]; simp⟩
        subst hR
        go_wp2
        go_ret
        exact ⟨rfl, HBW2.out⟩
      | true =>
        have HC : Hid (Calls Tryd.prog 52 #[.agg #[.int .i64 xo, .slice xa xn xc, .slice ya xk yc], .int .i64 K] w2 fun e w' => e = .returned (.bool (X.1.bel K)) ∧ Below w2.heap.size w2 w') := HBL.out w2 HB2.out
        clear HBL
        go_wp2_with fail
        refine HC.out.mono ?_
        rintro e w3 ⟨rfl, hb3⟩
        have HB3 : Hid (Below w.heap.size w w3) := HBW2.out.trans (hb3.mono HBW2.out.size)
        obtain ⟨y, hy⟩ : ∃ y, y = X.1.bel K := ⟨_, rfl⟩
        have HY : Hid (y = X.1.bel K) := hy
        rw [← hy]
        clear HC hb3 f0 f1 f2 hy
        cases y with
        | false =>
          have hR : R = false := by
            rw [HR'.out, List.all_eq_false]
            exact ⟨xs[k], List.getElem_mem hkn, by rw [← HXK.out, ← HY.out]; simp⟩
          subst hR
          go_wp2
          go_ret
          exact ⟨rfl, HB3.out⟩
        | true =>
          have HNX : Hid ((xs.take (k + 1)).all (fun x => x.1.ok && x.1.bel K) = true) := by
            show _ = _
            rw [take_snoc _ k hkn, List.all_append, HALL.out, ← HXK.out]
            simp [← HZ.out, ← HY.out]
          go_wp2
          go_roundw
          case rel => exact ⟨k + 1, by omega, by go_num, HB3.out, HNX.out⟩
          case measure => simp [intOf]; omega
    · have hR : R = true := by
        have h1 := HALL.out
        rw [List.take_of_length_le (by rw [← HN.out]; omega)] at h1
        rw [HR'.out, h1]
      subst hR
      go_wp2
      go_ret
      exact ⟨rfl, HBW0.out⟩
end Go.Proofs.YthdeadmnicmgfaaDoor

/- Sets of nodes in memory: the walks of only, and, join. -/
namespace Go.Proofs.YthdeadmnicmgfaaDoor
open Go.RowKit
set_option linter.unusedVariables false
set_option linter.unusedSimpArgs false

/-- A word of a set. -/
def nw (S i : Nat) : Nat := S / 2 ^ (64 * i) % 2 ^ 64
def nwV (S i : Nat) : Value := .int .u64 (nw S i : Int)
def nsA (S : Nat) : Array Value := #[nwV S 0, nwV S 1, nwV S 2, nwV S 3, nwV S 4, nwV S 5, nwV S 6]
def mixA (f : Nat → Value) : Array Value := #[f 0, f 1, f 2, f 3, f 4, f 5, f 6]
theorem mixA_get (f : Nat → Value) {i : Nat} (h : i < 7) : (mixA f)[i]? = some (f i) := by
  match i, h with
  | 0, _ => rfl
  | 1, _ => rfl
  | 2, _ => rfl
  | 3, _ => rfl
  | 4, _ => rfl
  | 5, _ => rfl
  | 6, _ => rfl
theorem mixA_set (f : Nat → Value) (v : Value) {i : Nat} (h : i < 7) : (mixA f).setIfInBounds i v = mixA fun j => if j = i then v else f j := by
  match i, h with
  | 0, _ => rfl
  | 1, _ => rfl
  | 2, _ => rfl
  | 3, _ => rfl
  | 4, _ => rfl
  | 5, _ => rfl
  | 6, _ => rfl
theorem nsA_mix (S : Nat) : nsA S = mixA (nwV S) := rfl
theorem nw_lt (S i : Nat) : nw S i < 18446744073709551616 := by
  unfold nw
  exact Nat.mod_lt _ (by decide)
theorem nw_bit (S i p : Nat) : (nw S i).testBit p = (decide (p < 64) && S.testBit (64 * i + p)) := by
  unfold nw
  rw [Nat.testBit_mod_two_pow, Nat.testBit_div_two_pow, Nat.add_comm]
theorem nw_and (S T i : Nat) : nw (S &&& T) i = nw S i &&& nw T i := by
  apply Nat.eq_of_testBit_eq
  intro p
  simp only [nw_bit, Nat.testBit_and]
  cases decide (p < 64) <;> simp
theorem nw_or (S T i : Nat) : nw (S ||| T) i = nw S i ||| nw T i := by
  apply Nat.eq_of_testBit_eq
  intro p
  simp only [nw_bit, Nat.testBit_or]
  cases decide (p < 64) <;> simp
theorem nw_one (k i : Nat) : nw (2 ^ k) i = if i = k / 64 then 2 ^ (k % 64) else 0 := by
  apply Nat.eq_of_testBit_eq
  intro p
  rw [nw_bit, Nat.testBit_two_pow]
  split
  · rename_i h
    rw [Nat.testBit_two_pow, Bool.eq_iff_iff]
    simp
    omega
  · rename_i h
    rw [Nat.zero_testBit, Bool.eq_false_iff]
    simp
    omega
theorem below_put {w wr : World} {H i : Nat} (v : Value) (h : Below w.heap.size w wr) (hH : w.heap.size ≤ H) : Below w.heap.size w (wr.setCell ⟨H, i, none⟩ v) := h.grown (grown_cell wr H i v) h.size (fun b hb => by cases hb; exact hH)
set_option maxHeartbeats 2000000 in
theorem and_any (S T : Nat) (w : World) : Calls Tryd.prog 85 #[.agg (nsA S), .agg (nsA T)] w fun e w' => e = .returned (.agg (nsA (S &&& T))) ∧ Below w.heap.size w w' := by
  obtain ⟨wA, hwA⟩ : ∃ wA, wA = ((w.alloc (.cells (nsA S) 115)).alloc (.cells (nsA T) 115)).alloc (.cells (mixA fun _ => .int .u64 0) 115) := ⟨_, rfl⟩
  obtain ⟨H, hH⟩ : ∃ H, H = w.heap.size := ⟨_, rfl⟩
  have HB : Hid (Below w.heap.size w wA) := by rw [hwA]; exact (((Below.refl _ w).alloc (Nat.le_refl _) _).alloc (by simp) _).alloc (by simp; omega) _
  have HH : Hid (H = w.heap.size) := hH
  have HA0 : Hid (wA.heap[H]? = some (.cells (nsA S) 115)) := by
    show _ = _
    rw [hwA, hH]
    exact ((((Below.refl _ (w.alloc _)).alloc (Nat.le_refl _) _).alloc (by simp) _).block w.heap.size (by simp)).trans (heap_alloc_new w _)
  have HA1 : Hid (wA.heap[H + 1]? = some (.cells (nsA T) 115)) := by
    show _ = _
    rw [hwA, hH]
    have := heap_alloc_new (w.alloc (.cells (nsA S) 115)) (.cells (nsA T) 115)
    rw [show (w.alloc (.cells (nsA S) 115)).heap.size = w.heap.size + 1 by simp] at this
    exact (((Below.refl _ ((w.alloc _).alloc _)).alloc (Nat.le_refl _) _).block (w.heap.size + 1) (by simp)).trans this
  have HA2 : Hid (wA.heap[H + 1 + 1]? = some (.cells (mixA fun _ => .int .u64 0) 115)) := by
    show _ = _
    rw [hwA, hH]
    have := heap_alloc_new ((w.alloc (.cells (nsA S) 115)).alloc (.cells (nsA T) 115)) (.cells (mixA fun _ => .int .u64 0) 115)
    rw [show ((w.alloc (.cells (nsA S) 115)).alloc (.cells (nsA T) 115)).heap.size = w.heap.size + 1 + 1 by simp] at this
    exact this
  obtain ⟨VS, hVS⟩ : ∃ VS, VS = Value.agg (nsA S) := ⟨_, rfl⟩
  obtain ⟨VT, hVT⟩ : ∃ VT, VT = Value.agg (nsA T) := ⟨_, rfl⟩
  go_enter Tryd.func85, Tryd.ntmps85
  go_upto_region 1 with fail
  rw [← hH, ← hVS, ← hVT]
  show Code.wp _ _ _ _ (((w.alloc (.cells (nsA S) 115)).alloc (.cells (nsA T) 115)).alloc (.cells (mixA fun _ => .int .u64 0) 115))
  rw [← hwA]
  clear hwA hH hVS hVT
  go_wp2
  go_loopw [6] (fun x6 wr => ∃ k : Nat, k ≤ 7 ∧ x6 = .int .i64 k ∧ Below w.heap.size w wr ∧ wr.heap[H]? = some (.cells (mixA fun j => if j < k then nwV (S &&& T) j else nwV S j) 115) ∧ wr.heap[H + 1]? = some (.cells (nsA T) 115) ∧ wr.heap[H + 1 + 1]? = some (.cells (mixA fun _ => .int .u64 0) 115)) (fun x6 _ => 7 - (intOf x6).toNat)
  case atStart => exact ⟨0, by omega, rfl, HB.out, HA0.out, HA1.out, HA2.out⟩
  case round =>
    obtain ⟨k, hk, hx6, hbw, h0, h1, h2⟩ := hrel
    subst hx6
    have HBW : Hid (Below w.heap.size w wr) := hbw
    have HW0 : Hid (wr.heap[H]? = some (.cells (mixA fun j => if j < k then nwV (S &&& T) j else nwV S j) 115)) := h0
    have HW1 : Hid (wr.heap[H + 1]? = some (.cells (nsA T) 115)) := h1
    have HW2 : Hid (wr.heap[H + 1 + 1]? = some (.cells (mixA fun _ => .int .u64 0) 115)) := h2
    clear hbw h0 h1 h2
    by_cases hlt : k < 7
    · have c0 : wr.cell? ⟨H, k, none⟩ = some (.int .u64 (nw S k : Int)) := by
        rw [cell_of_row wr H k _ _ _ HW0.out, mixA_get _ hlt]; simp [nwV]
      have c1 : wr.cell? ⟨H + 1, k, none⟩ = some (.int .u64 (nw T k : Int)) := by
        rw [cell_of_row wr (H + 1) k _ _ _ HW1.out, nsA_mix, mixA_get _ hlt]; rfl
      have hf : wr.frozen? ⟨H, k, none⟩ = false := Lib.frozen_of_heap HW0.out k
      have hki : (k : Int) < 7 := by omega
      have hbt : bits .and .u64 (nw S k : Int) (nw T k : Int) = (nw (S &&& T) k : Int) := by rw [u64_and_nat _ _ (nw_lt S k) (nw_lt T k), nw_and]
      obtain ⟨w2, hw2⟩ : ∃ w2, w2 = (wr.setCell ⟨H, k, none⟩ (.int .u64 (nw (S &&& T) k : Int))).drew := ⟨_, rfl⟩
      have HB2 : Hid (Below w.heap.size w w2) := by
        rw [hw2]
        exact (HBW.out.grown (grown_cell wr H k _) HBW.out.size (fun b hb => by cases hb; rw [HH.out]; exact Nat.le_refl _)).drew
      have HX0 : Hid (w2.heap[H]? = some (.cells (mixA fun j => if j < k + 1 then nwV (S &&& T) j else nwV S j) 115)) := by
        show _ = _
        rw [hw2]
        refine (heap_setCell_same wr H k _ _ _ HW0.out).trans ?_
        congr 2
        rw [mixA_set _ _ hlt]
        congr 1
        funext j
        by_cases h1 : j = k
        · rw [if_pos h1, if_pos (by omega), h1]; rfl
        · rw [if_neg h1]
          by_cases h2 : j < k
          · rw [if_pos h2, if_pos (by omega)]
          · rw [if_neg h2, if_neg (by omega)]
      have HX1 : Hid (w2.heap[H + 1]? = some (.cells (nsA T) 115)) := by
        show _ = _
        rw [hw2]
        exact ((grown_cell wr H k (.int .u64 (nw (S &&& T) k : Int))).block (H + 1) (Array.getElem?_eq_some_iff.1 HW1.out).1 (fun e => by have := Option.some.inj e; omega)).trans HW1.out
      have HX2 : Hid (w2.heap[H + 1 + 1]? = some (.cells (mixA fun _ => .int .u64 0) 115)) := by
        show _ = _
        rw [hw2]
        exact ((grown_cell wr H k (.int .u64 (nw (S &&& T) k : Int))).block (H + 1 + 1) (Array.getElem?_eq_some_iff.1 HW2.out).1 (fun e => by have := Option.some.inj e; omega)).trans HW2.out
      go_wp2_with fail
      go_region
      rw [← hw2]
      clear hw2 hbt c0 c1 hf
      go_wp2
      go_roundw
      case rel => exact ⟨k + 1, by omega, by go_num, HB2.out, HX0.out, HX1.out, HX2.out⟩
      case measure => simp [intOf]; omega
    · obtain rfl : k = 7 := by omega
      have g0 : wr.heap[H]? = some (.cells (nsA (S &&& T)) 115) := HW0.out
      have c0 : wr.cell? ⟨H, 0, none⟩ = some (.int .u64 (nw (S &&& T) 0 : Int)) := cell_of_row wr H 0 _ _ _ g0
      have c1 : wr.cell? ⟨H, 1, none⟩ = some (.int .u64 (nw (S &&& T) 1 : Int)) := cell_of_row wr H 1 _ _ _ g0
      have c2 : wr.cell? ⟨H, 2, none⟩ = some (.int .u64 (nw (S &&& T) 2 : Int)) := cell_of_row wr H 2 _ _ _ g0
      have c3 : wr.cell? ⟨H, 3, none⟩ = some (.int .u64 (nw (S &&& T) 3 : Int)) := cell_of_row wr H 3 _ _ _ g0
      have c4 : wr.cell? ⟨H, 4, none⟩ = some (.int .u64 (nw (S &&& T) 4 : Int)) := cell_of_row wr H 4 _ _ _ g0
      have c5 : wr.cell? ⟨H, 5, none⟩ = some (.int .u64 (nw (S &&& T) 5 : Int)) := cell_of_row wr H 5 _ _ _ g0
      have c6 : wr.cell? ⟨H, 6, none⟩ = some (.int .u64 (nw (S &&& T) 6 : Int)) := cell_of_row wr H 6 _ _ _ g0
      clear g0
      have d0 : wr.cell? ⟨H + 1 + 1, 0, none⟩ = some (.int .u64 0) := cell_of_row wr (H + 1 + 1) 0 _ _ _ HW2.out
      have f0 : wr.frozen? ⟨H + 1 + 1, 0, none⟩ = false := Lib.frozen_of_heap HW2.out 0
      have d1 : wr.cell? ⟨H + 1 + 1, 1, none⟩ = some (.int .u64 0) := cell_of_row wr (H + 1 + 1) 1 _ _ _ HW2.out
      have f1 : wr.frozen? ⟨H + 1 + 1, 1, none⟩ = false := Lib.frozen_of_heap HW2.out 1
      have d2 : wr.cell? ⟨H + 1 + 1, 2, none⟩ = some (.int .u64 0) := cell_of_row wr (H + 1 + 1) 2 _ _ _ HW2.out
      have f2 : wr.frozen? ⟨H + 1 + 1, 2, none⟩ = false := Lib.frozen_of_heap HW2.out 2
      have d3 : wr.cell? ⟨H + 1 + 1, 3, none⟩ = some (.int .u64 0) := cell_of_row wr (H + 1 + 1) 3 _ _ _ HW2.out
      have f3 : wr.frozen? ⟨H + 1 + 1, 3, none⟩ = false := Lib.frozen_of_heap HW2.out 3
      have d4 : wr.cell? ⟨H + 1 + 1, 4, none⟩ = some (.int .u64 0) := cell_of_row wr (H + 1 + 1) 4 _ _ _ HW2.out
      have f4 : wr.frozen? ⟨H + 1 + 1, 4, none⟩ = false := Lib.frozen_of_heap HW2.out 4
      have d5 : wr.cell? ⟨H + 1 + 1, 5, none⟩ = some (.int .u64 0) := cell_of_row wr (H + 1 + 1) 5 _ _ _ HW2.out
      have f5 : wr.frozen? ⟨H + 1 + 1, 5, none⟩ = false := Lib.frozen_of_heap HW2.out 5
      have d6 : wr.cell? ⟨H + 1 + 1, 6, none⟩ = some (.int .u64 0) := cell_of_row wr (H + 1 + 1) 6 _ _ _ HW2.out
      have f6 : wr.frozen? ⟨H + 1 + 1, 6, none⟩ = false := Lib.frozen_of_heap HW2.out 6
      have hHw : w.heap.size ≤ H + 1 + 1 := by rw [HH.out]; omega
      have HFIN := fun v0 v1 v2 v3 v4 v5 v6 => below_put (i := 6) v6 (below_put (i := 5) v5 (below_put (i := 4) v4 (below_put (i := 3) v3 (below_put (i := 2) v2 (below_put (i := 1) v1 (below_put (i := 0) v0 HBW.out hHw) hHw) hHw) hHw) hHw) hHw) hHw
      clear hHw
      go_wp2_with fail
      refine bodyPost_ret (v := .agg (nsA (S &&& T))) ?_ rfl ⟨rfl, HFIN _ _ _ _ _ _ _⟩
      rw [results_cell_one rfl]
      go_simp
      rfl
end Go.Proofs.YthdeadmnicmgfaaDoor

/- The walk of join: what is in one set of nodes is put to another, in memory. -/
namespace Go.Proofs.YthdeadmnicmgfaaDoor
open Go.RowKit
set_option linter.unusedVariables false
set_option linter.unusedSimpArgs false

/-- A set of nodes that lies among cells. -/
def NsIn (cs : Array Value) (o : Nat) (S : Nat) : Prop := ∀ i, i < 7 → cs[o + i]? = some (nwV S i)
/-- What join leaves of the cells: the set, and all else. -/
structure JnP (cs cs' : Array Value) (o k S T : Nat) : Prop where
  size : cs'.size = cs.size
  done : ∀ i, i < k → cs'[o + i]? = some (nwV (S ||| T) i)
  todo : ∀ i, k ≤ i → i < 7 → cs'[o + i]? = some (nwV S i)
  rest : ∀ j, j < o ∨ o + 7 ≤ j → cs'[j]? = cs[j]?
theorem JnP.step {cs cs' : Array Value} {o k S T : Nat} (h : JnP cs cs' o k S T) (hk : k < 7) : JnP cs (cs'.setIfInBounds (o + k) (nwV (S ||| T) k)) o (k + 1) S T := by
  have hl : o + k < cs'.size := (Array.getElem?_eq_some_iff.1 (h.todo k (Nat.le_refl _) hk)).1
  refine ⟨by simp [h.size], fun i hi => ?_, fun i h1 h2 => ?_, fun j hj => ?_⟩
  · by_cases he : i = k
    · subst he
      simp [Array.getElem?_setIfInBounds, hl]
    · rw [Array.getElem?_setIfInBounds, if_neg (by omega)]
      exact h.done i (by omega)
  · rw [Array.getElem?_setIfInBounds, if_neg (by omega)]
    exact h.todo i (by omega) h2
  · rw [Array.getElem?_setIfInBounds, if_neg (by omega)]
    exact h.rest j hj
set_option maxHeartbeats 2000000 in
theorem join_any (S T : Nat) (w : World) (bp op bq oq : Nat) (cs ds : Array Value) (t u : TypeId) (fq : Nat × Nat) (hne : bp ≠ bq) (hp : w.heap[bp]? = some (.cells cs t)) (hq : w.heap[bq]? = some (.cells ds u fq)) (hS : NsIn cs op S) (hT : NsIn ds oq T) :
    Calls Tryd.prog 87 #[.pointer (some ⟨bp, op, none⟩), .pointer (some ⟨bq, oq, none⟩)] w fun e w' => e = .returned (.tuple #[]) ∧ w.grownBy w' (some bp) ∧ ∃ cs', w'.heap[bp]? = some (.cells cs' t) ∧ JnP cs cs' op 7 S T := by
  have HP : Hid (w.heap[bp]? = some (.cells cs t)) := hp
  have HQ : Hid (w.heap[bq]? = some (.cells ds u fq)) := hq
  have HS : Hid (NsIn cs op S) := hS
  have HT : Hid (NsIn ds oq T) := hT
  have HNE : Hid (bp ≠ bq) := hne
  clear hp hq hS hT hne
  go_enter Tryd.func87, Tryd.ntmps87
  go_wp2
  go_loopw [7] (fun x7 wr => ∃ k : Nat, ∃ cs' : Array Value, k ≤ 7 ∧ x7 = .int .i64 k ∧ w.grownBy wr (some bp) ∧ wr.heap[bp]? = some (.cells cs' t) ∧ wr.heap[bq]? = some (.cells ds u fq) ∧ JnP cs cs' op k S T) (fun x7 _ => 7 - (intOf x7).toNat)
  case atStart => exact ⟨0, cs, by omega, rfl, ⟨rfl, rfl, rfl, Nat.le_refl _, fun _ _ _ => rfl⟩, HP.out, HQ.out, ⟨rfl, fun i hi => by omega, fun i _ h => HS.out i h, fun _ _ => rfl⟩⟩
  case round =>
    obtain ⟨k, cs', hk, hx7, hg, h0, h1, hj⟩ := hrel
    subst hx7
    have HG : Hid (w.grownBy wr (some bp)) := hg
    have HW0 : Hid (wr.heap[bp]? = some (.cells cs' t)) := h0
    have HW1 : Hid (wr.heap[bq]? = some (.cells ds u fq)) := h1
    have HJ : Hid (JnP cs cs' op k S T) := hj
    clear hg h0 h1 hj
    by_cases hlt : k < 7
    · obtain ⟨wD, hwD⟩ : ∃ wD, wD = wr.drew := ⟨_, rfl⟩
      have hD0 : wD.heap[bp]? = some (.cells cs' t) := by rw [hwD]; exact HW0.out
      have hD1 : wD.heap[bq]? = some (.cells ds u fq) := by rw [hwD]; exact HW1.out
      have c0 : wD.cell? ⟨bp, op + k, none⟩ = some (.int .u64 (nw S k : Int)) := (cell_of_row wD bp (op + k) _ _ _ hD0).trans (HJ.out.todo k (Nat.le_refl _) hlt)
      have c1 : wr.cell? ⟨bq, oq + k, none⟩ = some (.int .u64 (nw T k : Int)) := (cell_of_row wr bq (oq + k) _ _ _ HW1.out).trans (HT.out k hlt)
      have hf : wD.frozen? ⟨bp, op + k, none⟩ = false := Lib.frozen_of_heap hD0 (op + k)
      have hki : (k : Int) < 7 := by omega
      have hbt : bits .or .u64 (nw S k : Int) (nw T k : Int) = (nw (S ||| T) k : Int) := by rw [u64_or_nat _ _ (nw_lt S k) (nw_lt T k), nw_or]
      obtain ⟨w2, hw2⟩ : ∃ w2, w2 = (wD.setCell ⟨bp, op + k, none⟩ (.int .u64 (nw (S ||| T) k : Int))).drew := ⟨_, rfl⟩
      have HG2 : Hid (w.grownBy w2 (some bp)) := by
        have hb := (Below.refl wr.heap.size wr).drew
        have hb2 := (Below.refl (wD.setCell ⟨bp, op + k, none⟩ (.int .u64 (nw (S ||| T) k : Int))).heap.size (wD.setCell ⟨bp, op + k, none⟩ (.int .u64 (nw (S ||| T) k : Int)))).drew
        rw [hw2]
        refine grown_all (grown_all (grown_all HG.out ?_) (grown_cell wD bp (op + k) _)) ⟨hb2.os, hb2.tape, hb2.output, hb2.size, fun b hb _ => hb2.block b hb⟩
        rw [hwD]
        exact ⟨hb.os, hb.tape, hb.output, hb.size, fun b hb' _ => hb.block b hb'⟩
      have HX0 : Hid (w2.heap[bp]? = some (.cells (cs'.setIfInBounds (op + k) (nwV (S ||| T) k)) t)) := by
        show _ = _
        rw [hw2]
        exact heap_setCell_same wD bp (op + k) _ _ _ hD0
      have HX1 : Hid (w2.heap[bq]? = some (.cells ds u fq)) := by
        show _ = _
        rw [hw2]
        exact ((grown_cell wD bp (op + k) (.int .u64 (nw (S ||| T) k : Int))).block bq (Array.getElem?_eq_some_iff.1 hD1).1 (fun e => HNE.out (Option.some.inj e).symm)).trans hD1
      clear hD0 hD1
      go_wp2_with fail
      go_region
      rw [← hwD]
      clear hwD c1
      go_wp2_with fail
      go_region
      rw [← hw2]
      clear hw2 hbt c0 hf
      go_wp2
      go_roundw
      case rel => exact ⟨k + 1, _, by omega, by go_num, HG2.out, HX0.out, HX1.out, HJ.out.step hlt⟩
      case measure => simp [intOf]; omega
    · obtain rfl : k = 7 := by omega
      go_wp2
      go_end0
      exact ⟨rfl, HG.out, cs', HW0.out, HJ.out⟩
end Go.Proofs.YthdeadmnicmgfaaDoor

/- The walk of only: the set of one node. -/
namespace Go.Proofs.YthdeadmnicmgfaaDoor
open Go.RowKit
set_option linter.unusedVariables false
set_option linter.unusedSimpArgs false

set_option maxRecDepth 8000 in
set_option maxHeartbeats 2000000 in
theorem only_any (k : Nat) (hk : k < 448) (w : World) : Calls Tryd.prog 105 #[.int .i64 (k : Int)] w fun e w' => e = .returned (.agg (nsA (2 ^ k))) ∧ Below w.heap.size w w' := by
  obtain ⟨q, hq⟩ : ∃ q, q = k / 64 := ⟨_, rfl⟩
  obtain ⟨r, hr⟩ : ∃ r, r = k % 64 := ⟨_, rfl⟩
  have hq7 : q < 7 := by omega
  have hr64 : r < 64 := by omega
  have hki : (k : Int) < 448 := by omega
  have hqi : (k : Int) / 64 = (q : Int) := by omega
  have hri : (k : Int) % 64 = (r : Int) := by omega
  obtain ⟨wA, hwA⟩ : ∃ wA, wA = (w.alloc (.cells (mixA fun _ => .int .u64 0) 115)).alloc (.cells (mixA fun _ => .int .u64 0) 115) := ⟨_, rfl⟩
  obtain ⟨H, hH⟩ : ∃ H, H = w.heap.size := ⟨_, rfl⟩
  have HH : Hid (H = w.heap.size) := hH
  have HB : Hid (Below w.heap.size w wA) := by rw [hwA]; exact ((Below.refl _ w).alloc (Nat.le_refl _) _).alloc (by simp) _
  have HA0 : Hid (wA.heap[H]? = some (.cells (mixA fun _ => .int .u64 0) 115)) := by
    show _ = _
    rw [hwA, hH]
    exact (((Below.refl _ (w.alloc _)).alloc (Nat.le_refl _) _).block w.heap.size (by simp)).trans (heap_alloc_new w _)
  have HA1 : Hid (wA.heap[H + 1]? = some (.cells (mixA fun _ => .int .u64 0) 115)) := by
    show _ = _
    rw [hwA, hH]
    have := heap_alloc_new (w.alloc (.cells (mixA fun _ => .int .u64 0) 115)) (.cells (mixA fun _ => .int .u64 0) 115)
    rw [show (w.alloc (.cells (mixA fun _ => .int .u64 0) 115)).heap.size = w.heap.size + 1 by simp] at this
    exact this
  have c0 : wA.cell? ⟨H + 1, q, none⟩ = some (.int .u64 0) := (cell_of_row wA (H + 1) q _ _ _ HA1.out).trans (mixA_get _ hq7)
  have f0 : wA.frozen? ⟨H + 1, q, none⟩ = false := Lib.frozen_of_heap HA1.out q
  have hqi7 : (q : Int) < 7 := by omega
  have hri64 : (r : Int) < 64 := by omega
  go_enter Tryd.func105, Tryd.ntmps105
  go_upto_region 2 with fail
  rw [← hH]
  show Code.wp _ _ _ _ ((w.alloc (.cells (mixA fun _ => .int .u64 0) 115)).alloc (.cells (mixA fun _ => .int .u64 0) 115))
  rw [← hwA]
  have hwr : IntKind.u64.wrap ((2 : Int) ^ r) = ((2 ^ r : Nat) : Int) := by
    have h1 : (2 : Nat) ^ r < 2 ^ 64 := Nat.pow_lt_pow_right (by decide) hr64
    have h2 : ((2 : Int) ^ r) = ((2 ^ r : Nat) : Int) := by simp
    rw [h2]
    generalize 2 ^ r = x at h1
    rw [IntKind.wrap_u64]
    omega
  obtain ⟨w2, hw2⟩ : ∃ w2, w2 = wA.setCell ⟨H + 1, q, none⟩ (.int .u64 ((2 ^ r : Nat) : Int)) := ⟨_, rfl⟩
  have HX1 : Hid (w2.heap[H + 1]? = some (.cells (nsA (2 ^ k)) 115)) := by
    show _ = _
    rw [hw2]
    refine (heap_setCell_same wA (H + 1) q _ _ _ HA1.out).trans ?_
    rw [mixA_set _ _ hq7, nsA_mix]
    congr 3
    funext j
    unfold nwV
    rw [nw_one, ← hq, ← hr]
    split <;> rfl
  have HX0 : Hid (w2.heap[H]? = some (.cells (mixA fun _ => .int .u64 0) 115)) := by
    show _ = _
    rw [hw2]
    exact ((grown_cell wA (H + 1) q _).block H (Array.getElem?_eq_some_iff.1 HA0.out).1 (fun e => by have := Option.some.inj e; omega)).trans HA0.out
  have HB2 : Hid (Below w.heap.size w w2) := by
    rw [hw2]; exact below_put _ HB.out (by rw [HH.out]; omega)
  clear hwA hH hq hr hk
  rw [show ((2 ^ r : Nat) : Int) = (2 : Int) ^ r by simp] at hw2
  go_upto_region 3 with fail
  rw [← hw2]
  clear hw2 c0 f0 hwr
  have g0 : w2.cell? ⟨H + 1, 0, none⟩ = some (.int .u64 (nw (2 ^ k) 0 : Int)) := cell_of_row w2 (H + 1) 0 _ _ _ HX1.out
  have d0 : w2.cell? ⟨H, 0, none⟩ = some (.int .u64 0) := cell_of_row w2 H 0 _ _ _ HX0.out
  have e0 : w2.frozen? ⟨H, 0, none⟩ = false := Lib.frozen_of_heap HX0.out 0
  have g1 : w2.cell? ⟨H + 1, 1, none⟩ = some (.int .u64 (nw (2 ^ k) 1 : Int)) := cell_of_row w2 (H + 1) 1 _ _ _ HX1.out
  have d1 : w2.cell? ⟨H, 1, none⟩ = some (.int .u64 0) := cell_of_row w2 H 1 _ _ _ HX0.out
  have e1 : w2.frozen? ⟨H, 1, none⟩ = false := Lib.frozen_of_heap HX0.out 1
  have g2 : w2.cell? ⟨H + 1, 2, none⟩ = some (.int .u64 (nw (2 ^ k) 2 : Int)) := cell_of_row w2 (H + 1) 2 _ _ _ HX1.out
  have d2 : w2.cell? ⟨H, 2, none⟩ = some (.int .u64 0) := cell_of_row w2 H 2 _ _ _ HX0.out
  have e2 : w2.frozen? ⟨H, 2, none⟩ = false := Lib.frozen_of_heap HX0.out 2
  have g3 : w2.cell? ⟨H + 1, 3, none⟩ = some (.int .u64 (nw (2 ^ k) 3 : Int)) := cell_of_row w2 (H + 1) 3 _ _ _ HX1.out
  have d3 : w2.cell? ⟨H, 3, none⟩ = some (.int .u64 0) := cell_of_row w2 H 3 _ _ _ HX0.out
  have e3 : w2.frozen? ⟨H, 3, none⟩ = false := Lib.frozen_of_heap HX0.out 3
  have g4 : w2.cell? ⟨H + 1, 4, none⟩ = some (.int .u64 (nw (2 ^ k) 4 : Int)) := cell_of_row w2 (H + 1) 4 _ _ _ HX1.out
  have d4 : w2.cell? ⟨H, 4, none⟩ = some (.int .u64 0) := cell_of_row w2 H 4 _ _ _ HX0.out
  have e4 : w2.frozen? ⟨H, 4, none⟩ = false := Lib.frozen_of_heap HX0.out 4
  have g5 : w2.cell? ⟨H + 1, 5, none⟩ = some (.int .u64 (nw (2 ^ k) 5 : Int)) := cell_of_row w2 (H + 1) 5 _ _ _ HX1.out
  have d5 : w2.cell? ⟨H, 5, none⟩ = some (.int .u64 0) := cell_of_row w2 H 5 _ _ _ HX0.out
  have e5 : w2.frozen? ⟨H, 5, none⟩ = false := Lib.frozen_of_heap HX0.out 5
  have g6 : w2.cell? ⟨H + 1, 6, none⟩ = some (.int .u64 (nw (2 ^ k) 6 : Int)) := cell_of_row w2 (H + 1) 6 _ _ _ HX1.out
  have d6 : w2.cell? ⟨H, 6, none⟩ = some (.int .u64 0) := cell_of_row w2 H 6 _ _ _ HX0.out
  have e6 : w2.frozen? ⟨H, 6, none⟩ = false := Lib.frozen_of_heap HX0.out 6
  have hHw : w.heap.size ≤ H := by rw [HH.out]; exact Nat.le_refl _
  have HFIN := fun v0 v1 v2 v3 v4 v5 v6 => below_put (i := 6) v6 (below_put (i := 5) v5 (below_put (i := 4) v4 (below_put (i := 3) v3 (below_put (i := 2) v2 (below_put (i := 1) v1 (below_put (i := 0) v0 HB2.out hHw) hHw) hHw) hHw) hHw) hHw) hHw
  clear hHw
  go_wp2_with fail
  refine bodyPost_ret (v := .agg (nsA (2 ^ k))) ?_ rfl ⟨rfl, HFIN _ _ _ _ _ _ _⟩
  rw [results_cell_one rfl]
  go_simp
  rfl
end Go.Proofs.YthdeadmnicmgfaaDoor

/- Plain mathematics of where rows end that an expression fits: sets of places as rows of truths; nothing of the program is named here. -/
namespace Go.Proofs.YthdeadmnicmgfaaDoor
set_option linter.unusedVariables false
set_option linter.unusedSimpArgs false

/-- A piece of a row, from one place to another. -/
def sg (xs : List Int) (i j : Nat) : List Int := (xs.drop i).take (j - i)
theorem sg_len (xs : List Int) (i j : Nat) (hij : i ≤ j) (hj : j ≤ xs.length) : (sg xs i j).length = j - i := by
  unfold sg; simp; omega
theorem sg_self (xs : List Int) (i : Nat) : sg xs i i = [] := by simp [sg]
theorem sg_app (xs : List Int) (i m j : Nat) (h1 : i ≤ m) (h2 : m ≤ j) : sg xs i m ++ sg xs m j = sg xs i j := by
  unfold sg
  have e : xs.drop m = (xs.drop i).drop (m - i) := by rw [List.drop_drop]; congr 1; omega
  rw [e]
  generalize xs.drop i = ys
  rw [show j - i = (m - i) + (j - m) by omega, List.take_add]
theorem sg_cut (xs : List Int) (i j : Nat) (u v : List Int) (hij : i ≤ j) (hj : j ≤ xs.length) (h : sg xs i j = u ++ v) : i + u.length ≤ j ∧ sg xs i (i + u.length) = u ∧ sg xs (i + u.length) j = v := by
  have hl := sg_len xs i j hij hj
  rw [h, List.length_append] at hl
  have h1 : i + u.length ≤ j := by omega
  have h2 := sg_app xs i (i + u.length) j (by omega) h1
  rw [h] at h2
  have h3 := sg_len xs i (i + u.length) (by omega) (by omega)
  have := List.append_inj h2 (by omega)
  exact ⟨h1, this.1, this.2⟩
theorem sg_one (xs : List Int) (i : Nat) (hi : i < xs.length) : sg xs i (i + 1) = [xs[i]] := by
  unfold sg
  rw [show i + 1 - i = 1 by omega, List.drop_eq_getElem_cons hi]
  rfl
theorem sg_take (xs : List Int) (j : Nat) : sg xs 0 j = xs.take j := by simp [sg]
/-- Where rows end, that are of some kind, each of which begins at one of some places. -/
def EndsAt (L : List Int → Prop) (xs : List Int) (F : List Bool) (j : Nat) : Prop := ∃ i, i ≤ j ∧ F[i]? = some true ∧ L (sg xs i j)
def EndsR (L : List Int → Prop) (xs : List Int) (F G : List Bool) : Prop := G.length = xs.length + 1 ∧ ∀ j, j ≤ xs.length → (G[j]? = some true ↔ EndsAt L xs F j)
theorem EndsR.congr {L L' : List Int → Prop} {xs : List Int} {F G : List Bool} (h : EndsR L xs F G) (hl : ∀ w, L w ↔ L' w) : EndsR L' xs F G := by
  refine ⟨h.1, fun j hj => (h.2 j hj).trans ?_⟩
  unfold EndsAt
  simp only [hl]
theorem ends_none (xs : List Int) (F : List Bool) (hF : F.length = xs.length + 1) : EndsR (fun w => w = []) xs F F := by
  refine ⟨hF, fun j hj => ⟨fun h => ⟨j, Nat.le_refl _, h, sg_self xs j⟩, fun ⟨i, hi, h1, h2⟩ => ?_⟩⟩
  have := sg_len xs i j hi hj
  rw [h2] at this
  have : i = j := by simp at this; omega
  rw [← this]; exact h1
theorem ends_seq {L1 L2 : List Int → Prop} {xs : List Int} {F G H : List Bool} (h1 : EndsR L1 xs F G) (h2 : EndsR L2 xs G H) : EndsR (fun w => ∃ u v, w = u ++ v ∧ L1 u ∧ L2 v) xs F H := by
  refine ⟨h2.1, fun j hj => (h2.2 j hj).trans ⟨?_, ?_⟩⟩
  · rintro ⟨m, hm, hG, hv⟩
    obtain ⟨i, hi, hF, hu⟩ := (h1.2 m (by omega)).1 hG
    exact ⟨i, by omega, hF, _, _, (sg_app xs i m j hi hm).symm, hu, hv⟩
  · rintro ⟨i, hi, hF, u, v, e, hu, hv⟩
    obtain ⟨k1, k2, k3⟩ := sg_cut xs i j u v hi hj e
    refine ⟨i + u.length, k1, (h1.2 _ (by omega)).2 ⟨i, by omega, hF, by rw [k2]; exact hu⟩, by rw [k3]; exact hv⟩
theorem seqL_snoc : (ks : List (List Int → Prop)) → (k : List Int → Prop) → (w : List Int) → (seqL (ks ++ [k]) w ↔ ∃ u v, w = u ++ v ∧ seqL ks u ∧ k v)
  | [], k, w => by
    show (∃ u v, w = u ++ v ∧ k u ∧ v = []) ↔ ∃ u v, w = u ++ v ∧ u = [] ∧ k v
    constructor
    · rintro ⟨u, v, rfl, h, rfl⟩; exact ⟨[], u, by simp, rfl, h⟩
    · rintro ⟨u, v, rfl, rfl, h⟩; exact ⟨v, [], by simp, h, rfl⟩
  | q :: r, k, w => by
    show (∃ u v, w = u ++ v ∧ q u ∧ seqL (r ++ [k]) v) ↔ ∃ u v, w = u ++ v ∧ (∃ a b, u = a ++ b ∧ q a ∧ seqL r b) ∧ k v
    constructor
    · rintro ⟨u, v, rfl, h, h2⟩
      obtain ⟨a, b, rfl, h3, h4⟩ := (seqL_snoc r k v).1 h2
      exact ⟨u ++ a, b, by simp, ⟨u, a, rfl, h, h3⟩, h4⟩
    · rintro ⟨u, v, rfl, ⟨a, b, rfl, h1, h2⟩, h3⟩
      exact ⟨a, b ++ v, by simp, h1, (seqL_snoc r k _).2 ⟨b, v, rfl, h2, h3⟩⟩
theorem altL_snoc (ks : List (List Int → Prop)) (k : List Int → Prop) (w : List Int) : altL (ks ++ [k]) w ↔ altL ks w ∨ k w := by
  unfold altL
  constructor
  · rintro ⟨q, hq, h⟩
    rcases List.mem_append.1 hq with hq | hq
    · exact .inl ⟨q, hq, h⟩
    · simp at hq; subst hq; exact .inr h
  · rintro (⟨q, hq, h⟩ | h)
    · exact ⟨q, by simp [hq], h⟩
    · exact ⟨k, by simp, h⟩
/-- Of two rows of truths, what one of both says. -/
def orB : List Bool → List Bool → List Bool
  | x :: a, y :: b => (x || y) :: orB a b
  | _, _ => []
theorem orB_len : (a b : List Bool) → a.length = b.length → (orB a b).length = a.length
  | [], [], _ => rfl
  | x :: a, y :: b, h => by simp only [orB, List.length_cons]; rw [orB_len a b (by simpa using h)]
  | [], _ :: _, h => by simp at h
  | _ :: _, [], h => by simp at h
theorem orB_get : (a b : List Bool) → (j : Nat) → a.length = b.length → ((orB a b)[j]? = some true ↔ a[j]? = some true ∨ b[j]? = some true)
  | [], [], j, _ => by simp [orB]
  | x :: a, y :: b, 0, h => by simp [orB]
  | x :: a, y :: b, j + 1, h => by simpa [orB] using orB_get a b j (by simpa using h)
  | [], _ :: _, _, h => by simp at h
  | _ :: _, [], _, h => by simp at h
theorem orB_at : (a b : List Bool) → (j : Nat) → (ha : j < a.length) → (hb : j < b.length) → (orB a b)[j]? = some (a[j] || b[j])
  | x :: a, y :: b, 0, _, _ => rfl
  | x :: a, y :: b, j + 1, ha, hb => by simpa [orB] using orB_at a b j (by simpa using ha) (by simpa using hb)
  | [], _, _, h, _ => by simp at h
  | _ :: _, [], _, _, h => by simp at h
theorem ends_or {L1 L2 : List Int → Prop} {xs : List Int} {F G H : List Bool} (h1 : EndsR L1 xs F G) (h2 : EndsR L2 xs F H) : EndsR (fun w => L1 w ∨ L2 w) xs F (orB G H) := by
  have hl : G.length = H.length := by rw [h1.1, h2.1]
  refine ⟨by rw [orB_len _ _ hl, h1.1], fun j hj => ?_⟩
  rw [orB_get _ _ _ hl, h1.2 j hj, h2.2 j hj]
  constructor
  · rintro (⟨i, a, b, c⟩ | ⟨i, a, b, c⟩)
    · exact ⟨i, a, b, .inl c⟩
    · exact ⟨i, a, b, .inr c⟩
  · rintro ⟨i, a, b, c | c⟩
    · exact .inl ⟨i, a, b, c⟩
    · exact .inr ⟨i, a, b, c⟩
theorem ends_false (xs : List Int) (F : List Bool) : EndsR (fun _ => False) xs F (List.replicate (xs.length + 1) false) := by
  refine ⟨by simp, fun j hj => ⟨fun h => ?_, fun ⟨_, _, _, h⟩ => h.elim⟩⟩
  rw [List.getElem?_replicate] at h
  split at h <;> simp at h
/-- How many are so. -/
def manyB : List Bool → Nat
  | [] => 0
  | x :: r => (if x then 1 else 0) + manyB r
theorem manyB_le : (l : List Bool) → manyB l ≤ l.length
  | [] => Nat.le_refl _
  | x :: r => by have := manyB_le r; simp only [manyB, List.length_cons]; split <;> omega
theorem manyB_snoc (l : List Bool) (x : Bool) : manyB (l ++ [x]) = manyB l + (if x then 1 else 0) := by
  induction l with
  | nil => simp [manyB]
  | cons y r ih => simp only [List.cons_append, manyB, ih]; omega
theorem manyB_or : (a b : List Bool) → a.length = b.length → manyB a ≤ manyB (orB a b) ∧ (manyB (orB a b) ≤ manyB a → orB a b = a)
  | [], [], _ => ⟨Nat.le_refl _, fun _ => rfl⟩
  | x :: a, y :: b, h => by
    obtain ⟨h1, h2⟩ := manyB_or a b (by simpa using h)
    cases x with
    | true =>
      simp only [orB, manyB, Bool.true_or, if_true]
      exact ⟨by omega, fun h3 => by rw [h2 (by omega)]⟩
    | false =>
      cases y with
      | true =>
        simp only [orB, manyB, Bool.false_or, if_true, Bool.false_eq_true, if_false]
        exact ⟨by omega, fun h3 => by omega⟩
      | false =>
        simp only [orB, manyB, Bool.false_or, Bool.false_eq_true, if_false]
        exact ⟨by omega, fun h3 => by rw [h2 (by omega)]⟩
  | [], _ :: _, h => by simp at h
  | _ :: _, [], h => by simp at h
def starL (L : List Int → Prop) (w : List Int) : Prop := ∃ n, powL L n w
theorem powL_snoc (L : List Int → Prop) : (n : Nat) → (u v : List Int) → powL L n u → L v → powL L (n + 1) (u ++ v)
  | 0, u, v, h, hv => by
    have hu : u = [] := h
    subst hu
    exact ⟨v, [], by simp, hv, rfl⟩
  | n + 1, u, v, ⟨a, b, e, h1, h2⟩, hv => ⟨a, b ++ v, by rw [e]; simp, h1, powL_snoc L n b v h2 hv⟩
/-- On the way to all places that any number takes one to. -/
def StarP (L : List Int → Prop) (xs : List Int) (F O : List Bool) : Prop := O.length = xs.length + 1 ∧ (∀ j, j ≤ xs.length → F[j]? = some true → O[j]? = some true) ∧ ∀ j, j ≤ xs.length → O[j]? = some true → EndsAt (starL L) xs F j
theorem star_begin (L : List Int → Prop) (xs : List Int) (F : List Bool) (hF : F.length = xs.length + 1) : StarP L xs F F :=
  ⟨hF, fun _ _ h => h, fun j _ h => ⟨j, Nat.le_refl _, h, 0, by rw [sg_self]; rfl⟩⟩
theorem star_round {L : List Int → Prop} {xs : List Int} {F O G : List Bool} (h : StarP L xs F O) (hG : EndsR L xs O G) : StarP L xs F (orB O G) := by
  have hl : O.length = G.length := by rw [h.1, hG.1]
  refine ⟨by rw [orB_len _ _ hl, h.1], fun j hj hf => (orB_get _ _ _ hl).2 (.inl (h.2.1 j hj hf)), fun j hj ho => ?_⟩
  rcases (orB_get _ _ _ hl).1 ho with ho | ho
  · exact h.2.2 j hj ho
  · obtain ⟨m, hm, hO, hv⟩ := (hG.2 j hj).1 ho
    obtain ⟨i, hi, hF, n, hn⟩ := h.2.2 m (by omega) hO
    exact ⟨i, by omega, hF, n + 1, by rw [← sg_app xs i m j hi hm]; exact powL_snoc L n _ _ hn hv⟩
theorem star_closed {L : List Int → Prop} {xs : List Int} {O G : List Bool} (hl : O.length = xs.length + 1) (hG : EndsR L xs O G) (hc : orB O G = O) : (n : Nat) → (i j : Nat) → i ≤ j → j ≤ xs.length → O[i]? = some true → powL L n (sg xs i j) → O[j]? = some true
  | 0, i, j, hij, hj, hO, h => by
    have := sg_len xs i j hij hj
    have h0 : sg xs i j = [] := h
    rw [h0] at this
    have : i = j := by simp at this; omega
    rw [← this]; exact hO
  | n + 1, i, j, hij, hj, hO, ⟨u, v, e, hu, hv⟩ => by
    obtain ⟨k1, k2, k3⟩ := sg_cut xs i j u v hij hj e
    refine star_closed hl hG hc n (i + u.length) j k1 hj ?_ (by rw [k3]; exact hv)
    have : G[i + u.length]? = some true := (hG.2 _ (by omega)).2 ⟨i, by omega, hO, by rw [k2]; exact hu⟩
    rw [← hc, orB_get _ _ _ (by rw [hl, hG.1])]
    exact .inr this
theorem star_end {L : List Int → Prop} {xs : List Int} {F O G : List Bool} (h : StarP L xs F O) (hG : EndsR L xs O G) (hc : manyB (orB O G) ≤ manyB O) : EndsR (starL L) xs F (orB O G) := by
  have hl : O.length = G.length := by rw [h.1, hG.1]
  have e := (manyB_or O G hl).2 hc
  rw [e]
  refine ⟨h.1, fun j hj => ⟨h.2.2 j hj, ?_⟩⟩
  rintro ⟨i, hi, hF, n, hn⟩
  exact star_closed h.1 hG e n i j hi hj (h.2.1 i (by omega) hF) hn
/-- What a character of some classes takes one to. -/
def setB (cl xs : List Int) (F : List Bool) : List Bool := false :: (List.range xs.length).map fun i => F.getD i false && decide (xs.getD i 0 ∈ cl)
theorem ends_set (cl xs : List Int) (F : List Bool) : EndsR (fun w => ∃ c, c ∈ cl ∧ w = [c]) xs F (setB cl xs F) := by
  refine ⟨by simp [setB], fun j hj => ?_⟩
  cases j with
  | zero =>
    refine ⟨fun h => by simp [setB] at h, fun ⟨i, hi, _, c, _, h⟩ => ?_⟩
    have : i = 0 := by omega
    subst this
    rw [sg_self] at h
    cases h
  | succ j =>
    have e : (setB cl xs F)[j + 1]? = some (F.getD j false && decide (xs.getD j 0 ∈ cl)) := by
      unfold setB
      rw [List.getElem?_cons_succ, List.getElem?_map, List.getElem?_range (by omega)]
      rfl
    have hx : xs.getD j 0 = xs[j] := by simp [show j < xs.length by omega]
    rw [e, hx]
    constructor
    · intro h
      simp only [Option.some.injEq, Bool.and_eq_true, decide_eq_true_eq] at h
      refine ⟨j, by omega, ?_, xs[j], h.2, sg_one xs j (by omega)⟩
      have h1 := h.1
      rw [List.getD_eq_getElem?_getD] at h1
      cases h2 : F[j]? with
      | none => rw [h2] at h1; simp at h1
      | some b => rw [h2] at h1; simp at h1; rw [h1]
    · rintro ⟨i, hi, hF, c, hc, h⟩
      have h1 := sg_len xs i (j + 1) hi hj
      rw [h] at h1
      have : i = j := by simp at h1; omega
      subst this
      rw [sg_one xs i (by omega)] at h
      have h2 : xs[i] = c := by simpa using h
      rw [List.getD_eq_getElem?_getD, hF, h2]
      simp [hc]
/-! What an expression fits, by what it is. -/
theorem fits_eq (n : Nd) : n.fits = nodeL n.op n.cl ((toL n.kids).map Nd.fits) := by
  show nodeL _ _ (fitF n.kids) = _
  rw [fitF_map]
theorem fits_op0 (n : Nd) (h : n.op = 0) (hk : (toL n.kids).length = 0) (w : List Int) : n.fits w ↔ w = [] := by
  unfold Nd.fits
  rw [h, fitF_map, List.eq_nil_of_length_eq_zero hk]
  simp [nodeL, seqL]
theorem fits_op1 (n : Nd) (h : n.op = 1) (w : List Int) : n.fits w ↔ ∃ c, c ∈ n.cl ∧ w = [c] := by
  unfold Nd.fits; rw [h]; simp [nodeL]
theorem fits_op2 (n : Nd) (h : n.op = 2) (w : List Int) : n.fits w ↔ seqL ((toL n.kids).map Nd.fits) w := by
  rw [fits_eq, h]; simp [nodeL]
theorem fits_op3 (n : Nd) (h : n.op = 3) (w : List Int) : n.fits w ↔ altL ((toL n.kids).map Nd.fits) w := by
  rw [fits_eq, h]; simp [nodeL]
theorem fits_op4 (n : Nd) (h : n.op = 4) (x : Nd) (hk : toL n.kids = [x]) (w : List Int) : n.fits w ↔ starL x.fits w := by
  rw [fits_eq, h, hk]; simp [nodeL, starL]
theorem fits_op5 (n : Nd) (h : n.op = 5) (x : Nd) (hk : toL n.kids = [x]) (w : List Int) : n.fits w ↔ w = [] ∨ x.fits w := by
  rw [fits_eq, h, hk]; simp [nodeL]
/-- The places that all of a row leads to are told by its beginnings. -/
def fromB (n : Nat) : List Bool := true :: List.replicate n false
theorem ends_whole {L : List Int → Prop} {xs : List Int} {G : List Bool} (h : EndsR L xs (fromB xs.length) G) (j : Nat) (hj : j ≤ xs.length) : G[j]? = some true ↔ L (xs.take j) := by
  rw [h.2 j hj]
  constructor
  · rintro ⟨i, hi, hF, hl⟩
    cases i with
    | zero => rw [← sg_take]; exact hl
    | succ i =>
      unfold fromB at hF
      rw [List.getElem?_cons_succ, List.getElem?_replicate] at hF
      split at hF <;> simp at hF
  · intro hl
    exact ⟨0, by omega, rfl, by rw [sg_take]; exact hl⟩
theorem ends_suffix {L : List Int → Prop} {xs : List Int} {G : List Bool} (h : EndsR L xs (List.replicate (xs.length + 1) true) G) (j : Nat) (hj : j ≤ xs.length) : G[j]? = some true ↔ ∃ i, i ≤ j ∧ L (sg xs i j) := by
  rw [h.2 j hj]
  constructor
  · rintro ⟨i, hi, _, hl⟩; exact ⟨i, hi, hl⟩
  · rintro ⟨i, hi, hl⟩
    exact ⟨i, hi, by rw [List.getElem?_replicate, if_pos (by omega)], hl⟩
/-- A row that is filled from the front. -/
def fillB (S : List Bool) (m k : Nat) : List Bool := S.take k ++ List.replicate (m - k) false
theorem fill_set (S : List Bool) (m k : Nat) (hm : S.length = m) (hk : k < m) : (fillB S m k).set k (S.getD k false) = fillB S m (k + 1) := by
  have hks : k < S.length := by omega
  unfold fillB
  rw [List.set_append_right _ _ (by simp; omega)]
  have e : k - (S.take k).length = 0 := by simp; omega
  rw [e, show m - k = (m - (k + 1)) + 1 by omega, List.replicate_succ, List.set_cons_zero, List.take_succ_eq_append_getElem hks, List.append_assoc]
  simp [hks]
theorem fill_all (S : List Bool) (m : Nat) (hm : S.length = m) : fillB S m m = S := by
  unfold fillB; rw [Nat.sub_self, List.take_of_length_le (by omega)]; simp
theorem setB_len (cl xs : List Int) (F : List Bool) : (setB cl xs F).length = xs.length + 1 := by simp [setB]
theorem setB_first (cl xs : List Int) (F : List Bool) (m : Nat) (hm : m = xs.length + 1) : fillB (setB cl xs F) m 1 = List.replicate m false := by
  subst hm
  simp [fillB, setB, List.replicate_succ]
theorem setB_at (cl xs : List Int) (F : List Bool) (k : Nat) (hk : k < xs.length) : (setB cl xs F).getD (k + 1) false = (F.getD k false && decide (xs.getD k 0 ∈ cl)) := by
  rw [List.getD_eq_getElem?_getD]
  unfold setB
  rw [List.getElem?_cons_succ, List.getElem?_map, List.getElem?_range hk]
  rfl
end Go.Proofs.YthdeadmnicmgfaaDoor

/- Plain mathematics of machines by nodes: which rows ways through a graph of characters read; one behind the other, one or the other, any number; nothing of the program is named here. -/
namespace Go.Proofs.YthdeadmnicmgfaaDoor
set_option linter.unusedVariables false
set_option linter.unusedSimpArgs false

/-- A way through nodes: from one on, each with its character, by the ways between them, to one that may be the last. -/
def Pth (B : Nat → Nat → Prop) (C : Nat → Int → Prop) (E : Nat → Prop) : List Int → Nat → Prop
  | [], _ => False
  | c :: w, p => C p c ∧ ((w = [] ∧ E p) ∨ ∃ q, B p q ∧ Pth B C E w q)
/-- What is read: nothing, if that may be, or a way from one of the first. -/
def GL (em : Prop) (F E : Nat → Prop) (B : Nat → Nat → Prop) (C : Nat → Int → Prop) (w : List Int) : Prop := (w = [] ∧ em) ∨ ∃ p, F p ∧ Pth B C E w p
theorem Pth.ne {B : Nat → Nat → Prop} {C : Nat → Int → Prop} {E : Nat → Prop} {w : List Int} {p : Nat} (h : Pth B C E w p) : w ≠ [] := by
  rintro rfl; exact h
theorem Pth.congr {B B' : Nat → Nat → Prop} {C : Nat → Int → Prop} {E E' : Nat → Prop} (X : Nat → Prop) (hB : ∀ p q, X p → (B p q ↔ B' p q)) (hX : ∀ p q, X p → B p q → X q) (hE : ∀ p, X p → (E p ↔ E' p)) : (w : List Int) → (p : Nat) → X p → (Pth B C E w p ↔ Pth B' C E' w p)
  | [], _, _ => Iff.rfl
  | c :: w, p, hp => by
    simp only [Pth]
    constructor
    · rintro ⟨h1, ⟨h2, h3⟩ | ⟨q, h2, h3⟩⟩
      · exact ⟨h1, .inl ⟨h2, (hE p hp).1 h3⟩⟩
      · exact ⟨h1, .inr ⟨q, (hB p q hp).1 h2, (Pth.congr X hB hX hE w q (hX p q hp h2)).1 h3⟩⟩
    · rintro ⟨h1, ⟨h2, h3⟩ | ⟨q, h2, h3⟩⟩
      · exact ⟨h1, .inl ⟨h2, (hE p hp).2 h3⟩⟩
      · have h4 := (hB p q hp).2 h2
        exact ⟨h1, .inr ⟨q, h4, (Pth.congr X hB hX hE w q (hX p q hp h4)).2 h3⟩⟩
/-- A way through two graphs, the second behind the first. -/
theorem pth_two {B1 B2 : Nat → Nat → Prop} {C : Nat → Int → Prop} {E1 E2 F2 : Nat → Prop} {em2 : Prop} {X Y : Nat → Prop} (hd : ∀ p, X p → ¬ Y p) (h1 : ∀ p q, B1 p q → X p ∧ X q) (h2 : ∀ p q, B2 p q → Y p ∧ Y q) (hE1 : ∀ p, E1 p → X p) (hE2 : ∀ p, E2 p → Y p) (hF2 : ∀ p, F2 p → Y p) :
    (w : List Int) → (p : Nat) → X p → (Pth (fun p q => B1 p q ∨ B2 p q ∨ (E1 p ∧ F2 q)) C (fun p => (em2 ∧ E1 p) ∨ E2 p) w p ↔ (em2 ∧ Pth B1 C E1 w p) ∨ ∃ u v, w = u ++ v ∧ Pth B1 C E1 u p ∧ ∃ q, F2 q ∧ Pth B2 C E2 v q)
  | [], p, _ => by
    constructor
    · intro h; exact h.elim
    · rintro (⟨_, h⟩ | ⟨u, v, e, h, _⟩)
      · exact h.elim
      · have := (List.append_eq_nil_iff.1 e.symm).1
        subst this
        exact h.elim
  | c :: w, p, hp => by
    have ih := pth_two (em2 := em2) hd h1 h2 hE1 hE2 hF2 (C := C) w
    have hY : ∀ v q, Y q → (Pth (fun p q => B1 p q ∨ B2 p q ∨ (E1 p ∧ F2 q)) C (fun p => (em2 ∧ E1 p) ∨ E2 p) v q ↔ Pth B2 C E2 v q) := fun v q hq => Pth.congr Y (fun a b ha => ⟨fun h => by
        rcases h with h | h | h
        · exact absurd ha (hd a (h1 a b h).1)
        · exact h
        · exact absurd ha (hd a (hE1 a h.1)), fun h => .inr (.inl h)⟩) (fun a b ha h => by
        rcases h with h | h | h
        · exact absurd ha (hd a (h1 a b h).1)
        · exact (h2 a b h).2
        · exact absurd ha (hd a (hE1 a h.1))) (fun a ha => ⟨fun h => by
        rcases h with h | h
        · exact absurd ha (hd a (hE1 a h.2))
        · exact h, fun h => .inr h⟩) v q hq
    constructor
    · rintro ⟨hc, ⟨hw, he⟩ | ⟨q, hb, hr⟩⟩
      · rcases he with ⟨hm, he⟩ | he
        · exact .inl ⟨hm, hc, .inl ⟨hw, he⟩⟩
        · exact absurd (hE2 p he) (hd p hp)
      · rcases hb with hb | hb | ⟨hb, hf⟩
        · rcases (ih q (h1 p q hb).2).1 hr with ⟨hm, h⟩ | ⟨u, v, e, h, h'⟩
          · exact .inl ⟨hm, hc, .inr ⟨q, hb, h⟩⟩
          · exact .inr ⟨c :: u, v, by rw [e]; rfl, ⟨hc, .inr ⟨q, hb, h⟩⟩, h'⟩
        · exact absurd (h2 p q hb).1 (hd p hp)
        · exact .inr ⟨[c], w, rfl, ⟨hc, .inl ⟨rfl, hb⟩⟩, q, hf, (hY w q (hF2 q hf)).1 hr⟩
    · rintro (⟨hm, hc, h⟩ | ⟨u, v, e, hu, q, hf, hv⟩)
      · rcases h with ⟨hw, he⟩ | ⟨q, hb, h⟩
        · exact ⟨hc, .inl ⟨hw, .inl ⟨hm, he⟩⟩⟩
        · exact ⟨hc, .inr ⟨q, .inl hb, (ih q (h1 p q hb).2).2 (.inl ⟨hm, h⟩)⟩⟩
      · cases u with
        | nil => exact hu.elim
        | cons c' u =>
          simp only [List.cons_append, List.cons.injEq] at e
          obtain ⟨rfl, e⟩ := e
          obtain ⟨hc, h⟩ := hu
          rcases h with ⟨hw, he⟩ | ⟨q', hb, h⟩
          · subst hw
            rw [List.nil_append] at e
            subst e
            exact ⟨hc, .inr ⟨q, .inr (.inr ⟨he, hf⟩), (hY _ q (hF2 q hf)).2 hv⟩⟩
          · exact ⟨hc, .inr ⟨q', .inl hb, (ih q' (h1 p q' hb).2).2 (.inr ⟨u, v, e, h, q, hf, hv⟩)⟩⟩
/-- One behind the other. -/
theorem gl_seq {em1 em2 : Prop} {F1 F2 E1 E2 : Nat → Prop} {B1 B2 : Nat → Nat → Prop} {C : Nat → Int → Prop} {X Y : Nat → Prop} (hd : ∀ p, X p → ¬ Y p) (h1 : ∀ p q, B1 p q → X p ∧ X q) (h2 : ∀ p q, B2 p q → Y p ∧ Y q) (hF1 : ∀ p, F1 p → X p) (hE1 : ∀ p, E1 p → X p) (hE2 : ∀ p, E2 p → Y p) (hF2 : ∀ p, F2 p → Y p) (w : List Int) :
    GL (em1 ∧ em2) (fun p => F1 p ∨ (em1 ∧ F2 p)) (fun p => (em2 ∧ E1 p) ∨ E2 p) (fun p q => B1 p q ∨ B2 p q ∨ (E1 p ∧ F2 q)) C w ↔ ∃ u v, w = u ++ v ∧ GL em1 F1 E1 B1 C u ∧ GL em2 F2 E2 B2 C v := by
  have hY : ∀ v q, Y q → (Pth (fun p q => B1 p q ∨ B2 p q ∨ (E1 p ∧ F2 q)) C (fun p => (em2 ∧ E1 p) ∨ E2 p) v q ↔ Pth B2 C E2 v q) := fun v q hq => Pth.congr Y (fun a b ha => ⟨fun h => by
      rcases h with h | h | h
      · exact absurd ha (hd a (h1 a b h).1)
      · exact h
      · exact absurd ha (hd a (hE1 a h.1)), fun h => .inr (.inl h)⟩) (fun a b ha h => by
      rcases h with h | h | h
      · exact absurd ha (hd a (h1 a b h).1)
      · exact (h2 a b h).2
      · exact absurd ha (hd a (hE1 a h.1))) (fun a ha => ⟨fun h => by
      rcases h with h | h
      · exact absurd ha (hd a (hE1 a h.2))
      · exact h, fun h => .inr h⟩) v q hq
  constructor
  · rintro (⟨hw, ha, hb⟩ | ⟨p, hp, h⟩)
    · exact ⟨[], [], hw, .inl ⟨rfl, ha⟩, .inl ⟨rfl, hb⟩⟩
    · rcases hp with hp | ⟨ha, hp⟩
      · rcases (pth_two hd h1 h2 hE1 hE2 hF2 w p (hF1 p hp)).1 h with ⟨hm, h⟩ | ⟨u, v, e, hu, q, hf, hv⟩
        · exact ⟨w, [], by simp, .inr ⟨p, hp, h⟩, .inl ⟨rfl, hm⟩⟩
        · exact ⟨u, v, e, .inr ⟨p, hp, hu⟩, .inr ⟨q, hf, hv⟩⟩
      · exact ⟨[], w, rfl, .inl ⟨rfl, ha⟩, .inr ⟨p, hp, (hY w p (hF2 p hp)).1 h⟩⟩
  · rintro ⟨u, v, e, hu, hv⟩
    rcases hu with ⟨hu, ha⟩ | ⟨p, hp, hu⟩
    · subst hu
      rw [List.nil_append] at e
      subst e
      rcases hv with ⟨hv, hb⟩ | ⟨q, hq, hv⟩
      · exact .inl ⟨hv, ha, hb⟩
      · exact .inr ⟨q, .inr ⟨ha, hq⟩, (hY _ q (hF2 q hq)).2 hv⟩
    · rcases hv with ⟨hv, hb⟩ | ⟨q, hq, hv⟩
      · subst hv
        rw [List.append_nil] at e
        subst e
        exact .inr ⟨p, .inl hp, (pth_two hd h1 h2 hE1 hE2 hF2 _ p (hF1 p hp)).2 (.inl ⟨hb, hu⟩)⟩
      · exact .inr ⟨p, .inl hp, (pth_two hd h1 h2 hE1 hE2 hF2 w p (hF1 p hp)).2 (.inr ⟨u, v, e, hu, q, hq, hv⟩)⟩
/-- One or the other. -/
theorem gl_alt {em1 em2 : Prop} {F1 F2 E1 E2 : Nat → Prop} {B1 B2 : Nat → Nat → Prop} {C : Nat → Int → Prop} {X Y : Nat → Prop} (hd : ∀ p, X p → ¬ Y p) (h1 : ∀ p q, B1 p q → X p ∧ X q) (h2 : ∀ p q, B2 p q → Y p ∧ Y q) (hF1 : ∀ p, F1 p → X p) (hE1 : ∀ p, E1 p → X p) (hE2 : ∀ p, E2 p → Y p) (hF2 : ∀ p, F2 p → Y p) (w : List Int) :
    GL (em1 ∨ em2) (fun p => F1 p ∨ F2 p) (fun p => E1 p ∨ E2 p) (fun p q => B1 p q ∨ B2 p q) C w ↔ GL em1 F1 E1 B1 C w ∨ GL em2 F2 E2 B2 C w := by
  have hx : ∀ v q, X q → (Pth (fun p q => B1 p q ∨ B2 p q) C (fun p => E1 p ∨ E2 p) v q ↔ Pth B1 C E1 v q) := fun v q hq => Pth.congr X (fun a b ha => ⟨fun h => by
      rcases h with h | h
      · exact h
      · exact absurd (h2 a b h).1 (hd a ha), .inl⟩) (fun a b ha h => by
      rcases h with h | h
      · exact (h1 a b h).2
      · exact absurd (h2 a b h).1 (hd a ha)) (fun a ha => ⟨fun h => by
      rcases h with h | h
      · exact h
      · exact absurd (hE2 a h) (hd a ha), .inl⟩) v q hq
  have hy : ∀ v q, Y q → (Pth (fun p q => B1 p q ∨ B2 p q) C (fun p => E1 p ∨ E2 p) v q ↔ Pth B2 C E2 v q) := fun v q hq => Pth.congr Y (fun a b ha => ⟨fun h => by
      rcases h with h | h
      · exact absurd ha (hd a (h1 a b h).1)
      · exact h, .inr⟩) (fun a b ha h => by
      rcases h with h | h
      · exact absurd ha (hd a (h1 a b h).1)
      · exact (h2 a b h).2) (fun a ha => ⟨fun h => by
      rcases h with h | h
      · exact absurd ha (hd a (hE1 a h))
      · exact h, .inr⟩) v q hq
  constructor
  · rintro (⟨hw, h | h⟩ | ⟨p, h | h, hp⟩)
    · exact .inl (.inl ⟨hw, h⟩)
    · exact .inr (.inl ⟨hw, h⟩)
    · exact .inl (.inr ⟨p, h, (hx w p (hF1 p h)).1 hp⟩)
    · exact .inr (.inr ⟨p, h, (hy w p (hF2 p h)).1 hp⟩)
  · rintro ((⟨hw, h⟩ | ⟨p, h, hp⟩) | (⟨hw, h⟩ | ⟨p, h, hp⟩))
    · exact .inl ⟨hw, .inl h⟩
    · exact .inr ⟨p, .inl h, (hx w p (hF1 p h)).2 hp⟩
    · exact .inl ⟨hw, .inr h⟩
    · exact .inr ⟨p, .inr h, (hy w p (hF2 p h)).2 hp⟩
/-- A way in a graph whose ends lead to its beginnings. -/
theorem pth_loop {F E : Nat → Prop} {B : Nat → Nat → Prop} {C : Nat → Int → Prop} : (w : List Int) → (p : Nat) → (Pth (fun p q => B p q ∨ (E p ∧ F q)) C E w p ↔ ∃ u v, w = u ++ v ∧ Pth B C E u p ∧ (v = [] ∨ ∃ q, F q ∧ Pth (fun p q => B p q ∨ (E p ∧ F q)) C E v q))
  | [], p => by
    constructor
    · intro h; exact h.elim
    · rintro ⟨u, v, e, h, _⟩
      have := (List.append_eq_nil_iff.1 e.symm).1
      subst this
      exact h.elim
  | c :: w, p => by
    have ih := pth_loop (F := F) (E := E) (B := B) (C := C) w
    constructor
    · rintro ⟨hc, ⟨hw, he⟩ | ⟨q, hb | ⟨he, hf⟩, hr⟩⟩
      · exact ⟨[c], w, rfl, ⟨hc, .inl ⟨rfl, he⟩⟩, .inl hw⟩
      · obtain ⟨u, v, e, hu, hv⟩ := (ih q).1 hr
        exact ⟨c :: u, v, by rw [e]; rfl, ⟨hc, .inr ⟨q, hb, hu⟩⟩, hv⟩
      · exact ⟨[c], w, rfl, ⟨hc, .inl ⟨rfl, he⟩⟩, .inr ⟨q, hf, hr⟩⟩
    · rintro ⟨u, v, e, hu, hv⟩
      cases u with
      | nil => exact hu.elim
      | cons c' u =>
        simp only [List.cons_append, List.cons.injEq] at e
        obtain ⟨rfl, e⟩ := e
        obtain ⟨hc, h⟩ := hu
        rcases h with ⟨hw, he⟩ | ⟨q', hb, h⟩
        · subst hw
          rw [List.nil_append] at e
          subst e
          rcases hv with hv | ⟨q, hf, hv⟩
          · exact ⟨hc, .inl ⟨hv, he⟩⟩
          · exact ⟨hc, .inr ⟨q, .inr ⟨he, hf⟩, hv⟩⟩
        · exact ⟨hc, .inr ⟨q', .inl hb, (ih q').2 ⟨u, v, e, h, hv⟩⟩⟩
/-- Any number. -/
theorem gl_star {em : Prop} {F E : Nat → Prop} {B : Nat → Nat → Prop} {C : Nat → Int → Prop} (w : List Int) : GL True F E (fun p q => B p q ∨ (E p ∧ F q)) C w ↔ starL (GL em F E B C) w := by
  constructor
  · rintro (⟨hw, _⟩ | ⟨p, hp, h⟩)
    · exact ⟨0, hw⟩
    · have key : ∀ n (w : List Int), w.length ≤ n → ∀ p, F p → Pth (fun p q => B p q ∨ (E p ∧ F q)) C E w p → ∃ k, powL (GL em F E B C) k w := by
        intro n
        induction n with
        | zero =>
          intro w hl p _ h
          exact absurd (List.eq_nil_of_length_eq_zero (by omega)) h.ne
        | succ n ih =>
          intro w hl p hp h
          obtain ⟨u, v, e, hu, hv⟩ := (pth_loop w p).1 h
          rcases hv with hv | ⟨q, hq, hv⟩
          · exact ⟨1, u, v, e, .inr ⟨p, hp, hu⟩, hv⟩
          · have hul : 0 < u.length := List.length_pos_iff.2 hu.ne
            have hlen : v.length ≤ n := by
              have := congrArg List.length e
              simp at this
              omega
            obtain ⟨k, hk⟩ := ih v hlen q hq hv
            exact ⟨k + 1, u, v, e, .inr ⟨p, hp, hu⟩, hk⟩
      exact key w.length w (Nat.le_refl _) p hp h
  · rintro ⟨k, hk⟩
    have key : ∀ k (w : List Int), powL (GL em F E B C) k w → GL True F E (fun p q => B p q ∨ (E p ∧ F q)) C w := by
      intro k
      induction k with
      | zero => intro w h; exact .inl ⟨h, trivial⟩
      | succ k ih =>
        rintro w ⟨u, v, e, hu, hv⟩
        have h2 := ih v hv
        rcases hu with ⟨hu, _⟩ | ⟨p, hp, hu⟩
        · subst hu
          rw [List.nil_append] at e
          rw [e]; exact h2
        · refine .inr ⟨p, hp, (pth_loop w p).2 ⟨u, v, e, hu, ?_⟩⟩
          rcases h2 with ⟨hv, _⟩ | ⟨q, hq, hv⟩
          · exact .inl hv
          · exact .inr ⟨q, hq, hv⟩
    exact key k w hk
/-- One, or none. -/
theorem gl_opt {em : Prop} {F E : Nat → Prop} {B : Nat → Nat → Prop} {C : Nat → Int → Prop} (w : List Int) : GL True F E B C w ↔ w = [] ∨ GL em F E B C w := by
  constructor
  · rintro (⟨hw, _⟩ | h)
    · exact .inl hw
    · exact .inr (.inr h)
  · rintro (hw | ⟨hw, _⟩ | h)
    · exact .inl ⟨hw, trivial⟩
    · exact .inl ⟨hw, trivial⟩
    · exact .inr h
theorem gl_congr {em em' : Prop} {F F' E E' : Nat → Prop} {B B' : Nat → Nat → Prop} {C C' : Nat → Int → Prop} (X : Nat → Prop) (hX : ∀ p, F p → X p) (hBX : ∀ p q, X p → B p q → X q) (he : em ↔ em') (hF : ∀ p, F p ↔ F' p) (hE : ∀ p, X p → (E p ↔ E' p)) (hB : ∀ p q, X p → (B p q ↔ B' p q)) (hC : ∀ p c, X p → (C p c ↔ C' p c)) (w : List Int) : GL em F E B C w ↔ GL em' F' E' B' C' w := by
  have key : ∀ (w : List Int) (p : Nat), X p → (Pth B C E w p ↔ Pth B' C' E' w p) := by
    intro w
    induction w with
    | nil => intro p _; exact Iff.rfl
    | cons c w ih =>
      intro p hp
      simp only [Pth]
      constructor
      · rintro ⟨h1, ⟨h2, h3⟩ | ⟨q, h2, h3⟩⟩
        · exact ⟨(hC p c hp).1 h1, .inl ⟨h2, (hE p hp).1 h3⟩⟩
        · exact ⟨(hC p c hp).1 h1, .inr ⟨q, (hB p q hp).1 h2, (ih q (hBX p q hp h2)).1 h3⟩⟩
      · rintro ⟨h1, ⟨h2, h3⟩ | ⟨q, h2, h3⟩⟩
        · exact ⟨(hC p c hp).2 h1, .inl ⟨h2, (hE p hp).2 h3⟩⟩
        · have h4 := (hB p q hp).2 h2
          exact ⟨(hC p c hp).2 h1, .inr ⟨q, h4, (ih q (hBX p q hp h4)).2 h3⟩⟩
  unfold GL
  constructor
  · rintro (⟨h1, h2⟩ | ⟨p, h1, h2⟩)
    · exact .inl ⟨h1, he.1 h2⟩
    · exact .inr ⟨p, (hF p).1 h1, (key w p (hX p h1)).1 h2⟩
  · rintro (⟨h1, h2⟩ | ⟨p, h1, h2⟩)
    · exact .inl ⟨h1, he.2 h2⟩
    · have h3 := (hF p).2 h1
      exact .inr ⟨p, h3, (key w p (hX p h3)).2 h2⟩
end Go.Proofs.YthdeadmnicmgfaaDoor

/- Plain mathematics of an expression's nodes: a part's span (can it be empty, which nodes come first, which last), each node's classes and those behind it; a machine by these reads just what the expression fits; nothing of the program is named here. -/
namespace Go.Proofs.YthdeadmnicmgfaaDoor
set_option linter.unusedVariables false
set_option linter.unusedSimpArgs false

/-- Of each node its classes, and those behind it (a bit each). -/
abbrev Pl := List (List Int × Nat)
/-- What a part shows: can it be empty, its first nodes, its last ones. -/
structure Sp where
  em : Bool
  fi : Nat
  en : Nat
def leadP (A B : Nat) (l : Pl) : Pl := l.mapIdx fun p e => if A.testBit p = true then (e.1, e.2 ||| B) else e
theorem leadP_len (A B : Nat) (l : Pl) : (leadP A B l).length = l.length := by simp [leadP]
theorem leadP_get (A B : Nat) (l : Pl) (p : Nat) : (leadP A B l)[p]? = (l[p]?).map fun e => if A.testBit p = true then (e.1, e.2 ||| B) else e := by simp [leadP]
def bhP (l : Pl) (p q : Nat) : Prop := ∃ e, l[p]? = some e ∧ e.2.testBit q = true
def ccP (l : Pl) (p : Nat) (c : Int) : Prop := ∃ e, l[p]? = some e ∧ c ∈ e.1
theorem bhP.lt {l : Pl} {p q : Nat} (h : bhP l p q) : p < l.length := by
  obtain ⟨e, h, _⟩ := h
  exact (List.getElem?_eq_some_iff.1 h).1
theorem bhP_lead (A B : Nat) (l : Pl) (p q : Nat) : bhP (leadP A B l) p q ↔ bhP l p q ∨ (p < l.length ∧ A.testBit p = true ∧ B.testBit q = true) := by
  unfold bhP
  rw [leadP_get]
  constructor
  · rintro ⟨e, h, hq⟩
    obtain ⟨e', h', rfl⟩ := Option.map_eq_some_iff.1 h
    by_cases hA : A.testBit p = true
    · rw [if_pos hA] at hq
      simp only [Nat.testBit_or, Bool.or_eq_true] at hq
      rcases hq with hq | hq
      · exact .inl ⟨e', h', hq⟩
      · exact .inr ⟨(List.getElem?_eq_some_iff.1 h').1, hA, hq⟩
    · rw [if_neg hA] at hq
      exact .inl ⟨e', h', hq⟩
  · rintro (⟨e, h, hq⟩ | ⟨h, hA, hB⟩)
    · refine ⟨_, by rw [h]; rfl, ?_⟩
      split
      · simp [hq]
      · exact hq
    · refine ⟨_, by rw [List.getElem?_eq_getElem h]; rfl, ?_⟩
      simp [hA, hB]
theorem ccP_lead (A B : Nat) (l : Pl) (p : Nat) (c : Int) : ccP (leadP A B l) p c ↔ ccP l p c := by
  unfold ccP
  rw [leadP_get]
  constructor
  · rintro ⟨e, h, hq⟩
    obtain ⟨e', h', rfl⟩ := Option.map_eq_some_iff.1 h
    refine ⟨e', h', ?_⟩
    split at hq <;> exact hq
  · rintro ⟨e, h, hq⟩
    refine ⟨_, by rw [h]; rfl, ?_⟩
    split <;> exact hq
theorem bhP_same {l l' : Pl} {p : Nat} (h : l'[p]? = l[p]?) (q : Nat) : bhP l' p q ↔ bhP l p q := by unfold bhP; rw [h]
theorem ccP_same {l l' : Pl} {p : Nat} (h : l'[p]? = l[p]?) (c : Int) : ccP l' p c ↔ ccP l p c := by unfold ccP; rw [h]
/-- What is read from a span's first nodes on. -/
def gls (l : Pl) (s : Sp) : List Int → Prop := GL (s.em = true) (fun p => s.fi.testBit p = true) (fun p => s.en.testBit p = true) (bhP l) (ccP l)
/-- A span's nodes stand from a place on, and so do those behind these. -/
structure InSp (lo : Nat) (s : Sp) (l : Pl) : Prop where
  fi : ∀ p, s.fi.testBit p = true → lo ≤ p ∧ p < l.length
  en : ∀ p, s.en.testBit p = true → lo ≤ p ∧ p < l.length
  bh : ∀ p q, lo ≤ p → bhP l p q → lo ≤ q ∧ q < l.length
/-- What was put behind others: those are as they were, and just that is read. -/
structure OkSp (lo : Nat) (l : Pl) (r : Sp × Pl) (L : List Int → Prop) : Prop where
  len : l.length ≤ r.2.length
  old : ∀ i, i < lo → r.2[i]? = l[i]?
  isin : InSp lo r.1 r.2
  lang : ∀ w, gls r.2 r.1 w ↔ L w
theorem OkSp.congr {lo : Nat} {l : Pl} {r : Sp × Pl} {L L' : List Int → Prop} (h : OkSp lo l r L) (hl : ∀ w, L w ↔ L' w) : OkSp lo l r L' := ⟨h.len, h.old, h.isin, fun w => (h.lang w).trans (hl w)⟩
def stepQ (t : Bool) (s : Sp) (r : Sp × Pl) : Sp × Pl :=
  if t = true then (⟨s.em && r.1.em, if s.em = true then s.fi ||| r.1.fi else s.fi, (if r.1.em = true then s.en else 0) ||| r.1.en⟩, leadP s.en r.1.fi r.2)
  else (⟨s.em || r.1.em, s.fi ||| r.1.fi, s.en ||| r.1.en⟩, r.2)
def topQ (op : Int) (cl : List Int) (row fork : Sp × Pl) (l : Pl) : Sp × Pl :=
  if op = 1 then (⟨false, 2 ^ l.length, 2 ^ l.length⟩, l ++ [(cl, 0)])
  else if op = 3 then fork
  else if op = 4 then (⟨true, fork.1.fi, fork.1.en⟩, leadP fork.1.en fork.1.fi fork.2)
  else if op = 5 then (⟨true, fork.1.fi, fork.1.en⟩, fork.2)
  else row
def spF : Fo → Bool → Sp → Pl → Sp × Pl
  | .nil, _, s, l => (s, l)
  | .node _ _ a k r, t, s, l =>
    spF r t (stepQ t s (topQ a.1 a.2 (spF k true ⟨true, 0, 0⟩ l) (spF k false ⟨false, 0, 0⟩ l) l)).1 (stepQ t s (topQ a.1 a.2 (spF k true ⟨true, 0, 0⟩ l) (spF k false ⟨false, 0, 0⟩ l) l)).2
def Nd.span (n : Nd) (l : Pl) : Sp × Pl := topQ n.op n.cl (spF n.kids true ⟨true, 0, 0⟩ l) (spF n.kids false ⟨false, 0, 0⟩ l) l
theorem insp_none (b : Bool) (l : Pl) : InSp l.length ⟨b, 0, 0⟩ l :=
  ⟨fun p h => by simp at h, fun p h => by simp at h, fun p q h1 h2 => by have := h2.lt; omega⟩
theorem gls_none (b : Bool) (l : Pl) (w : List Int) : gls l ⟨b, 0, 0⟩ w ↔ w = [] ∧ b = true := by
  unfold gls GL
  simp
/-- One behind the other. -/
theorem step_row {lo : Nat} {l l1 : Pl} {s p : Sp} (hlo : lo ≤ l.length) (hs : InSp lo s l) (hlen : l.length ≤ l1.length) (hold : ∀ i, i < l.length → l1[i]? = l[i]?) (hp : InSp l.length p l1) : OkSp lo l (stepQ true s (p, l1)) (fun w => ∃ u v, w = u ++ v ∧ gls l s u ∧ gls l1 p v) := by
  have hr : stepQ true s (p, l1) = (⟨s.em && p.em, if s.em = true then s.fi ||| p.fi else s.fi, (if p.em = true then s.en else 0) ||| p.en⟩, leadP s.en p.fi l1) := rfl
  rw [hr]
  have hfi : ∀ x, (if s.em = true then s.fi ||| p.fi else s.fi).testBit x = true ↔ s.fi.testBit x = true ∨ (s.em = true ∧ p.fi.testBit x = true) := by
    intro x
    split
    · rename_i h; simp [h]
    · rename_i h; simp [h]
  have hen : ∀ x, ((if p.em = true then s.en else 0) ||| p.en).testBit x = true ↔ (p.em = true ∧ s.en.testBit x = true) ∨ p.en.testBit x = true := by
    intro x
    split
    · rename_i h; simp [h]
    · rename_i h; simp [h]
  have hbh : ∀ x y, lo ≤ x → (bhP (leadP s.en p.fi l1) x y ↔ ((lo ≤ x ∧ x < l.length) ∧ bhP l x y) ∨ (l.length ≤ x ∧ bhP l1 x y) ∨ (s.en.testBit x = true ∧ p.fi.testBit y = true)) := by
    intro x y hx
    rw [bhP_lead]
    constructor
    · rintro (h | ⟨h, h1, h2⟩)
      · rcases Nat.lt_or_ge x l.length with hxl | hxl
        · exact .inl ⟨⟨hx, hxl⟩, (bhP_same (hold x hxl) y).1 h⟩
        · exact .inr (.inl ⟨hxl, h⟩)
      · exact .inr (.inr ⟨h1, h2⟩)
    · rintro (⟨⟨_, hxl⟩, h⟩ | ⟨_, h⟩ | ⟨h1, h2⟩)
      · exact .inl ((bhP_same (hold x hxl) y).2 h)
      · exact .inl h
      · exact .inr ⟨by have := (hs.en x h1).2; omega, h1, h2⟩
  refine ⟨by simpa [leadP_len] using hlen, fun i hi => ?_, ⟨fun x hx => ?_, fun x hx => ?_, fun x y hx hb => ?_⟩, fun w => ?_⟩
  · show (leadP _ _ _)[i]? = _
    rw [leadP_get, hold i (by omega)]
    have : ¬ s.en.testBit i = true := fun h => by have := (hs.en i h).1; omega
    simp [this]
  · rw [leadP_len]
    rcases (hfi x).1 hx with h | ⟨_, h⟩
    · have := hs.fi x h; omega
    · have := hp.fi x h; omega
  · rw [leadP_len]
    rcases (hen x).1 hx with ⟨_, h⟩ | h
    · have := hs.en x h; omega
    · have := hp.en x h; omega
  · rw [leadP_len]
    rcases (hbh x y hx).1 hb with ⟨_, h⟩ | ⟨h1, h⟩ | ⟨_, h⟩
    · have := hs.bh x y hx h; omega
    · have := hp.bh x y h1 h; omega
    · have := hp.fi y h; omega
  · have h0 := gl_seq (em1 := s.em = true) (em2 := p.em = true) (F1 := fun x => s.fi.testBit x = true) (F2 := fun x => p.fi.testBit x = true) (E1 := fun x => s.en.testBit x = true) (E2 := fun x => p.en.testBit x = true)
      (B1 := fun x y => (lo ≤ x ∧ x < l.length) ∧ bhP l x y) (B2 := fun x y => l.length ≤ x ∧ bhP l1 x y) (C := ccP l1) (X := fun x => lo ≤ x ∧ x < l.length) (Y := fun x => l.length ≤ x ∧ x < l1.length)
      (fun x h1 h2 => by omega) (fun x y h => ⟨h.1, hs.bh x y h.1.1 h.2⟩) (fun x y h => ⟨⟨h.1, h.2.lt⟩, hp.bh x y h.1 h.2⟩) hs.fi hs.en hp.en hp.fi w
    refine Iff.trans (gl_congr (fun x => lo ≤ x) (fun x hx => ?_) (fun x y hx hb => ?_) ?_ hfi (fun x _ => hen x) hbh (fun x c _ => ccP_lead _ _ _ x c) w) (h0.trans ?_)
    · rcases (hfi x).1 hx with h | ⟨_, h⟩
      · exact (hs.fi x h).1
      · have := hp.fi x h; omega
    · rcases (hbh x y hx).1 hb with ⟨_, h⟩ | ⟨h1, h⟩ | ⟨_, h⟩
      · have := hs.bh x y hx h; omega
      · have := hp.bh x y h1 h; omega
      · have := hp.fi y h; omega
    · simp
    refine exists_congr fun u => exists_congr fun v => and_congr_right fun _ => and_congr ?_ ?_
    · exact gl_congr (fun x => lo ≤ x ∧ x < l.length) hs.fi (fun x y hx hb => hs.bh x y hx.1 hb.2) Iff.rfl (fun _ => Iff.rfl) (fun _ _ => Iff.rfl) (fun x y hx => ⟨fun h => h.2, fun h => ⟨hx, h⟩⟩) (fun x c hx => ccP_same (hold x hx.2) c) u
    · exact gl_congr (fun x => l.length ≤ x) (fun x hx => (hp.fi x hx).1) (fun x y hx hb => (hp.bh x y hx hb.2).1) Iff.rfl (fun _ => Iff.rfl) (fun _ _ => Iff.rfl) (fun x y hx => ⟨fun h => h.2, fun h => ⟨hx, h⟩⟩) (fun x c hx => Iff.rfl) v
/-- One or the other. -/
theorem step_fork {lo : Nat} {l l1 : Pl} {s p : Sp} (hlo : lo ≤ l.length) (hs : InSp lo s l) (hlen : l.length ≤ l1.length) (hold : ∀ i, i < l.length → l1[i]? = l[i]?) (hp : InSp l.length p l1) : OkSp lo l (stepQ false s (p, l1)) (fun w => gls l s w ∨ gls l1 p w) := by
  have hr : stepQ false s (p, l1) = (⟨s.em || p.em, s.fi ||| p.fi, s.en ||| p.en⟩, l1) := rfl
  rw [hr]
  have hfi : ∀ x, (s.fi ||| p.fi).testBit x = true ↔ s.fi.testBit x = true ∨ p.fi.testBit x = true := fun x => by simp
  have hen : ∀ x, (s.en ||| p.en).testBit x = true ↔ s.en.testBit x = true ∨ p.en.testBit x = true := fun x => by simp
  have hbh : ∀ x y, lo ≤ x → (bhP l1 x y ↔ ((lo ≤ x ∧ x < l.length) ∧ bhP l x y) ∨ (l.length ≤ x ∧ bhP l1 x y)) := by
    intro x y hx
    constructor
    · intro h
      rcases Nat.lt_or_ge x l.length with hxl | hxl
      · exact .inl ⟨⟨hx, hxl⟩, (bhP_same (hold x hxl) y).1 h⟩
      · exact .inr ⟨hxl, h⟩
    · rintro (⟨⟨_, hxl⟩, h⟩ | ⟨_, h⟩)
      · exact (bhP_same (hold x hxl) y).2 h
      · exact h
  refine ⟨hlen, fun i hi => hold i (by omega), ⟨fun x hx => ?_, fun x hx => ?_, fun x y hx hb => ?_⟩, fun w => ?_⟩
  · show _ ∧ x < l1.length
    rcases (hfi x).1 hx with h | h
    · have := hs.fi x h; omega
    · have := hp.fi x h; omega
  · show _ ∧ x < l1.length
    rcases (hen x).1 hx with h | h
    · have := hs.en x h; omega
    · have := hp.en x h; omega
  · show _ ∧ y < l1.length
    rcases (hbh x y hx).1 hb with ⟨_, h⟩ | ⟨h1, h⟩
    · have := hs.bh x y hx h; omega
    · have := hp.bh x y h1 h; omega
  · have h0 := gl_alt (em1 := s.em = true) (em2 := p.em = true) (F1 := fun x => s.fi.testBit x = true) (F2 := fun x => p.fi.testBit x = true) (E1 := fun x => s.en.testBit x = true) (E2 := fun x => p.en.testBit x = true)
      (B1 := fun x y => (lo ≤ x ∧ x < l.length) ∧ bhP l x y) (B2 := fun x y => l.length ≤ x ∧ bhP l1 x y) (C := ccP l1) (X := fun x => lo ≤ x ∧ x < l.length) (Y := fun x => l.length ≤ x ∧ x < l1.length)
      (fun x h1 h2 => by omega) (fun x y h => ⟨h.1, hs.bh x y h.1.1 h.2⟩) (fun x y h => ⟨⟨h.1, h.2.lt⟩, hp.bh x y h.1 h.2⟩) hs.fi hs.en hp.en hp.fi w
    refine Iff.trans (gl_congr (fun x => lo ≤ x) (fun x hx => ?_) (fun x y hx hb => ?_) ?_ hfi (fun x _ => hen x) hbh (fun x c _ => Iff.rfl) w) (h0.trans (or_congr ?_ ?_))
    · rcases (hfi x).1 hx with h | h
      · exact (hs.fi x h).1
      · have := hp.fi x h; omega
    · rcases (hbh x y hx).1 hb with ⟨_, h⟩ | ⟨h1, h⟩
      · have := hs.bh x y hx h; omega
      · have := hp.bh x y h1 h; omega
    · simp
    · exact gl_congr (fun x => lo ≤ x ∧ x < l.length) hs.fi (fun x y hx hb => hs.bh x y hx.1 hb.2) Iff.rfl (fun _ => Iff.rfl) (fun _ _ => Iff.rfl) (fun x y hx => ⟨fun h => h.2, fun h => ⟨hx, h⟩⟩) (fun x c hx => ccP_same (hold x hx.2) c) w
    · exact gl_congr (fun x => l.length ≤ x) (fun x hx => (hp.fi x hx).1) (fun x y hx hb => (hp.bh x y hx hb.2).1) Iff.rfl (fun _ => Iff.rfl) (fun _ _ => Iff.rfl) (fun x y hx => ⟨fun h => h.2, fun h => ⟨hx, h⟩⟩) (fun x c hx => Iff.rfl) w
/-- What a node's span reads, behind its parts'. -/
theorem top_ok (op : Int) (cl : List Int) (ks : List (List Int → Prop)) (row fork : Sp × Pl) (l : Pl) (h45 : op = 4 ∨ op = 5 → ks.length = 1) (hrow : OkSp l.length l row (seqL ks)) (hfork : OkSp l.length l fork (altL ks)) : OkSp l.length l (topQ op cl row fork l) (nodeL op cl ks) := by
  have halt : ks.length = 1 → ∀ w, altL ks w ↔ ks.headD (fun _ => False) w := by
    intro h w
    match ks, h with
    | [k], _ => simp [altL]
  unfold topQ
  by_cases h1 : op = 1
  · rw [if_pos h1]
    have hb : ∀ x, (2 ^ l.length).testBit x = true ↔ x = l.length := fun x => by
      rw [Nat.testBit_two_pow]; simp [eq_comm]
    have hbh : ∀ x y, l.length ≤ x → ¬ bhP (l ++ [(cl, 0)]) x y := by
      rintro x y hx ⟨e, h, hq⟩
      rw [List.getElem?_append_right hx] at h
      have h2 := (List.getElem?_eq_some_iff.1 h)
      obtain ⟨h3, h4⟩ := h2
      have : x - l.length = 0 := by simpa using h3
      simp [this] at h
      rw [← h] at hq
      simp at hq
    refine ⟨by simp, fun i hi => List.getElem?_append_left hi, ⟨fun x hx => ?_, fun x hx => ?_, fun x y hx hb' => (hbh x y hx hb').elim⟩, fun w => ?_⟩
    · have := (hb x).1 hx; simp; omega
    · have := (hb x).1 hx; simp; omega
    · have hN : nodeL op cl ks w ↔ ∃ c, c ∈ cl ∧ w = [c] := by simp [nodeL, h1]
      rw [hN]
      unfold gls GL
      simp only [hb]
      constructor
      · rintro (⟨_, h⟩ | ⟨p, rfl, h⟩)
        · simp at h
        · match w, h with
          | c :: w, ⟨⟨e, h2, h3⟩, h4⟩ =>
            rw [List.getElem?_append_right (Nat.le_refl _)] at h2
            simp at h2
            subst h2
            rcases h4 with ⟨h4, _⟩ | ⟨q, h4, _⟩
            · exact ⟨c, h3, by rw [h4]⟩
            · exact (hbh _ _ (Nat.le_refl _) h4).elim
      · rintro ⟨c, hc, rfl⟩
        exact .inr ⟨_, rfl, ⟨(cl, 0), by simp, hc⟩, .inl ⟨rfl, rfl⟩⟩
  · rw [if_neg h1]
    by_cases h3 : op = 3
    · rw [if_pos h3]
      exact hfork.congr fun w => by simp [nodeL, h1, h3]
    · rw [if_neg h3]
      by_cases h4 : op = 4
      · rw [if_pos h4]
        have hk := h45 (.inl h4)
        have hs := hfork.isin
        have hbh := bhP_lead fork.1.en fork.1.fi fork.2
        refine ⟨by simpa [leadP_len] using hfork.len, fun i hi => ?_, ⟨fun x hx => ?_, fun x hx => ?_, fun x y hx hb => ?_⟩, fun w => ?_⟩
        · show (leadP _ _ _)[i]? = _
          rw [leadP_get, hfork.old i hi]
          have : ¬ fork.1.en.testBit i = true := fun h => by have := (hs.en i h).1; omega
          simp [this]
        · rw [leadP_len]; exact hs.fi x hx
        · rw [leadP_len]; exact hs.en x hx
        · rw [leadP_len]
          rcases (hbh x y).1 hb with h | ⟨_, _, h⟩
          · exact hs.bh x y hx h
          · exact hs.fi y h
        · have hN : nodeL op cl ks w ↔ starL (ks.headD (fun _ => False)) w := by simp [nodeL, h4, starL]
          rw [hN]
          have he : gls fork.2 fork.1 = ks.headD (fun _ => False) := funext fun w => propext ((hfork.lang w).trans (halt hk w))
          rw [← he]
          refine Iff.trans ?_ (gl_star (em := fork.1.em = true) (F := fun x => fork.1.fi.testBit x = true) (E := fun x => fork.1.en.testBit x = true) (B := bhP fork.2) (C := ccP fork.2) w)
          refine gl_congr (fun x => l.length ≤ x) (fun x hx => (hs.fi x hx).1) (fun x y hx hb => ?_) (by simp) (fun _ => Iff.rfl) (fun _ _ => Iff.rfl) (fun x y hx => ?_) (fun x c hx => ccP_lead _ _ _ x c) w
          · rcases (hbh x y).1 hb with h | ⟨_, _, h⟩
            · exact (hs.bh x y hx h).1
            · exact (hs.fi y h).1
          · rw [hbh]
            constructor
            · rintro (h | ⟨_, h⟩)
              · exact .inl h
              · exact .inr h
            · rintro (h | h)
              · exact .inl h
              · exact .inr ⟨(hs.en x h.1).2, h⟩
      · rw [if_neg h4]
        by_cases h5 : op = 5
        · rw [if_pos h5]
          have hk := h45 (.inr h5)
          refine ⟨hfork.len, hfork.old, ⟨hfork.isin.fi, hfork.isin.en, hfork.isin.bh⟩, fun w => ?_⟩
          have hN : nodeL op cl ks w ↔ w = [] ∨ ks.headD (fun _ => False) w := by simp [nodeL, h5]
          rw [hN, ← halt hk w, ← hfork.lang w]
          unfold gls
          have := gl_opt (em := fork.1.em = true) (F := fun x => fork.1.fi.testBit x = true) (E := fun x => fork.1.en.testBit x = true) (B := bhP fork.2) (C := ccP fork.2) w
          simpa using this
        · rw [if_neg h5]
          exact hrow.congr fun w => by simp [nodeL, h1, h3, h4, h5]
theorem fitF_len (f : Fo) : (fitF f).length = (toL f).length := by rw [fitF_map]; simp
/-- What parts read, behind what stands ahead of them. -/
theorem spF_ok : (f : Fo) → RightF f → (t : Bool) → (lo : Nat) → (s : Sp) → (l : Pl) → lo ≤ l.length → InSp lo s l → OkSp lo l (spF f t s l) (fun w => if t = true then ∃ u v, w = u ++ v ∧ gls l s u ∧ seqL (fitF f) v else gls l s w ∨ altL (fitF f) w)
  | .nil, _, t, lo, s, l, hlo, hs => by
    refine ⟨Nat.le_refl _, fun _ _ => rfl, hs, fun w => ?_⟩
    cases t
    · simp [spF, fitF, altL]
    · simp [spF, fitF, seqL]
  | .node _ _ a k r, h, t, lo, s, l, hlo, hs => by
    obtain ⟨h45, _, hk, hr⟩ := h
    have hrow := (spF_ok k hk true l.length ⟨true, 0, 0⟩ l (Nat.le_refl _) (insp_none true l)).congr (L' := seqL (fitF k)) (fun w => by
      simp only [if_true, gls_none]
      constructor
      · rintro ⟨u, v, rfl, ⟨rfl, _⟩, h⟩; simpa using h
      · intro h; exact ⟨[], w, by simp, ⟨rfl, trivial⟩, h⟩)
    have hfork := (spF_ok k hk false l.length ⟨false, 0, 0⟩ l (Nat.le_refl _) (insp_none false l)).congr (L' := altL (fitF k)) (fun w => by
      simp [gls_none])
    have htop := top_ok a.1 a.2 (fitF k) _ _ l (fun h => by rw [fitF_len]; exact h45 h) hrow hfork
    revert htop
    simp only [spF]
    generalize topQ a.1 a.2 (spF k true ⟨true, 0, 0⟩ l) (spF k false ⟨false, 0, 0⟩ l) l = q
    intro htop
    obtain ⟨p, l1⟩ := q
    cases t with
    | true =>
      have hst := step_row hlo hs htop.len htop.old htop.isin
      have ih := spF_ok r hr true lo (stepQ true s (p, l1)).1 (stepQ true s (p, l1)).2 (Nat.le_trans hlo hst.len) hst.isin
      refine ⟨Nat.le_trans hst.len ih.len, fun i hi => (ih.old i hi).trans (hst.old i hi), ih.isin, fun w => ?_⟩
      refine (ih.lang w).trans ?_
      simp only [if_true]
      constructor
      · rintro ⟨u, v, rfl, hu, hv⟩
        obtain ⟨u1, u2, rfl, h1, h2⟩ := (hst.lang u).1 hu
        exact ⟨u1, u2 ++ v, by simp, h1, u2, v, rfl, (htop.lang u2).1 h2, hv⟩
      · rintro ⟨u, v, rfl, hu, v1, v2, rfl, h1, h2⟩
        exact ⟨u ++ v1, v2, by simp, (hst.lang _).2 ⟨u, v1, rfl, hu, (htop.lang v1).2 h1⟩, h2⟩
    | false =>
      have hst := step_fork hlo hs htop.len htop.old htop.isin
      have ih := spF_ok r hr false lo (stepQ false s (p, l1)).1 (stepQ false s (p, l1)).2 (Nat.le_trans hlo hst.len) hst.isin
      refine ⟨Nat.le_trans hst.len ih.len, fun i hi => (ih.old i hi).trans (hst.old i hi), ih.isin, fun w => ?_⟩
      refine (ih.lang w).trans ?_
      have h1 := hst.lang w
      have h2 := htop.lang w
      simp only at h2
      simp only [Bool.false_eq_true, if_false, h1, h2, fitF, altL, List.mem_cons, exists_eq_or_imp, or_assoc]
/-- A machine by an expression's nodes reads just what that fits. -/
theorem span_ok (n : Nd) (h : n.right) (l : Pl) : OkSp l.length l (n.span l) n.fits := by
  obtain ⟨h45, _, hk, _⟩ := h
  refine top_ok n.op n.cl (fitF n.kids) _ _ l (fun h => by rw [fitF_len]; exact h45 h) ?_ ?_
  · exact (spF_ok n.kids hk true l.length ⟨true, 0, 0⟩ l (Nat.le_refl _) (insp_none true l)).congr (fun w => by
      simp only [if_true, gls_none]
      constructor
      · rintro ⟨u, v, rfl, ⟨rfl, _⟩, h⟩; simpa using h
      · intro h; exact ⟨[], w, by simp, ⟨rfl, trivial⟩, h⟩)
  · exact (spF_ok n.kids hk false l.length ⟨false, 0, 0⟩ l (Nat.le_refl _) (insp_none false l)).congr (fun w => by
      simp [gls_none])
end Go.Proofs.YthdeadmnicmgfaaDoor

/- Plain mathematics of an expression's spots: which nodes may come behind what was read, and does it fit there; nothing of the program is named here. -/
namespace Go.Proofs.YthdeadmnicmgfaaDoor
set_option linter.unusedVariables false
set_option linter.unusedSimpArgs false

/-! How large a plan is, and its classes. -/
theorem spF_len : (f : Fo) → (t : Bool) → (s : Sp) → (l : Pl) → l.length ≤ (spF f t s l).2.length ∧ (spF f t s l).2.length ≤ l.length + cntF f
  | .nil, t, s, l => by simp [spF, cntF]
  | .node _ _ a k r, t, s, l => by
    have h1 := spF_len k true ⟨true, 0, 0⟩ l
    have h2 := spF_len k false ⟨false, 0, 0⟩ l
    simp only [spF, cntF]
    have hq : l.length ≤ (topQ a.1 a.2 (spF k true ⟨true, 0, 0⟩ l) (spF k false ⟨false, 0, 0⟩ l) l).2.length ∧ (topQ a.1 a.2 (spF k true ⟨true, 0, 0⟩ l) (spF k false ⟨false, 0, 0⟩ l) l).2.length ≤ l.length + 1 + cntF k := by
      unfold topQ
      repeat' split
      all_goals (try simp only [leadP_len, List.length_append, List.length_cons, List.length_nil])
      all_goals omega
    revert hq
    generalize topQ a.1 a.2 (spF k true ⟨true, 0, 0⟩ l) (spF k false ⟨false, 0, 0⟩ l) l = q
    intro hq
    have h3 := spF_len r t (stepQ t s q).1 (stepQ t s q).2
    have h4 : (stepQ t s q).2.length = q.2.length := by
      unfold stepQ; split <;> simp [leadP_len]
    omega
theorem span_len (n : Nd) (l : Pl) : l.length ≤ (n.span l).2.length ∧ (n.span l).2.length ≤ l.length + n.cnt := by
  have h1 := spF_len n.kids true ⟨true, 0, 0⟩ l
  have h2 := spF_len n.kids false ⟨false, 0, 0⟩ l
  unfold Nd.span topQ Nd.cnt
  repeat' split
  all_goals (try simp only [leadP_len, List.length_append, List.length_cons, List.length_nil])
  all_goals omega
/-! Sets of nodes. -/
/-- The nodes that have a class. -/
def tkM (c : Int) : Pl → Nat → Nat
  | [], _ => 0
  | e :: r, i => (if c ∈ e.1 then 2 ^ i else 0) ||| tkM c r (i + 1)
theorem tkM_bit (c : Int) : (l : Pl) → (i p : Nat) → ((tkM c l i).testBit p = true ↔ ∃ j e, p = i + j ∧ l[j]? = some e ∧ c ∈ e.1)
  | [], i, p => by simp [tkM]
  | e :: r, i, p => by
    simp only [tkM, Nat.testBit_or, Bool.or_eq_true, tkM_bit c r (i + 1) p]
    constructor
    · rintro (h | ⟨j, e', h1, h2, h3⟩)
      · by_cases hc : c ∈ e.1
        · rw [if_pos hc, Nat.testBit_two_pow] at h
          exact ⟨0, e, by simp at h; omega, rfl, hc⟩
        · rw [if_neg hc] at h; simp at h
      · exact ⟨j + 1, e', by omega, by simpa using h2, h3⟩
    · rintro ⟨j, e', h1, h2, h3⟩
      cases j with
      | zero =>
        left
        simp at h2
        subst h2
        rw [if_pos h3, Nat.testBit_two_pow]
        simp; omega
      | succ j => exact .inr ⟨j, e', by omega, by simpa using h2, h3⟩
theorem tkM_ccP (c : Int) (l : Pl) (p : Nat) : (tkM c l 0).testBit p = true ↔ ccP l p c := by
  rw [tkM_bit]
  constructor
  · rintro ⟨j, e, rfl, h, hc⟩; exact ⟨e, by simpa using h, hc⟩
  · rintro ⟨e, h, hc⟩; exact ⟨p, e, by omega, h, hc⟩
/-- All that come behind some. -/
def unM (S : Nat) : Pl → Nat → Nat
  | [], _ => 0
  | e :: r, i => (if S.testBit i = true then e.2 else 0) ||| unM S r (i + 1)
theorem unM_bit (S : Nat) : (l : Pl) → (i q : Nat) → ((unM S l i).testBit q = true ↔ ∃ j e, S.testBit (i + j) = true ∧ l[j]? = some e ∧ e.2.testBit q = true)
  | [], i, q => by simp [unM]
  | e :: r, i, q => by
    simp only [unM, Nat.testBit_or, Bool.or_eq_true, unM_bit S r (i + 1) q]
    constructor
    · rintro (h | ⟨j, e', h1, h2, h3⟩)
      · by_cases hc : S.testBit i = true
        · rw [if_pos hc] at h
          exact ⟨0, e, by simpa using hc, rfl, h⟩
        · rw [if_neg hc] at h; simp at h
      · exact ⟨j + 1, e', by rw [← h1]; congr 1; omega, by simpa using h2, h3⟩
    · rintro ⟨j, e', h1, h2, h3⟩
      cases j with
      | zero =>
        left
        simp at h2
        subst h2
        rw [if_pos (by simpa using h1)]
        exact h3
      | succ j => exact .inr ⟨j, e', by rw [← h1]; congr 1; omega, by simpa using h2, h3⟩
theorem unM_bhP (S : Nat) (l : Pl) (q : Nat) : (unM S l 0).testBit q = true ↔ ∃ p, S.testBit p = true ∧ bhP l p q := by
  rw [unM_bit]
  constructor
  · rintro ⟨j, e, h1, h2, h3⟩; exact ⟨j, by simpa using h1, e, h2, h3⟩
  · rintro ⟨p, h1, e, h2, h3⟩; exact ⟨p, e, by simpa using h1, h2, h3⟩
/-! Spots. -/
def begS (s : Sp) : Nat × Bool := (s.fi, s.em)
def stepS (wh : Bool) (s : Sp) (l : Pl) (x : Nat × Bool) (c : Int) : Nat × Bool :=
  ((if wh = true then 0 else s.fi) ||| unM (x.1 &&& tkM c l 0) l 0, (!wh && s.em) || decide (x.1 &&& tkM c l 0 &&& s.en ≠ 0))
/-- A way through nodes to the one that comes next. -/
def Way (l : Pl) : List Int → Nat → Nat → Prop
  | [], p, q => p = q
  | c :: v, p, q => ccP l p c ∧ ∃ r, bhP l p r ∧ Way l v r q
theorem way_snoc (l : Pl) : (v : List Int) → (c : Int) → (p q : Nat) → (Way l (v ++ [c]) p q ↔ ∃ r, Way l v p r ∧ ccP l r c ∧ bhP l r q)
  | [], c, p, q => by
    show (ccP l p c ∧ ∃ r, bhP l p r ∧ r = q) ↔ ∃ r, p = r ∧ ccP l r c ∧ bhP l r q
    constructor
    · rintro ⟨h, r, h1, rfl⟩; exact ⟨p, rfl, h, h1⟩
    · rintro ⟨r, rfl, h, h1⟩; exact ⟨h, q, h1, rfl⟩
  | d :: v, c, p, q => by
    show (ccP l p d ∧ ∃ r, bhP l p r ∧ Way l (v ++ [c]) r q) ↔ ∃ r, (ccP l p d ∧ ∃ x, bhP l p x ∧ Way l v x r) ∧ ccP l r c ∧ bhP l r q
    constructor
    · rintro ⟨h, r, h1, h2⟩
      obtain ⟨x, h3, h4, h5⟩ := (way_snoc l v c r q).1 h2
      exact ⟨x, ⟨h, r, h1, h3⟩, h4, h5⟩
    · rintro ⟨x, ⟨h, r, h1, h3⟩, h4, h5⟩
      exact ⟨h, r, h1, (way_snoc l v c r q).2 ⟨x, h3, h4, h5⟩⟩
theorem pth_snoc (l : Pl) (E : Nat → Prop) : (v : List Int) → (c : Int) → (p : Nat) → (Pth (bhP l) (ccP l) E (v ++ [c]) p ↔ ∃ r, Way l v p r ∧ ccP l r c ∧ E r)
  | [], c, p => by
    show (ccP l p c ∧ (([] : List Int) = [] ∧ E p ∨ ∃ q, bhP l p q ∧ Pth (bhP l) (ccP l) E [] q)) ↔ ∃ r, p = r ∧ ccP l r c ∧ E r
    constructor
    · rintro ⟨h, ⟨_, h1⟩ | ⟨q, _, h1⟩⟩
      · exact ⟨p, rfl, h, h1⟩
      · exact h1.elim
    · rintro ⟨r, rfl, h, h1⟩; exact ⟨h, .inl ⟨rfl, h1⟩⟩
  | d :: v, c, p => by
    show (ccP l p d ∧ ((v ++ [c]) = [] ∧ E p ∨ ∃ q, bhP l p q ∧ Pth (bhP l) (ccP l) E (v ++ [c]) q)) ↔ ∃ r, (ccP l p d ∧ ∃ x, bhP l p x ∧ Way l v x r) ∧ ccP l r c ∧ E r
    constructor
    · rintro ⟨h, ⟨h1, _⟩ | ⟨q, h1, h2⟩⟩
      · simp at h1
      · obtain ⟨x, h3, h4, h5⟩ := (pth_snoc l E v c q).1 h2
        exact ⟨x, ⟨h, q, h1, h3⟩, h4, h5⟩
    · rintro ⟨x, ⟨h, r, h1, h3⟩, h4, h5⟩
      exact ⟨h, .inr ⟨r, h1, (pth_snoc l E v c r).2 ⟨x, h3, h4, h5⟩⟩⟩
/-- What a spot is behind a row. -/
def SpotP (wh : Bool) (s : Sp) (l : Pl) (w : List Int) (x : Nat × Bool) : Prop :=
  (∀ q, x.1.testBit q = true ↔ ∃ u v, w = u ++ v ∧ (wh = true → u = []) ∧ ∃ p, s.fi.testBit p = true ∧ Way l v p q) ∧ (x.2 = true ↔ ∃ u v, w = u ++ v ∧ (wh = true → u = []) ∧ gls l s v)
theorem spot_begin (wh : Bool) (s : Sp) (l : Pl) : SpotP wh s l [] (begS s) := by
  refine ⟨fun q => ?_, ?_⟩
  · constructor
    · intro h; exact ⟨[], [], rfl, fun _ => rfl, q, h, rfl⟩
    · rintro ⟨u, v, h, _, p, hp, hw⟩
      obtain ⟨rfl, rfl⟩ := List.append_eq_nil_iff.1 h.symm
      cases hw
      exact hp
  · constructor
    · intro h; exact ⟨[], [], rfl, fun _ => rfl, .inl ⟨rfl, h⟩⟩
    · rintro ⟨u, v, h, _, hg⟩
      obtain ⟨rfl, rfl⟩ := List.append_eq_nil_iff.1 h.symm
      rcases hg with ⟨_, h⟩ | ⟨p, _, h⟩
      · exact h
      · exact h.elim
theorem ne_zero_bit (n : Nat) : n ≠ 0 ↔ ∃ p, n.testBit p = true := by
  constructor
  · intro h
    exact Nat.exists_testBit_of_ne_zero h
  · rintro ⟨p, hp⟩ rfl; simp at hp
theorem split_snoc {w u v : List Int} {c : Int} (h : w ++ [c] = u ++ v) : (v = [] ∧ u = w ++ [c]) ∨ ∃ v', v = v' ++ [c] ∧ w = u ++ v' := by
  rcases List.eq_nil_or_concat v with rfl | ⟨v', d, rfl⟩
  · exact .inl ⟨rfl, by simpa using h.symm⟩
  · right
    rw [List.concat_eq_append, ← List.append_assoc] at h
    have h1 := List.append_inj' h rfl
    have h2 : c = d := by simpa using h1.2
    subst h2
    exact ⟨v', by simp, h1.1⟩
theorem spot_step {wh : Bool} {s : Sp} {l : Pl} {w : List Int} {x : Nat × Bool} (c : Int) (h : SpotP wh s l w x) : SpotP wh s l (w ++ [c]) (stepS wh s l x c) := by
  obtain ⟨h1, h2⟩ := h
  have ht : ∀ p, (x.1 &&& tkM c l 0).testBit p = true ↔ x.1.testBit p = true ∧ ccP l p c := fun p => by
    rw [Nat.testBit_and, Bool.and_eq_true, tkM_ccP]
  refine ⟨fun q => ?_, ?_⟩
  · show ((if wh = true then 0 else s.fi) ||| unM (x.1 &&& tkM c l 0) l 0).testBit q = true ↔ _
    rw [Nat.testBit_or, Bool.or_eq_true, unM_bhP]
    constructor
    · rintro (h | ⟨p, hp, hb⟩)
      · cases wh with
        | true => simp at h
        | false => exact ⟨w ++ [c], [], by simp, by simp, q, by simpa using h, rfl⟩
      · obtain ⟨hp1, hp2⟩ := (ht p).1 hp
        obtain ⟨u, v, rfl, hu, p0, hp0, hw⟩ := (h1 p).1 hp1
        exact ⟨u, v ++ [c], by simp, hu, p0, hp0, (way_snoc l v c p0 q).2 ⟨p, hw, hp2, hb⟩⟩
    · rintro ⟨u, v, e, hu, p0, hp0, hw⟩
      rcases split_snoc e with ⟨rfl, rfl⟩ | ⟨v', rfl, rfl⟩
      · left
        cases wh with
        | true => have := hu rfl; simp at this
        | false => cases hw; simpa using hp0
      · obtain ⟨p, h3, h4, h5⟩ := (way_snoc l v' c p0 q).1 hw
        exact .inr ⟨p, (ht p).2 ⟨(h1 p).2 ⟨u, v', rfl, hu, p0, hp0, h3⟩, h4⟩, h5⟩
  · show ((!wh && s.em) || decide (x.1 &&& tkM c l 0 &&& s.en ≠ 0)) = true ↔ _
    rw [Bool.or_eq_true, decide_eq_true_eq, ne_zero_bit]
    constructor
    · rintro (h | ⟨p, hp⟩)
      · cases wh with
        | true => simp at h
        | false => exact ⟨w ++ [c], [], by simp, by simp, .inl ⟨rfl, by simpa using h⟩⟩
      · rw [Nat.testBit_and, Bool.and_eq_true] at hp
        obtain ⟨hp1, hp2⟩ := (ht p).1 hp.1
        obtain ⟨u, v, rfl, hu, p0, hp0, hw⟩ := (h1 p).1 hp1
        exact ⟨u, v ++ [c], by simp, hu, .inr ⟨p0, hp0, (pth_snoc l _ v c p0).2 ⟨p, hw, hp2, hp.2⟩⟩⟩
    · rintro ⟨u, v, e, hu, hg⟩
      rcases split_snoc e with ⟨rfl, rfl⟩ | ⟨v', rfl, rfl⟩
      · left
        cases wh with
        | true => have := hu rfl; simp at this
        | false =>
          rcases hg with ⟨_, h⟩ | ⟨p, _, h⟩
          · simpa using h
          · exact h.elim
      · rcases hg with ⟨h, _⟩ | ⟨p0, hp0, h⟩
        · simp at h
        · obtain ⟨p, h3, h4, h5⟩ := (pth_snoc l _ v' c p0).1 h
          exact .inr ⟨p, by rw [Nat.testBit_and, Bool.and_eq_true]; exact ⟨(ht p).2 ⟨(h1 p).2 ⟨u, v', rfl, hu, p0, hp0, h3⟩, h4⟩, h5⟩⟩
theorem spot_run {wh : Bool} {s : Sp} {l : Pl} : (r : List Int) → (w : List Int) → (x : Nat × Bool) → SpotP wh s l w x → SpotP wh s l (w ++ r) (r.foldl (stepS wh s l) x)
  | [], w, x, h => by simpa using h
  | c :: r, w, x, h => by
    have := spot_run r (w ++ [c]) _ (spot_step c h)
    simpa using this
/-- The spot of an expression behind a row. -/
def Nd.spot (n : Nd) (wh : Bool) (w : List Int) : Nat × Bool := w.foldl (stepS wh (n.span []).1 (n.span []).2) (begS (n.span []).1)
/-- An expression fits behind a row: all of it, or an end of it. -/
theorem spot_fits (n : Nd) (h : n.right) (wh : Bool) (w : List Int) : (n.spot wh w).2 = true ↔ ∃ u v, w = u ++ v ∧ (wh = true → u = []) ∧ n.fits v := by
  have h1 := (spot_run (wh := wh) w [] _ (spot_begin wh (n.span []).1 (n.span []).2)).2
  simp only [List.nil_append] at h1
  refine h1.trans ?_
  refine exists_congr fun u => exists_congr fun v => and_congr_right fun _ => and_congr_right fun _ => (span_ok n h []).lang v
end Go.Proofs.YthdeadmnicmgfaaDoor
