/- The walks of rightCount, rightClasses, rightNode and Right. -/
import Derived.Test.YtjbhfonokgkalaaNfaC
namespace Go.Proofs.Ytjbhfonokgkalaa
open Go.RowKit
set_option linter.unusedVariables false
set_option linter.unusedSimpArgs false

theorem rc_any (op : Int) (k : Nat) (w : World) (hk : (k : Int) ≤ 2600000000000) : Calls Try.prog 69 #[.int .i64 op, .int .i64 (k : Int)] w fun e w' => e = .returned (.bool (rcB op k)) ∧ w' = w := by
  have e0 : decide (k = 0) = ((k : Int) == 0) := by rw [Bool.eq_iff_iff]; simp
  have e1 : decide (k = 1) = ((k : Int) == 1) := by rw [Bool.eq_iff_iff]; simp; omega
  have w1 : IntKind.i64.wrap ((k : Int) - 1) = (k : Int) - 1 := by rw [IntKind.wrap_i64]; omega
  have e2 : (((k : Int) - 1) == 0) = ((k : Int) == 1) := by rw [Bool.eq_iff_iff]; simp; omega
  by_cases h0 : op = 0
  · subst h0
    rw [show rcB 0 k = ((k : Int) == 0) by rw [← e0]; rfl]
    clear e0 e1 e2
    go_enter Try.func69, Try.ntmps69
    go_wp2
    go_ret
    exact ⟨rfl, rfl⟩
  by_cases h1 : op = 1
  · subst h1
    rw [show rcB 1 k = ((k : Int) == 0) by rw [← e0]; rfl]
    clear e0 e1 e2
    go_enter Try.func69, Try.ntmps69
    go_wp2
    go_ret
    exact ⟨rfl, rfl⟩
  by_cases h2 : op = 2
  · subst h2
    clear e0 e1 e2
    go_enter Try.func69, Try.ntmps69
    go_wp2
    go_ret
    exact ⟨rfl, rfl⟩
  by_cases h3 : op = 3
  · subst h3
    clear e0 e1 e2
    go_enter Try.func69, Try.ntmps69
    go_wp2
    go_ret
    exact ⟨rfl, rfl⟩
  obtain ⟨b, hb⟩ : ∃ b, b = ((k : Int) == 1) := ⟨_, rfl⟩
  by_cases h4 : op = 4
  · subst h4
    rw [show rcB 4 k = ((k : Int) == 1) by rw [← e1]; rfl]
    rw [← hb] at e2 ⊢
    have hb' := hb.symm
    clear e0 e1 hb
    go_enter Try.func69, Try.ntmps69
    go_wp2
    go_ret
    exact ⟨by simp_all, rfl⟩
  by_cases h5 : op = 5
  · subst h5
    rw [show rcB 5 k = ((k : Int) == 1) by rw [← e1]; rfl]
    rw [← hb] at e2 ⊢
    have hb' := hb.symm
    clear e0 e1 hb
    go_enter Try.func69, Try.ntmps69
    go_wp2
    go_ret
    exact ⟨by simp_all, rfl⟩
  · rw [show rcB op k = false by unfold rcB; simp [h0, h1, h2, h3, h4, h5]]
    clear e0 e1 e2 hb
    go_enter Try.func69, Try.ntmps69
    go_wp2
    go_ret
    exact ⟨rfl, rfl⟩
/-- Where the look at classes stands. -/
def lastI (l : List Int) : Int := l.foldl (fun _ x => x) (-1)
theorem lastI_snoc (l : List Int) (c : Int) : lastI (l ++ [c]) = c := by simp [lastI]
theorem risB_snoc : (l : List Int) → (a c : Int) → risB a (l ++ [c]) = (risB a l && decide (l.foldl (fun _ x => x) a < c) && decide (c < 24))
  | [], a, c => by simp only [List.nil_append, risB, Bool.and_true, Bool.true_and, List.foldl_nil]; rfl
  | x :: r, a, c => by
    have ih := risB_snoc r x c
    simp only [List.cons_append, risB, ih, Bool.and_assoc, List.foldl_cons]
    rfl
theorem risB_cut : (l m : List Int) → (a : Int) → risB a (l ++ m) = true → risB a l = true
  | [], _, _, _ => rfl
  | x :: r, m, a, h => by
    simp only [List.cons_append, risB, Bool.and_eq_true] at h ⊢
    exact ⟨h.1, risB_cut r m x h.2⟩
set_option maxHeartbeats 2000000 in
theorem rcl_any (op : Int) (cl : List Int) (ca pa : Option Addr) (cc pn pc : Nat) (w : World) (hrd : Rd .i64 w ca cl.length cl) (hm : cl.length ≤ 140737488355328) :
    Calls Try.prog 70 #[.agg #[.int .i64 op, .slice ca cl.length cc, .slice pa pn pc]] w fun e w' => e = .returned (.bool (rclB op cl)) ∧ Below w.heap.size w w' := by
  obtain ⟨n, hn⟩ : ∃ n, n = cl.length := ⟨_, rfl⟩
  have hni : (n : Int) ≤ 140737488355328 := by omega
  obtain ⟨wA, hwA⟩ : ∃ wA, wA = w.alloc (.cells #[.int .i64 op, .slice ca n cc, .slice pa pn pc] 33) := ⟨_, rfl⟩
  obtain ⟨H, hH⟩ : ∃ H, H = w.heap.size := ⟨_, rfl⟩
  have HB : Hid (Below w.heap.size w wA) := by rw [hwA]; exact (Below.refl _ w).alloc (Nat.le_refl _) _
  have hbx : wA.heap[H]? = some (.cells #[.int .i64 op, .slice ca n cc, .slice pa pn pc] 33) := by rw [hwA, hH]; exact heap_alloc_new w _
  have c0 : wA.cell? ⟨H, 0, none⟩ = some (.int .i64 op) := cell_of_row wA H 0 _ _ _ hbx
  have c1 : wA.cell? ⟨H, 1, none⟩ = some (.slice ca n cc) := cell_of_row wA H 1 _ _ _ hbx
  have HRD : Hid (Rd .i64 wA ca n cl) := by rw [hn]; exact hrd.later HB.out
  have HN : Hid (n = cl.length) := hn
  rw [← hn]
  by_cases h1 : op = 1
  · subst h1
    rw [show rclB 1 cl = risB (-1) cl from rfl]
    obtain ⟨R, hR⟩ : ∃ R, R = risB (-1) cl := ⟨_, rfl⟩
    have HR : Hid (R = risB (-1) cl) := hR
    rw [← hR]
    clear hR hrd hm hn hbx
    go_enter Try.func70, Try.ntmps70
    go_upto_region 1 with fail
    rw [← hH, ← hwA]
    clear hH hwA
    go_wp2
    go_loop [3, 16] (fun x3 x16 => ∃ k : Nat, k ≤ n ∧ x16 = .int .i64 k ∧ x3 = .int .i64 (lastI (cl.take k)) ∧ risB (-1) (cl.take k) = true) (fun _ x16 => n - (intOf x16).toNat)
    case atStart => exact ⟨0, by omega, rfl, rfl, rfl⟩
    case round =>
      obtain ⟨k, hk, hx16, hx3, hr⟩ := hrel
      subst hx16 hx3
      have HRI : Hid (risB (-1) (cl.take k) = true) := hr
      clear hr
      by_cases hlt : k < n
      · have hkl : k < cl.length := by rw [← HN.out]; exact hlt
        obtain ⟨b, off, rfl, hcl⟩ := HRD.out.2 (by omega)
        have hcc := hcl k hlt
        obtain ⟨x, hx⟩ : ∃ x, x = cl.getD k 0 := ⟨_, rfl⟩
        have hxk : x = cl[k] := by rw [hx]; simp [hkl]
        obtain ⟨y, hy⟩ : ∃ y, y = lastI (cl.take k) := ⟨_, rfl⟩
        have hsn : risB (-1) (cl.take (k + 1)) = (risB (-1) (cl.take k) && decide (y < x) && decide (x < 24)) := by
          rw [take_snoc cl k hkl, risB_snoc, hy, hxk]; rfl
        have HY : Hid (x = lastI (cl.take (k + 1))) := by
          show _ = _
          rw [take_snoc cl k hkl, lastI_snoc, hxk]
        rw [← hx] at hcc
        rw [← hy]
        rw [HRI.out, Bool.true_and] at hsn
        clear hcl hx hxk hy
        by_cases h2 : x ≤ y
        · have hR : R = false := by
            rw [HR.out]
            cases hh : risB (-1) cl with
            | false => rfl
            | true =>
              have := risB_cut (cl.take (k + 1)) (cl.drop (k + 1)) (-1) (by rw [List.take_append_drop]; exact hh)
              rw [hsn, decide_eq_false (by omega : ¬ y < x)] at this
              cases this
          subst hR
          clear hsn
          go_wp2
          go_ret
          exact ⟨rfl, HB.out⟩
        · by_cases h3 : x < 24
          · have HNX : Hid (risB (-1) (cl.take (k + 1)) = true) := by
              show _ = _
              rw [hsn]; simp; omega
            have h2' : y < x := by omega
            clear hsn h2
            go_wp2
            go_round
            case rel => exact ⟨k + 1, by omega, by go_num, by rw [← HY.out], HNX.out⟩
            case measure => simp [intOf]; omega
          · have hR : R = false := by
              rw [HR.out]
              cases hh : risB (-1) cl with
              | false => rfl
              | true =>
                have := risB_cut (cl.take (k + 1)) (cl.drop (k + 1)) (-1) (by rw [List.take_append_drop]; exact hh)
                rw [hsn, decide_eq_false h3, Bool.and_false] at this
                cases this
            subst hR
            have h2' : y < x := by omega
            have h3' : 24 ≤ x := by omega
            clear hsn h2 h3
            go_wp2
            go_ret
            exact ⟨rfl, HB.out⟩
      · have hR : R = true := by
          rw [HR.out, ← HRI.out, List.take_of_length_le (by rw [← HN.out]; omega)]
        subst hR
        go_wp2
        go_ret
        exact ⟨rfl, HB.out⟩
  · have hr : rclB op cl = ((n : Int) == 0) := by unfold rclB; rw [if_neg h1, Bool.eq_iff_iff]; simp only [decide_eq_true_eq, beq_iff_eq]; omega
    rw [hr]
    clear hr hrd hm hn hbx
    go_enter Try.func70, Try.ntmps70
    go_upto_region 1 with fail
    rw [← hH, ← hwA]
    clear hH hwA
    go_wp2
    go_ret
    exact ⟨rfl, HB.out⟩
/-- What rightNode tells, and leaves. -/
def RnPost (d : Nat) (n : Nd) (c bn : Nat) (w : World) (e : Ending) (w' : World) : Prop :=
  ∃ (b : Bool) (c' : Nat), e = .returned (.bool b) ∧ w.grownBy w' (some bn) ∧ w'.heap[bn]? = some (.cells #[nI c'] 3) ∧ c' ≤ c ∧ (b = true ↔ (okN d n = true ∧ n.cnt ≤ c)) ∧ (b = true → c' + n.cnt = c)
def RnC (d : Nat) : Prop := ∀ (D : Nat) (n : Nd) (ca pa : Option Addr) (cc pc c bn : Nat) (w0 w : World), InV w0.heap.size w0 D n [.int .i64 n.op, .slice ca n.cl.length cc, .slice pa (toL n.kids).length pc] → Below w0.heap.size w0 w → w0.heap.size ≤ bn → w.heap[bn]? = some (.cells #[nI c] 3) → c ≤ 1000 →
  Calls Try.prog 52 #[.agg #[.int .i64 n.op, .slice ca n.cl.length cc, .slice pa (toL n.kids).length pc], .int .i64 (d : Int), .pointer (some ⟨bn, 0, none⟩)] w (RnPost d n c bn w)
set_option maxHeartbeats 8000000 in
theorem rn_up (d : Nat) (hd : d ≤ 1000) (HP : RnC d) : RnC (d + 1) := by
  intro D n ca pa cc pc c bn w0 w hin hb0 hbn hbc hc
  have HPC : Hid (RnC d) := HP
  have HIN : Hid (InV w0.heap.size w0 D n [.int .i64 n.op, .slice ca n.cl.length cc, .slice pa (toL n.kids).length pc]) := hin
  have hbd := hin.bounds
  obtain ⟨hrd, hcl⟩ := hin.classes
  obtain ⟨op, hop⟩ : ∃ op, op = n.op := ⟨_, rfl⟩
  obtain ⟨cn, hcn⟩ : ∃ cn, cn = n.cl.length := ⟨_, rfl⟩
  obtain ⟨K, hK⟩ : ∃ K, K = (toL n.kids).length := ⟨_, rfl⟩
  have HCNT : Hid (n.cnt = 1 + cntL (toL n.kids)) := cnt_eq n
  obtain ⟨T, hT⟩ : ∃ T : Int, T = ((d + 1 : Nat) : Int) := ⟨_, rfl⟩
  have hTb : (T == 0) = false := by rw [beq_eq_false_iff_ne]; omega
  have hT0 : ¬ T = 0 := by omega
  have hTw : IntKind.i64.wrap (T - 1) = T - 1 := by rw [IntKind.wrap_i64]; omega
  have HT : Hid (T - 1 = (d : Int)) := by show _ = _; omega
  have hKi : (K : Int) ≤ 2600000000000 := by omega
  obtain ⟨wA, hwA⟩ : ∃ wA, wA = w.alloc (.cells #[.int .i64 op, .slice ca cn cc, .slice pa K pc] 33) := ⟨_, rfl⟩
  obtain ⟨H, hH⟩ : ∃ H, H = w.heap.size := ⟨_, rfl⟩
  have HB : Hid (Below w.heap.size w wA) := by rw [hwA]; exact (Below.refl _ w).alloc (Nat.le_refl _) _
  have HA0 : Hid (Below w0.heap.size w0 wA) := hb0.trans (HB.out.mono hb0.size)
  have hbx : wA.heap[H]? = some (.cells #[.int .i64 op, .slice ca cn cc, .slice pa K pc] 33) := by rw [hwA, hH]; exact heap_alloc_new w _
  have HBX : Hid (wA.heap[H]? = some (.cells #[.int .i64 op, .slice ca cn cc, .slice pa K pc] 33)) := hbx
  have hbcA : wA.heap[bn]? = some (.cells #[nI c] 3) := (HB.out.block bn (Array.getElem?_eq_some_iff.1 hbc).1).trans hbc
  have HBC : Hid (wA.heap[bn]? = some (.cells #[nI c] 3)) := hbcA
  have hbl : bn < w.heap.size := (Array.getElem?_eq_some_iff.1 hbc).1
  have HG0 : Hid (w.grownBy wA (some bn)) := ⟨HB.out.os, HB.out.tape, HB.out.output, HB.out.size, fun k hk _ => HB.out.block k hk⟩
  have HFALSE : Hid (∀ V : World, w.grownBy V (some bn) → V.heap[bn]? = some (.cells #[nI c] 3) → ¬ (okN (d + 1) n = true ∧ n.cnt ≤ c) → RnPost (d + 1) n c bn w (.returned (.bool false)) V) := fun V h1 h2 h3 => ⟨false, c, rfl, h1, h2, Nat.le_refl _, ⟨fun h => (by cases h), fun h => absurd h h3⟩, fun h => (by cases h)⟩
  have hOK : okN (d + 1) n = (rcB n.op (toL n.kids).length && rclB n.op n.cl && (toL n.kids).all (okN d)) := rfl
  have e0 : wA.cell? ⟨H, 0, none⟩ = some (.int .i64 op) := cell_of_row wA H 0 _ _ _ hbx
  have e1 : wA.cell? ⟨H, 1, none⟩ = some (.slice ca cn cc) := cell_of_row wA H 1 _ _ _ hbx
  have e2 : wA.cell? ⟨H, 2, none⟩ = some (.slice pa K pc) := cell_of_row wA H 2 _ _ _ hbx
  have eb : wA.cell? ⟨bn, 0, none⟩ = some (.int .i64 (c : Int)) := cell_of_row wA bn 0 _ _ _ hbcA
  have HRC : Hid (Calls Try.prog 69 #[.int .i64 op, .int .i64 (K : Int)] wA fun e w' => e = .returned (.bool (rcB op K)) ∧ w' = wA) := rc_any op K wA hKi
  have HRL : Hid (Calls Try.prog 70 #[.agg #[.int .i64 op, .slice ca cn cc, .slice pa K pc]] wA fun e w' => e = .returned (.bool (rclB op n.cl)) ∧ Below wA.heap.size wA w') := by
    rw [hcn]; exact rcl_any op n.cl ca pa cc K pc wA (hrd.later HA0.out) hcl
  rw [← hop, ← hcn, ← hK, ← hT]
  rw [← hop, ← hK] at hOK
  have HOK : Hid (okN (d + 1) n = (rcB op K && rclB op n.cl && (toL n.kids).all (okN d))) := hOK
  have HK : Hid (K = (toL n.kids).length) := hK
  have HCN : Hid (1 ≤ n.cnt) := by rw [HCNT.out]; show 1 ≤ _; omega
  have hci : (c : Int) ≤ 1000 := by omega
  have HBB : Hid (w0.heap.size ≤ bn ∧ bn < w.heap.size ∧ H = w.heap.size ∧ Below w0.heap.size w0 w) := ⟨hbn, hbl, hH, hb0⟩
  clear HP hin hb0 hbn hbc hbd hrd hcl hop hcn hK hT hbx hbcA hbl hOK hc
  go_enter Try.func52, Try.ntmps52
  go_upto_region 1 with fail
  rw [← hH, ← hwA]
  clear hH hwA
  by_cases hc0 : c = 0
  · have HFN : Hid (RnPost (d + 1) n c bn w (.returned (.bool false)) wA) := HFALSE.out wA HG0.out HBC.out (fun h => by have := h.2; have := HCN.out; omega)
    have hcb : ((c : Int) == 0) = true := by rw [hc0]; rfl
    have hci0 : (c : Int) = 0 := by omega
    subst hc0
    go_wp2
    go_ret
    exact HFN.out
  have hcb : ((c : Int) == 0) = false := by rw [beq_eq_false_iff_ne]; omega
  have hci0 : ¬ (c : Int) = 0 := by omega
  go_wp2_with fail
  refine HRC.out.mono ?_
  rintro e w1 ⟨rfl, hw1⟩
  obtain rfl : wA = w1 := hw1.symm
  clear HRC
  obtain ⟨x, hx⟩ : ∃ x, x = rcB op K := ⟨_, rfl⟩
  rw [← hx]
  rw [← hx] at HOK
  cases x with
  | false =>
    have HFN : Hid (RnPost (d + 1) n c bn w (.returned (.bool false)) wA) := HFALSE.out wA HG0.out HBC.out (fun h => by rw [HOK.out] at h; cases h.1)
    clear hx
    go_wp2
    go_ret
    exact HFN.out
  | true =>
    clear hx
    go_wp2_with fail
    refine HRL.out.mono ?_
    rintro e w1 ⟨rfl, hb1⟩
    obtain ⟨y, hy⟩ : ∃ y, y = rclB op n.cl := ⟨_, rfl⟩
    rw [← hy]
    rw [← hy] at HOK
    have HB1 : Hid (Below wA.heap.size wA w1) := hb1
    have HG1 : Hid (w.grownBy w1 (some bn)) := grown_all HG0.out ⟨hb1.os, hb1.tape, hb1.output, hb1.size, fun k hk _ => hb1.block k hk⟩
    have HBC1 : Hid (w1.heap[bn]? = some (.cells #[nI c] 3)) := (hb1.block bn (Array.getElem?_eq_some_iff.1 HBC.out).1).trans HBC.out
    have HBX1 : Hid (w1.heap[H]? = some (.cells #[.int .i64 op, .slice ca cn cc, .slice pa K pc] 33)) := (hb1.block H (Array.getElem?_eq_some_iff.1 HBX.out).1).trans HBX.out
    clear hb1 HRL e0 e1 e2 eb
    cases y with
    | false =>
      have HFN : Hid (RnPost (d + 1) n c bn w (.returned (.bool false)) w1) := HFALSE.out w1 HG1.out HBC1.out (fun h => by rw [HOK.out] at h; cases h.1)
      clear hy
      go_wp2
      go_ret
      exact HFN.out
    | true =>
      clear hy
      have eb : w1.cell? ⟨bn, 0, none⟩ = some (.int .i64 (c : Int)) := cell_of_row w1 bn 0 _ _ _ HBC1.out
      have ef : w1.frozen? ⟨bn, 0, none⟩ = false := Lib.frozen_of_heap HBC1.out 0
      obtain ⟨c1, hc1⟩ : ∃ c1 : Nat, c1 + 1 = c := ⟨c - 1, by omega⟩
      have hcw : IntKind.i64.wrap ((c : Int) - 1) = (c1 : Int) := by rw [IntKind.wrap_i64]; omega
      have hcs : (c : Int) - 1 = (c1 : Int) := by omega
      obtain ⟨w2, hw2⟩ : ∃ w2, w2 = w1.setCell ⟨bn, 0, none⟩ (.int .i64 (c1 : Int)) := ⟨_, rfl⟩
      have HB2 : Hid (w2.heap[bn]? = some (.cells #[nI c1] 3)) := by rw [hw2]; exact heap_setCell_same w1 bn 0 _ _ _ HBC1.out
      have HG12 : Hid (w1.grownBy w2 (some bn)) := by rw [hw2]; exact grown_cell w1 bn 0 _
      have HG2 : Hid (w.grownBy w2 (some bn)) := grown_all HG1.out HG12.out
      have hneH : bn ≠ H := by have := HBB.out; omega
      have HBX2 : Hid (w2.heap[H]? = some (.cells #[.int .i64 op, .slice ca cn cc, .slice pa K pc] 33)) := (HG12.out.block H (Array.getElem?_eq_some_iff.1 HBX1.out).1 (fun e => hneH (Option.some.inj e).symm)).trans HBX1.out
      have HC1 : Hid (c1 + 1 = c) := hc1
      clear hc1
      go_upto_region 4 with fail
      rw [← hw2]
      clear hw2 eb ef hcw hcs
      have f2 : w2.cell? ⟨H, 2, none⟩ = some (.slice pa K pc) := cell_of_row w2 H 2 _ _ _ HBX2.out
      go_wp2
      go_loopw [39] (fun x39 wr => ∃ k ck : Nat, k ≤ K ∧ x39 = .int .i64 k ∧ w.grownBy wr (some bn) ∧ wr.heap[bn]? = some (.cells #[nI ck] 3) ∧ ck + 1 + cntL ((toL n.kids).take k) = c ∧ ((toL n.kids).take k).all (okN d) = true) (fun x39 _ => K - (intOf x39).toNat)
      case atStart => exact ⟨0, c1, by omega, rfl, HG2.out, HB2.out, by have := HC1.out; simp [cntL]; omega, rfl⟩
      case round =>
        obtain ⟨k, ck, hk, hx39, hg, hbk, hck, hall⟩ := hrel
        subst hx39
        have HG : Hid (w.grownBy wr (some bn)) := hg
        have HBK : Hid (wr.heap[bn]? = some (.cells #[nI ck] 3)) := hbk
        have HCK : Hid (ck + 1 + cntL ((toL n.kids).take k) = c) := hck
        have HALL : Hid (((toL n.kids).take k).all (okN d) = true) := hall
        clear hg hbk hck hall f2
        by_cases hlt : k < K
        · have hkn : k < (toL n.kids).length := by rw [← HK.out]; exact hlt
          have HW0 : Hid (Below w0.heap.size w0 wr) := by
            obtain ⟨q1, q2, q3, q4⟩ := HBB.out
            exact q4.grown HG.out q4.size (fun k hk => by cases hk; exact q1)
          obtain ⟨b, off, xa, xc, ya, yc, d', hpa, hkid, _, c0', c1', c2'⟩ := HIN.out.kid k hkn
          subst hpa
          have c0 := upC HW0.out c0'
          have c1 := upC HW0.out c1'
          have c2 := upC HW0.out c2'
          have HV : Hid (∀ W1 : World, Below wr.heap.size wr W1 → Calls Try.prog 52 #[.agg #[.int .i64 (toL n.kids)[k].op, .slice xa (toL n.kids)[k].cl.length xc, .slice ya (toL (toL n.kids)[k].kids).length yc], .int .i64 (T - 1), .pointer (some ⟨bn, 0, none⟩)] W1 (RnPost d (toL n.kids)[k] ck bn W1)) := by
            intro W1 hW1
            rw [HT.out]
            refine HPC.out d' (toL n.kids)[k] xa ya xc yc ck bn w0 W1 hkid (HW0.out.trans (hW1.mono HW0.out.size)) HBB.out.1 ((hW1.block bn (Array.getElem?_eq_some_iff.1 HBK.out).1).trans HBK.out) ?_
            have := HCK.out
            omega
          obtain ⟨xo, hxo⟩ : ∃ xo, xo = (toL n.kids)[k].op := ⟨_, rfl⟩
          obtain ⟨xn, hxn⟩ : ∃ xn, xn = (toL n.kids)[k].cl.length := ⟨_, rfl⟩
          obtain ⟨xk, hxk⟩ : ∃ xk, xk = (toL (toL n.kids)[k].kids).length := ⟨_, rfl⟩
          rw [← hxo] at c0 HV
          rw [← hxn] at c1 HV
          rw [← hxk] at c2 HV
          obtain ⟨W1, hW1⟩ : ∃ W1, W1 = wr.alloc (.cells #[.int .i64 xo, .slice xa xn xc, .slice ya xk yc] 33) := ⟨_, rfl⟩
          have HBW : Hid (Below wr.heap.size wr W1) := by rw [hW1]; exact (Below.refl _ wr).alloc (Nat.le_refl _) _
          have HCC := HV.out W1 HBW.out
          have HC : Hid (Calls Try.prog 52 #[.agg #[.int .i64 xo, .slice xa xn xc, .slice ya xk yc], .int .i64 (T - 1), .pointer (some ⟨bn, 0, none⟩)] W1 (RnPost d (toL n.kids)[k] ck bn W1)) := HCC
          clear HCC HV hkid c0' c1' c2' hxo hxn hxk
          go_wp2_with fail
          rw [← hW1]
          clear hW1 c0 c1 c2
          refine HC.out.mono ?_
          rintro e w3 ⟨b3, c3, rfl, hg3, hb3, hc3, hi3, ht3⟩
          have HG3 : Hid (w.grownBy w3 (some bn)) := grown_all (grown_all HG.out ⟨HBW.out.os, HBW.out.tape, HBW.out.output, HBW.out.size, fun k hk _ => HBW.out.block k hk⟩) hg3
          have HB3 : Hid (w3.heap[bn]? = some (.cells #[nI c3] 3)) := hb3
          have HI3 : Hid ((b3 = true ↔ (okN d (toL n.kids)[k] = true ∧ (toL n.kids)[k].cnt ≤ ck)) ∧ (b3 = true → c3 + (toL n.kids)[k].cnt = ck) ∧ c3 ≤ ck) := ⟨hi3, ht3, hc3⟩
          clear hg3 hb3 hc3 hi3 ht3 HC
          cases b3 with
          | false =>
            have HFN : Hid (RnPost (d + 1) n c bn w (.returned (.bool false)) w3) := by
              refine ⟨false, c3, rfl, HG3.out, HB3.out, by have := HI3.out.2.2; have := HCK.out; omega, ⟨fun h => (by cases h), fun h => ?_⟩, fun h => (by cases h)⟩
              exfalso
              have h1 := h.1
              rw [HOK.out] at h1
              simp only [Bool.true_and, List.all_eq_true] at h1
              have h2 := h1 _ (List.getElem_mem hkn)
              have h3 := cntL_take (toL n.kids) k hkn
              have h4 := HCNT.out
              have h5 := HCK.out
              have h6 := h.2
              have h7 := HI3.out.1.2 ⟨h2, by omega⟩
              cases h7
            go_wp2
            go_ret
            exact HFN.out
          | true =>
            have HNX : Hid (c3 + 1 + cntL ((toL n.kids).take (k + 1)) = c ∧ ((toL n.kids).take (k + 1)).all (okN d) = true) := by
              have h1 := HI3.out.2.1 rfl
              have h2 := HCK.out
              refine ⟨?_, ?_⟩
              · rw [take_snoc _ k hkn, cntL_snoc]; omega
              · rw [take_snoc _ k hkn, List.all_append, HALL.out]
                simp [(HI3.out.1.1 rfl).1]
            go_wp2
            go_roundw
            case rel => exact ⟨k + 1, c3, by omega, by go_num, HG3.out, HB3.out, HNX.out.1, HNX.out.2⟩
            case measure => simp [intOf]; omega
        · obtain rfl : k = K := by omega
          have HFN : Hid (RnPost (d + 1) n c bn w (.returned (.bool true)) wr) := by
            have ht : (toL n.kids).take k = toL n.kids := List.take_of_length_le (by rw [← HK.out]; exact Nat.le_refl _)
            have h1 := HCK.out
            have h2 := HALL.out
            rw [ht] at h1 h2
            have h3 := HCNT.out
            refine ⟨true, ck, rfl, HG.out, HBK.out, by omega, ⟨fun _ => ⟨by rw [HOK.out, h2]; rfl, by omega⟩, fun _ => rfl⟩, fun _ => by omega⟩
          go_wp2
          go_ret
          exact HFN.out
theorem rn_zero : RnC 0 := by
  intro D n ca pa cc pc c bn w0 w hin hb0 hbn hbc hc
  have HFN : Hid (∀ V, Below w.heap.size w V → RnPost 0 n c bn w (.returned (.bool false)) V) := fun V hV => ⟨false, c, rfl, ⟨hV.os, hV.tape, hV.output, hV.size, fun k hk _ => hV.block k hk⟩, (hV.block bn (Array.getElem?_eq_some_iff.1 hbc).1).trans hbc, Nat.le_refl _, ⟨fun h => (by cases h), fun h => (by simp [okN] at h)⟩, fun h => (by cases h)⟩
  clear hin hb0 hbn hbc hc
  go_enter Try.func52, Try.ntmps52
  go_wp2
  go_ret
  exact HFN.out _ ((Below.refl _ w).alloc (Nat.le_refl _) _)
theorem rn_any : (d : Nat) → d ≤ 1000 → RnC d
  | 0, _ => rn_zero
  | d + 1, h => rn_up d (by omega) (rn_any d (by omega))
set_option maxHeartbeats 2000000 in
theorem right_any (D : Nat) (n : Nd) (ca pa : Option Addr) (cc pc : Nat) (w : World) (hin : InV w.heap.size w D n [.int .i64 n.op, .slice ca n.cl.length cc, .slice pa (toL n.kids).length pc]) :
    Calls Try.prog 27 #[.agg #[.int .i64 n.op, .slice ca n.cl.length cc, .slice pa (toL n.kids).length pc]] w fun e w' => e = .returned (.bool n.ok) ∧ Below w.heap.size w w' := by
  obtain ⟨op, hop⟩ : ∃ op, op = n.op := ⟨_, rfl⟩
  obtain ⟨cn, hcn⟩ : ∃ cn, cn = n.cl.length := ⟨_, rfl⟩
  obtain ⟨K, hK⟩ : ∃ K, K = (toL n.kids).length := ⟨_, rfl⟩
  obtain ⟨W0, hW0⟩ : ∃ W0, W0 = (w.alloc (.cells #[.int .i64 op, .slice ca cn cc, .slice pa K pc] 33)).alloc (.cells #[.int .i64 400] 3) := ⟨_, rfl⟩
  obtain ⟨H, hH⟩ : ∃ H, H = w.heap.size := ⟨_, rfl⟩
  have HB0 : Hid (Below w.heap.size w W0) := by rw [hW0]; exact ((Below.refl _ w).alloc (Nat.le_refl _) _).alloc (by simp) _
  have hax : W0.heap[H]? = some (.cells #[.int .i64 op, .slice ca cn cc, .slice pa K pc] 33) := by
    rw [hW0, hH]
    exact (((Below.refl _ (w.alloc _)).alloc (Nat.le_refl _) _).block w.heap.size (by simp)).trans (heap_alloc_new w _)
  have hbx : W0.heap[H + 1]? = some (.cells #[nI 400] 3) := by
    have := heap_alloc_new (w.alloc (.cells #[.int .i64 op, .slice ca cn cc, .slice pa K pc] 33)) (.cells #[.int .i64 400] 3)
    rw [show (w.alloc (.cells #[.int .i64 op, .slice ca cn cc, .slice pa K pc] 33)).heap.size = w.heap.size + 1 by simp] at this
    rw [hW0, hH]
    exact this
  have HC : Hid (Calls Try.prog 52 #[.agg #[.int .i64 op, .slice ca cn cc, .slice pa K pc], .int .i64 32, .pointer (some ⟨H + 1, 0, none⟩)] W0 (RnPost 32 n 400 (H + 1) W0)) := by
    rw [hop, hcn, hK]
    exact rn_any 32 (by omega) D n ca pa cc pc 400 (H + 1) w W0 hin HB0.out (by omega) hbx (by omega)
  have e0 : W0.cell? ⟨H, 0, none⟩ = some (.int .i64 op) := cell_of_row W0 H 0 _ _ _ hax
  have e1 : W0.cell? ⟨H, 1, none⟩ = some (.slice ca cn cc) := cell_of_row W0 H 1 _ _ _ hax
  have e2 : W0.cell? ⟨H, 2, none⟩ = some (.slice pa K pc) := cell_of_row W0 H 2 _ _ _ hax
  have HFIN : Hid (∀ (b : Bool) (w' : World), W0.grownBy w' (some (H + 1)) → Below w.heap.size w w') := fun b w' hg => HB0.out.grown hg HB0.out.size (fun k hk => by cases hk; omega)
  rw [← hop, ← hcn, ← hK]
  clear hin hop hcn hK hax hbx
  go_enter Try.func27, Try.ntmps27
  go_upto_region 2 with fail
  rw [← hH, ← hW0]
  clear hH hW0
  go_wp2_with fail
  refine HC.out.mono ?_
  rintro e w1 ⟨b, c', rfl, hg, _, _, hi, _⟩
  have HE : Hid (b = n.ok ∧ Below w.heap.size w w1) := ⟨by rw [Bool.eq_iff_iff, hi]; unfold Nd.ok; simp, HFIN.out b w1 hg⟩
  clear hg hi e0 e1 e2 HC
  go_wp2
  go_ret
  exact ⟨by rw [HE.out.1]; rfl, HE.out.2⟩
end Go.Proofs.Ytjbhfonokgkalaa
