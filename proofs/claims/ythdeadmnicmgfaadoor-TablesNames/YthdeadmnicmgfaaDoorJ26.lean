/- In one text: TabE, DfaRb, DfaRc. -/
import Derived.Test.YthdeadmnicmgfaaDoorJ25
import Derived.Test.YthdeadmnicmgfaaDoorJ24
/- The walk of Decide. -/
namespace Go.Proofs.YthdeadmnicmgfaaDoor
open Go.RowKit Go.Shelf
set_option linter.unusedVariables false
set_option linter.unusedSimpArgs false

/-- What the first rule among so many, from one on, that fits on both sides says. -/
def dcB (br x : Nat) : Nat → Nat → Bool
  | 0, _ => true
  | m + 1, i => if x.testBit i = true then br.testBit i else dcB br x m (i + 1)
theorem wrap_two (i : Nat) (h : i < 64) : IntKind.u64.wrap ((2 : Int) ^ i) = ((2 ^ i : Nat) : Int) := by
  have h1 : (2 : Nat) ^ i < 2 ^ 64 := Nat.pow_lt_pow_right (by decide) h
  have h2 : ((2 : Int) ^ i) = ((2 ^ i : Nat) : Int) := by simp
  rw [h2]
  generalize 2 ^ i = x at h1
  rw [IntKind.wrap_u64]
  omega
theorem and_pow (x i : Nat) : x &&& 2 ^ i = if x.testBit i = true then 2 ^ i else 0 := by
  refine Nat.eq_of_testBit_eq fun p => ?_
  rw [Nat.testBit_and, Nat.testBit_two_pow]
  by_cases h : i = p
  · subst h; cases hb : x.testBit i <;> simp [Nat.testBit_two_pow]
  · cases hb : x.testBit i <;> simp [Nat.testBit_two_pow, h]
theorem and_two (x i : Nat) (hx : x < 2 ^ 64) (h : i < 64) : (bits .and .u64 (x : Int) (IntKind.u64.wrap ((2 : Int) ^ i)) != 0) = x.testBit i := by
  have h1 : (2 : Nat) ^ i < 2 ^ 64 := Nat.pow_lt_pow_right (by decide) h
  have h2 : (0 : Nat) < 2 ^ i := Nat.two_pow_pos i
  rw [wrap_two i h, u64_and_nat _ _ hx h1, and_pow]
  cases x.testBit i with
  | false => rfl
  | true =>
    rw [if_pos rfl, bne_iff_ne]
    omega
set_option maxHeartbeats 4000000 in
theorem decide_any (w : World) (tb RN br a b : Nat) (p0 p1 : Value) (hh : w.heap[tb]? = some (.cells #[p0, p1, .int .u64 (br : Int), .int .i64 (RN : Int)] 58)) (hn : RN ≤ 40) (hbr : br < 2 ^ 64) (ha : a < 2 ^ 64) (hb : b < 2 ^ 64) :
    Calls Tryd.prog 22 #[.pointer (some ⟨tb, 0, none⟩), .int .u64 (a : Int), .int .u64 (b : Int)] w fun e w' => e = .returned (.bool (dcB br (a &&& b) RN 0)) ∧ w' = w := by
  have c2 : w.cell? ⟨tb, 2, none⟩ = some (.int .u64 (br : Int)) := cell_of_row w tb 2 _ _ _ hh
  have c3 : w.cell? ⟨tb, 3, none⟩ = some (.int .i64 (RN : Int)) := cell_of_row w tb 3 _ _ _ hh
  have hni : (RN : Int) ≤ 40 := by omega
  have hab : bits .and .u64 (a : Int) (b : Int) = ((a &&& b : Nat) : Int) := u64_and_nat _ _ ha hb
  obtain ⟨x, hx⟩ : ∃ x, x = a &&& b := ⟨_, rfl⟩
  have hx64 : x < 2 ^ 64 := by rw [hx]; exact Nat.lt_of_le_of_lt Nat.and_le_left ha
  have HX : Hid (bits .and .u64 (a : Int) (b : Int) = (x : Int) ∧ x < 2 ^ 64 ∧ br < 2 ^ 64) := ⟨by rw [hab, hx], hx64, hbr⟩
  have hmin : min (RN : Int) 64 = (RN : Int) := by omega
  rw [← hx]
  clear hab hx hx64 hbr ha hb hh
  go_enter Tryd.func22, Tryd.ntmps22
  go_wp2_with fail
  go_loopw [6, 16] (fun x6 x16 wr => ∃ i : Nat, i ≤ RN ∧ x16 = .int .i64 (i : Int) ∧ dcB br x RN 0 = dcB br x (RN - i) i ∧ wr = w) (fun _ x16 _ => RN - (intOf x16).toNat)
  case atStart => exact ⟨0, by omega, rfl, by simp, rfl⟩
  case round =>
    obtain ⟨i, hi, hx16, hd, hw⟩ := hrel
    subst hx16 hw
    have HD : Hid (dcB br x RN 0 = dcB br x (RN - i) i) := hd
    clear hd
    by_cases hlt : i < RN
    · have hlti : (i : Int) < (RN : Int) := by omega
      have hi64 : (i : Int) < 64 := by omega
      have HE : Hid (dcB br x RN 0 = if x.testBit i = true then br.testBit i else dcB br x (RN - (i + 1)) (i + 1)) := by
        show _ = _
        rw [HD.out, show RN - i = (RN - (i + 1)) + 1 by omega, dcB]
      have HA : Hid ((bits .and .u64 (x : Int) (IntKind.u64.wrap ((2 : Int) ^ i)) != 0) = x.testBit i) := and_two x i HX.out.2.1 (by omega)
      have HB : Hid ((bits .and .u64 (br : Int) (IntKind.u64.wrap ((2 : Int) ^ i)) != 0) = br.testBit i) := and_two br i HX.out.2.2 (by omega)
      have hAB := HX.out.1
      cases hxb : x.testBit i with
      | true =>
        have hq : (bits .and .u64 (x : Int) (IntKind.u64.wrap ((2 : Int) ^ i)) != 0) = true := by rw [← hxb]; exact HA.out
        have HE2 : Hid (dcB br x RN 0 = (bits .and .u64 (br : Int) (IntKind.u64.wrap ((2 : Int) ^ i)) != 0)) := by show _ = _; rw [HE.out, if_pos hxb, HB.out]
        clear hxb HA
        go_wp2_with fail
        go_ret
        exact ⟨by rw [HE2.out]; rfl, rfl⟩
      | false =>
        have hq : (bits .and .u64 (x : Int) (IntKind.u64.wrap ((2 : Int) ^ i)) != 0) = false := by rw [← hxb]; exact HA.out
        have HE2 : Hid (dcB br x RN 0 = dcB br x (RN - (i + 1)) (i + 1)) := by show _ = _; rw [HE.out, if_neg (by rw [hxb]; decide)]
        clear hxb HA
        go_wp2_with fail
        go_roundw
        case rel => exact ⟨i + 1, by omega, by go_num, HE2.out, trivial⟩
        case measure => simp [intOf]; omega
    · have hiR : RN = i := by omega
      subst hiR
      go_wp2_with fail
      go_ret
      exact ⟨by rw [HD.out, Nat.sub_self]; rfl, rfl⟩
end Go.Proofs.YthdeadmnicmgfaaDoor

/- The walks of slices.Equal. -/
namespace Go.Proofs.YthdeadmnicmgfaaDoor
open Go.RowKit Go.Shelf Go.Maps
set_option linter.unusedVariables false
set_option linter.unusedSimpArgs false

set_option maxRecDepth 100000 in
set_option maxHeartbeats 4000000 in
theorem eq_i64 (xs ys : List Int) (a b : Option Addr) (ca cb : Nat) (w : World) (hx : Rd .i64 w a xs.length xs) (hy : Rd .i64 w b ys.length ys) (hl : xs.length ≤ 1000000) (hl2 : ys.length ≤ 1000000) :
    Calls Tryd.prog 51 #[.slice a xs.length ca, .slice b ys.length cb] w fun e w' => e = .returned (.bool (decide (xs = ys))) ∧ Below w.heap.size w w' := by
  obtain ⟨n, hn⟩ : ∃ n, n = xs.length := ⟨_, rfl⟩
  obtain ⟨m, hm⟩ : ∃ m, m = ys.length := ⟨_, rfl⟩
  obtain ⟨R, hR⟩ : ∃ R, R = decide (xs = ys) := ⟨_, rfl⟩
  have HN : Hid (n = xs.length ∧ m = ys.length ∧ R = decide (xs = ys)) := ⟨hn, hm, hR⟩
  have HX : Hid (Rd .i64 w a n xs) := by rw [hn]; exact hx
  have HY : Hid (Rd .i64 w b m ys) := by rw [hm]; exact hy
  have hni : (n : Int) ≤ 1000000 := by omega
  have hmi : (m : Int) ≤ 1000000 := by omega
  rw [← hn, ← hm, ← hR]
  clear hx hy hl hl2 hn hm hR
  by_cases hnm : (n : Int) = (m : Int)
  · obtain rfl : n = m := by omega
    clear hnm
    go_enter Tryd.func51, Tryd.ntmps51
    go_wp2_with fail
    go_loopw [13] (fun x13 wr => ∃ k : Nat, k ≤ n ∧ x13 = .int .i64 (k : Int) ∧ xs.take k = ys.take k ∧ Below w.heap.size w wr) (fun x13 _ => n - (intOf x13).toNat)
    case atStart => exact ⟨0, by omega, rfl, rfl, Below.refl _ _⟩
    case round =>
      obtain ⟨k, hk, hx13, hs, hb⟩ := hrel
      subst hx13
      have HS : Hid (xs.take k = ys.take k) := hs
      have HB : Hid (Below w.heap.size w wr) := hb
      clear hs hb
      by_cases hlt : k < n
      · have hkx : k < xs.length := by rw [← HN.out.1]; exact hlt
        have hky : k < ys.length := by rw [← HN.out.2.1]; exact hlt
        obtain ⟨b1, o1, rfl, hc1⟩ := HX.out.2 (by omega)
        obtain ⟨b2, o2, rfl, hc2⟩ := HY.out.2 (by omega)
        have a1 := upC HB.out (hc1 k hlt)
        have a2 := upC HB.out (hc2 k hlt)
        obtain ⟨X, hX⟩ : ∃ X, X = xs[k] := ⟨_, rfl⟩
        obtain ⟨Y, hY⟩ : ∃ Y, Y = ys[k] := ⟨_, rfl⟩
        rw [show xs.getD k 0 = X by rw [hX]; simp [List.getD_eq_getElem?_getD, hkx]] at a1
        rw [show ys.getD k 0 = Y by rw [hY]; simp [List.getD_eq_getElem?_getD, hky]] at a2
        have HXY : Hid (X = xs[k] ∧ Y = ys[k]) := ⟨hX, hY⟩
        clear hX hY hc1 hc2
        have HBD : Hid (Below w.heap.size w wr.drew) := HB.out.drew
        by_cases hxy : X = Y
        · have HS2 : Hid (xs.take (k + 1) = ys.take (k + 1)) := by
            show _ = _
            rw [take_snoc xs k hkx, take_snoc ys k hky, HS.out, ← HXY.out.1, ← HXY.out.2, hxy]
          subst hxy
          go_wp2_with fail
          go_region
          all_goals
            go_wp2_with fail
            go_roundw
            case rel => exact ⟨k + 1, by omega, by go_num, HS2.out, HBD.out⟩
            case measure => simp [intOf]; omega
        · have hRf : R = false := by
            rw [HN.out.2.2]
            refine decide_eq_false (fun e => hxy ?_)
            subst e
            rw [HXY.out.1, HXY.out.2]
          go_wp2_with fail
          go_region
          all_goals
            go_wp2_with fail
            go_ret
            exact ⟨by rw [hRf]; rfl, HBD.out⟩
      · obtain rfl : k = n := by omega
        have hRt : R = true := by
          rw [HN.out.2.2]
          refine decide_eq_true ?_
          have := HS.out
          rwa [List.take_of_length_le (by rw [← HN.out.1]; exact Nat.le_refl _), List.take_of_length_le (by rw [← HN.out.2.1]; exact Nat.le_refl _)] at this
        go_wp2_with fail
        go_ret
        exact ⟨by rw [hRt]; rfl, HB.out⟩
  · have hRf : R = false := by
      rw [HN.out.2.2]
      refine decide_eq_false (fun e => hnm ?_)
      rw [HN.out.1, HN.out.2.1, e]
    go_enter Tryd.func51, Tryd.ntmps51
    go_wp2_with fail
    go_ret
    exact ⟨by rw [hRf]; rfl, Below.refl _ _⟩
set_option maxRecDepth 100000 in
set_option maxHeartbeats 4000000 in
theorem eq_u64 (xs ys : List Int) (a b : Option Addr) (ca cb : Nat) (w : World) (hx : Rd .u64 w a xs.length xs) (hy : Rd .u64 w b ys.length ys) (hl : xs.length ≤ 1000000) (hl2 : ys.length ≤ 1000000) :
    Calls Tryd.prog 49 #[.slice a xs.length ca, .slice b ys.length cb] w fun e w' => e = .returned (.bool (decide (xs = ys))) ∧ Below w.heap.size w w' := by
  obtain ⟨n, hn⟩ : ∃ n, n = xs.length := ⟨_, rfl⟩
  obtain ⟨m, hm⟩ : ∃ m, m = ys.length := ⟨_, rfl⟩
  obtain ⟨R, hR⟩ : ∃ R, R = decide (xs = ys) := ⟨_, rfl⟩
  have HN : Hid (n = xs.length ∧ m = ys.length ∧ R = decide (xs = ys)) := ⟨hn, hm, hR⟩
  have HX : Hid (Rd .u64 w a n xs) := by rw [hn]; exact hx
  have HY : Hid (Rd .u64 w b m ys) := by rw [hm]; exact hy
  have hni : (n : Int) ≤ 1000000 := by omega
  have hmi : (m : Int) ≤ 1000000 := by omega
  rw [← hn, ← hm, ← hR]
  clear hx hy hl hl2 hn hm hR
  by_cases hnm : (n : Int) = (m : Int)
  · obtain rfl : n = m := by omega
    clear hnm
    go_enter Tryd.func49, Tryd.ntmps49
    go_wp2_with fail
    go_loopw [13] (fun x13 wr => ∃ k : Nat, k ≤ n ∧ x13 = .int .i64 (k : Int) ∧ xs.take k = ys.take k ∧ Below w.heap.size w wr) (fun x13 _ => n - (intOf x13).toNat)
    case atStart => exact ⟨0, by omega, rfl, rfl, Below.refl _ _⟩
    case round =>
      obtain ⟨k, hk, hx13, hs, hb⟩ := hrel
      subst hx13
      have HS : Hid (xs.take k = ys.take k) := hs
      have HB : Hid (Below w.heap.size w wr) := hb
      clear hs hb
      by_cases hlt : k < n
      · have hkx : k < xs.length := by rw [← HN.out.1]; exact hlt
        have hky : k < ys.length := by rw [← HN.out.2.1]; exact hlt
        obtain ⟨b1, o1, rfl, hc1⟩ := HX.out.2 (by omega)
        obtain ⟨b2, o2, rfl, hc2⟩ := HY.out.2 (by omega)
        have a1 := upC HB.out (hc1 k hlt)
        have a2 := upC HB.out (hc2 k hlt)
        obtain ⟨X, hX⟩ : ∃ X, X = xs[k] := ⟨_, rfl⟩
        obtain ⟨Y, hY⟩ : ∃ Y, Y = ys[k] := ⟨_, rfl⟩
        rw [show xs.getD k 0 = X by rw [hX]; simp [List.getD_eq_getElem?_getD, hkx]] at a1
        rw [show ys.getD k 0 = Y by rw [hY]; simp [List.getD_eq_getElem?_getD, hky]] at a2
        have HXY : Hid (X = xs[k] ∧ Y = ys[k]) := ⟨hX, hY⟩
        clear hX hY hc1 hc2
        have HBD : Hid (Below w.heap.size w wr.drew) := HB.out.drew
        by_cases hxy : X = Y
        · have HS2 : Hid (xs.take (k + 1) = ys.take (k + 1)) := by
            show _ = _
            rw [take_snoc xs k hkx, take_snoc ys k hky, HS.out, ← HXY.out.1, ← HXY.out.2, hxy]
          subst hxy
          go_wp2_with fail
          go_region
          all_goals
            go_wp2_with fail
            go_roundw
            case rel => exact ⟨k + 1, by omega, by go_num, HS2.out, HBD.out⟩
            case measure => simp [intOf]; omega
        · have hRf : R = false := by
            rw [HN.out.2.2]
            refine decide_eq_false (fun e => hxy ?_)
            subst e
            rw [HXY.out.1, HXY.out.2]
          go_wp2_with fail
          go_region
          all_goals
            go_wp2_with fail
            go_ret
            exact ⟨by rw [hRf]; rfl, HBD.out⟩
      · obtain rfl : k = n := by omega
        have hRt : R = true := by
          rw [HN.out.2.2]
          refine decide_eq_true ?_
          have := HS.out
          rwa [List.take_of_length_le (by rw [← HN.out.1]; exact Nat.le_refl _), List.take_of_length_le (by rw [← HN.out.2.1]; exact Nat.le_refl _)] at this
        go_wp2_with fail
        go_ret
        exact ⟨by rw [hRt]; rfl, HB.out⟩
  · have hRf : R = false := by
      rw [HN.out.2.2]
      refine decide_eq_false (fun e => hnm ?_)
      rw [HN.out.1, HN.out.2.1, e]
    go_enter Tryd.func49, Tryd.ntmps49
    go_wp2_with fail
    go_ret
    exact ⟨by rw [hRf]; rfl, Below.refl _ _⟩
end Go.Proofs.YthdeadmnicmgfaaDoor

/- The walks of slices.EqualFunc and of Equal. -/
namespace Go.Proofs.YthdeadmnicmgfaaDoor
open Go.RowKit Go.Shelf Go.Maps
set_option linter.unusedVariables false
set_option linter.unusedSimpArgs false

theorem NRows.later {w w' : World} {a : Option Addr} {nx : List (List Nat)} (h : NRows w a nx) (hb : Below w.heap.size w w') : NRows w' a nx := fun hp => by
  obtain ⟨b, off, e, hk⟩ := h hp
  refine ⟨b, off, e, fun i hi => ?_⟩
  obtain ⟨ra, rc, k1, k2⟩ := hk i hi
  exact ⟨ra, rc, upC hb k1, k2.later hb⟩
theorem intsN_inj {l m : List Nat} (h : intsN l = intsN m) : l = m := by
  unfold intsN at h
  exact (List.map_inj_right (fun a b hab => Int.ofNat.inj hab)).1 h
set_option maxRecDepth 100000 in
set_option maxHeartbeats 4000000 in
theorem eqf_any (xs ys : List (List Nat)) (a b : Option Addr) (ca cb : Nat) (w : World) (hx : NRows w a xs) (hy : NRows w b ys) (hl : xs.length ≤ 1000000) (hl2 : ys.length ≤ 1000000) (hr1 : ∀ r, r ∈ xs → r.length ≤ 1000000) (hr2 : ∀ r, r ∈ ys → r.length ≤ 1000000) :
    Calls Tryd.prog 50 #[.slice a xs.length ca, .slice b ys.length cb, .func (.func 51) #[] #[]] w fun e w' => e = .returned (.bool (decide (xs = ys))) ∧ Below w.heap.size w w' := by
  obtain ⟨n, hn⟩ : ∃ n, n = xs.length := ⟨_, rfl⟩
  obtain ⟨m, hm⟩ : ∃ m, m = ys.length := ⟨_, rfl⟩
  obtain ⟨R, hR⟩ : ∃ R, R = decide (xs = ys) := ⟨_, rfl⟩
  have HN : Hid (n = xs.length ∧ m = ys.length ∧ R = decide (xs = ys)) := ⟨hn, hm, hR⟩
  have HX : Hid (NRows w a xs ∧ ∀ r, r ∈ xs → r.length ≤ 1000000) := ⟨hx, hr1⟩
  have HY : Hid (NRows w b ys ∧ ∀ r, r ∈ ys → r.length ≤ 1000000) := ⟨hy, hr2⟩
  have hni : (n : Int) ≤ 1000000 := by omega
  have hmi : (m : Int) ≤ 1000000 := by omega
  rw [← hn, ← hm, ← hR]
  clear hx hy hl hl2 hn hm hR hr1 hr2
  by_cases hnm : (n : Int) = (m : Int)
  · obtain rfl : n = m := by omega
    clear hnm
    go_enter Tryd.func50, Tryd.ntmps50
    go_wp2_with fail
    go_loopw [17] (fun x17 wr => ∃ k : Nat, k ≤ n ∧ x17 = .int .i64 (k : Int) ∧ xs.take k = ys.take k ∧ Below w.heap.size w wr) (fun x17 _ => n - (intOf x17).toNat)
    case atStart => exact ⟨0, by omega, rfl, rfl, Below.refl _ _⟩
    case round =>
      obtain ⟨k, hk, hx17, hs, hb⟩ := hrel
      subst hx17
      have HS : Hid (xs.take k = ys.take k) := hs
      have HB : Hid (Below w.heap.size w wr) := hb
      clear hs hb
      by_cases hlt : k < n
      · have hkx : k < xs.length := by rw [← HN.out.1]; exact hlt
        have hky : k < ys.length := by rw [← HN.out.2.1]; exact hlt
        obtain ⟨b1, o1, rfl, hc1⟩ := HX.out.1 (by omega)
        obtain ⟨b2, o2, rfl, hc2⟩ := HY.out.1 (by omega)
        obtain ⟨ra1, rc1, hk1, hr1⟩ := hc1 k hkx
        obtain ⟨ra2, rc2, hk2, hr2⟩ := hc2 k hky
        have a1 := upC HB.out hk1
        have a2 := upC HB.out hk2
        obtain ⟨p1, hp1⟩ : ∃ p1, p1 = xs[k].length := ⟨_, rfl⟩
        obtain ⟨p2, hp2⟩ : ∃ p2, p2 = ys[k].length := ⟨_, rfl⟩
        have HC : Hid (Calls Tryd.prog 51 #[.slice ra1 p1 rc1, .slice ra2 p2 rc2] wr fun e w' => e = .returned (.bool (decide (xs[k] = ys[k]))) ∧ Below wr.heap.size wr w') := by
          have h1 := eq_i64 (intsN xs[k]) (intsN ys[k]) ra1 ra2 rc1 rc2 wr (by rw [show (intsN xs[k]).length = xs[k].length by simp [intsN]]; exact hr1.later HB.out) (by rw [show (intsN ys[k]).length = ys[k].length by simp [intsN]]; exact hr2.later HB.out) (by simp [intsN]; exact HX.out.2 _ (List.getElem_mem hkx)) (by simp [intsN]; exact HY.out.2 _ (List.getElem_mem hky))
          rw [show (intsN xs[k]).length = xs[k].length by simp [intsN], show (intsN ys[k]).length = ys[k].length by simp [intsN], ← hp1, ← hp2] at h1
          have h2 : decide (intsN xs[k] = intsN ys[k]) = decide (xs[k] = ys[k]) := by
            by_cases he : xs[k] = ys[k]
            · rw [he]; simp
            · rw [decide_eq_false he, decide_eq_false (fun e => he (intsN_inj e))]
          rw [h2] at h1
          exact h1
        rw [← hp1] at a1
        rw [← hp2] at a2
        clear hc1 hc2 hk1 hk2 hr1 hr2 hp1 hp2
        by_cases hxy : xs[k] = ys[k]
        · have HS2 : Hid (xs.take (k + 1) = ys.take (k + 1)) := by
            show _ = _
            rw [take_snoc xs k hkx, take_snoc ys k hky, HS.out, hxy]
          rw [decide_eq_true hxy] at HC
          clear hxy
          go_wp2_with fail
          refine HC.out.mono ?_
          rintro e w1 ⟨rfl, hb1⟩
          have HB1 : Hid (Below w.heap.size w w1) := HB.out.trans (hb1.mono HB.out.size)
          clear hb1
          go_wp2_with fail
          go_roundw
          case rel => exact ⟨k + 1, by omega, by go_num, HS2.out, HB1.out⟩
          case measure => simp [intOf]; omega
        · have hRf : R = false := by
            rw [HN.out.2.2]
            refine decide_eq_false (fun e => hxy ?_)
            subst e
            rfl
          rw [decide_eq_false hxy] at HC
          clear hxy
          go_wp2_with fail
          refine HC.out.mono ?_
          rintro e w1 ⟨rfl, hb1⟩
          have HB1 : Hid (Below w.heap.size w w1) := HB.out.trans (hb1.mono HB.out.size)
          clear hb1
          go_wp2_with fail
          go_ret
          exact ⟨by rw [hRf]; rfl, HB1.out⟩
      · obtain rfl : k = n := by omega
        have hRt : R = true := by
          rw [HN.out.2.2]
          refine decide_eq_true ?_
          have := HS.out
          rwa [List.take_of_length_le (by rw [← HN.out.1]; exact Nat.le_refl _), List.take_of_length_le (by rw [← HN.out.2.1]; exact Nat.le_refl _)] at this
        go_wp2_with fail
        go_ret
        exact ⟨by rw [hRt]; rfl, HB.out⟩
  · have hRf : R = false := by
      rw [HN.out.2.2]
      refine decide_eq_false (fun e => hnm ?_)
      rw [HN.out.1, HN.out.2.1, e]
    go_enter Tryd.func50, Tryd.ntmps50
    go_wp2_with fail
    go_ret
    exact ⟨by rw [hRf]; rfl, Below.refl _ _⟩
end Go.Proofs.YthdeadmnicmgfaaDoor
