/- The walk of IndexSets. -/
import Derived.Test.YtpahbofccloeaaaDoorIxH
import Derived.Test.YtpahbofccloeaaaDoorBasT
namespace Go.Proofs.YtpahbofccloeaaaDoor
open Go.RowKit
set_option linter.unusedVariables false
set_option linter.unusedSimpArgs false

theorem ins_end (bs : List Bool) (i : Nat) (h : i < bs.length) : ins (bs.take i) i (bs.getD i false) = bs.take (i + 1) := by
  have hl : (bs.take i).length = i := by rw [List.length_take]; omega
  unfold ins
  rw [List.take_of_length_le (by omega), List.drop_of_length_le (by omega), List.take_add_one, List.getElem?_eq_getElem h]
  simp [h]
theorem RdT.at {w : World} {a : Option Addr} {len : Nat} {bs : List Bool} (h : RdT w a len bs) (i : Nat) (hi : i < len) : ∃ b off, a = some ⟨b, off, none⟩ ∧ w.cell? ⟨b, off + i, none⟩ = some (.bool (bs.getD i false)) := by
  obtain ⟨b, off, ha, hc⟩ := h.2 (by omega)
  exact ⟨b, off, ha, hc i hi⟩
/-- A number cut to sixteen bits, and its rest. -/
theorem mod_mask (x : Int) (n : Nat) (h : 0 < n) : ∃ A : Nat, (bits .and .i64 x 65535).tmod (n : Int) = (A : Int) ∧ A < n := by
  have h1 : bits .and .i64 x 65535 = x % 2 ^ 16 := and_low x 65535 16 (by omega) (by decide)
  obtain ⟨y, hy⟩ : ∃ y : Nat, x % 2 ^ 16 = (y : Int) := ⟨(x % 2 ^ 16).toNat, by omega⟩
  refine ⟨y % n, ?_, Nat.mod_lt _ h⟩
  rw [h1, hy]
  rfl
theorem set_getD (L : List Bool) (A : Nat) (h : A < L.length) : L.set A (L.getD A false) = L := by
  rw [set_row L A _ h]; exact (row_at L A h).symm
theorem rnk_len (L : List Bool) (a : Int) : rnk L a ≤ L.length := by
  unfold rnk
  have := cnt_le (L.take a.toNat)
  rw [List.length_take] at this
  omega
theorem rnk_set (L : List Bool) (A : Nat) (b : Bool) (G : Nat) (h : A < L.length) (hg : A < G) : rnk (L.set A b) (G : Int) + (L.getD A false).toNat = rnk L (G : Int) + b.toNat := by
  unfold rnk
  have e : ((G : Int)).toNat = G := rfl
  have hl : A < (L.take G).length := by rw [List.length_take]; omega
  have := cnt_set (L.take G) A b hl
  rw [e, List.take_set]
  have e2 : (L.take G).getD A false = L.getD A false := by simp [List.getD_eq_getElem?_getD, List.getElem?_take, hg]
  rw [e2] at this
  exact this
theorem rnk_le2 (L : List Bool) (A G : Nat) (h : A ≤ G) : rnk L (A : Int) ≤ rnk L (G : Int) := by
  unfold rnk
  have e : ((G : Int)).toNat = G := rfl
  have e2 : ((A : Int)).toNat = A := rfl
  have := congrArg cnt (List.take_append_drop A (L.take G))
  rw [cnt_app, List.take_take, Nat.min_eq_left h] at this
  rw [e, e2]
  omega
set_option maxRecDepth 100000 in
set_option maxHeartbeats 4000000 in
theorem indexSets_walk (bs : List Bool) (p0 f0 : Int) (a : Option Addr) (len cap : Nat) (w : World) (hrd : RdT w a len bs) (hT : TabD w) :
    Calls Tryd.prog 6 #[.slice a len cap, .int .i64 p0, .int .i64 f0] w fun e w' => e = .returned (.bool true) ∧ Below w.heap.size w w' := by
  have HSH : Hid (Calls Tryd.prog 8 #[] w fun e w' => e = .returned (.bool true) ∧ Below w.heap.size w w') := shown13_any w hT
  have HN : Hid (∀ w1, Below w.heap.size w w1 → Calls Tryd.prog 9 #[] w1 fun e w' => ∃ P, e = .returned (.pointer (some ⟨P, 0, none⟩)) ∧ IxS w w' P []) := fun w1 h => s_new h
  have HT : Hid (TabD w) := hT
  have HD : Hid (RdT w a len bs) := hrd
  obtain ⟨n, hn⟩ : ∃ n, n = Nat.min len 300 := ⟨_, rfl⟩
  have hnl : n ≤ len := by rw [hn]; exact Nat.min_le_left _ _
  have hn3 : n ≤ 300 := by rw [hn]; exact Nat.min_le_right _ _
  have hmin : ∀ W : World, (Builtin.min_ #[3, 3] 3 #[.int .i64 len, .int .i64 300]).run Tryd.prog W = .ok (.int .i64 n) W := min_run len n 300 (by rw [hn]; simp [Nat.min_def]; split <;> omega)
  have HNL : Hid (n ≤ len ∧ n ≤ 300) := ⟨hnl, hn3⟩
  clear hT hrd hn hnl hn3
  go_enter Tryd.func6, Tryd.ntmps6
  go_upto_region 6 with (first | (go_at_call 8; refine HSH.out.mono ?_; rintro e w1 ⟨rfl, hb1⟩; have HB1 : Hid (Below w.heap.size w w1) := hb1; clear hb1) | (go_at_call 9; refine (HN.out _ HB1.out).mono ?_; rintro e w2 ⟨P, rfl, hs⟩; have HS2 : Hid (IxS w w2 P []) := hs; clear hs))
  go_wp2_with fail
  go_loopw [10] (fun x10 wr => ∃ i : Nat, x10 = .int .i64 (i : Int) ∧ i ≤ n ∧ IxS w wr P (bs.take i)) (fun x10 _ => n - (intOf x10).toNat)
  case atStart => exact ⟨0, rfl, by omega, HS2.out⟩
  case round =>
    obtain ⟨i, hx, hik, hs⟩ := hrel
    subst hx
    have HS : Hid (IxS w wr P (bs.take i)) := hs
    clear hs
    have hnl := HNL.out
    by_cases hlt : i < n
    · have hlt' : decide ((i : Int) < (n : Int)) = true := by simpa using hlt
      have hib : i < bs.length := by rw [HD.out.1]; omega
      obtain ⟨gb, off, rfl, hc⟩ := (HD.out.later HS.out.below).at i (by omega)
      have HI : Hid (Calls Tryd.prog 12 #[.pointer (some ⟨P, 0, none⟩), .int .i64 (i : Int), .bool (bs.getD i false)] wr fun e w' => e = .returned (.bool true) ∧ IxS w w' P (bs.take (i + 1))) := by
        have := s_ins HS.out i (bs.getD i false) (by rw [List.length_take]; omega) (by rw [List.length_take]; omega)
        rw [ins_end bs i hib] at this
        exact this
      have hi0 : (0 : Int) ≤ (i : Int) := by omega
      have hi1 : (i : Int) < (len : Int) := by omega
      have hi2 : (i : Int) + 1 ≤ 301 := by omega
      have HX : Hid (i + 1 ≤ n) := hlt
      clear hlt hik hib HS hnl hmin HSH HN HB1 HS2
      generalize bs.getD i false = z at hc HI
      go_wp2_with (first | (go_at_call 12; refine HI.out.mono ?_; rintro e w3 ⟨rfl, hs⟩; have HS3 : Hid (IxS w w3 P (bs.take (i + 1))) := hs; clear hs))
      go_roundw
      case rel => exact ⟨i + 1, by rw [Int.natCast_add]; rfl, HX.out, HS3.out⟩
      case measure => have := HX.out; simp [intOf]; omega
    · have hlt' : decide ((i : Int) < (n : Int)) = false := by simpa using hlt
      obtain rfl : i = n := by omega
      clear hlt hik HSH HN HB1 HS2 hmin
      rcases Nat.eq_zero_or_pos i with h0 | h0
      · subst h0
        have HST : Hid (Calls Tryd.prog 10 #[.pointer (some ⟨P, 0, none⟩), .int .i64 0, .bool true] wr fun e w' => e = .returned (.bool false) ∧ w' = wr) := s_setN HS.out 0 true (by simp)
        clear hnl
        go_wp2_with (first | (go_at_call 10; refine HST.out.mono ?_; rintro e w' ⟨rfl, hw⟩; have hw := hw.symm; subst hw))
        go_ret
        exact ⟨rfl, HS.out.below⟩
      · have hne : ((i : Int) == 0) = false := by rw [beq_eq_false_iff_ne]; omega
        have hne' : ¬ (i : Int) = 0 := by omega
        obtain ⟨A, hA, hAi⟩ := mod_mask p0 i h0
        obtain ⟨F, hF, hFi⟩ := mod_mask f0 i h0
        obtain ⟨G, hG⟩ : ∃ G, G = A + 1 + F := ⟨_, rfl⟩
        have hwg : IntKind.i64.wrap ((A : Int) + 1 + (F : Int)) = (G : Int) := by rw [IntKind.wrap_i64]; omega
        have hwg2 : wrap64 ((A : Int) + 1 + (F : Int)) = (G : Int) := by unfold wrap64; omega
        have hib : A < bs.length := by rw [HD.out.1]; omega
        obtain ⟨gb, off, hab, _⟩ := HD.out.at A (by omega)
        subst hab
        have HC : Hid (∀ W, Below w.heap.size w W → W.cell? ⟨gb, off + A, none⟩ = some (.bool (bs.getD A false))) := fun W hW => by
          obtain ⟨gb', off', he, hc⟩ := (HD.out.later hW).at A (by omega)
          cases he
          exact hc
        have hlL : (bs.take i).length = i := by rw [List.length_take, HD.out.1]; omega
        have hgA : (bs.take i).getD A false = bs.getD A false := by simp [List.getD_eq_getElem?_getD, List.getElem?_take, hAi]
        obtain ⟨L, hL⟩ : ∃ L, L = bs.take i := ⟨_, rfl⟩
        rw [← hL] at HS hlL hgA
        have m1 := rnk_set L A (!(bs.getD A false)) G (by omega) (by omega)
        have m2 := rnk_le2 L A G (by omega)
        rw [hgA] at m1
        have hback : (L.set A (!(bs.getD A false))).set A (bs.getD A false) = L := by
          rw [List.set_set, ← hgA]
          exact set_getD L A (by omega)
        have HR1 : Hid (∀ W, IxS w W P L → Calls Tryd.prog 16 #[.pointer (some ⟨P, 0, none⟩), .int .i64 (G : Int)] W fun e w' => e = .returned (.int .i64 (rnk L (G : Int) : Int)) ∧ IxS w w' P L) := fun W h => (s_rank h G (by omega) (by omega)).mono fun e w' ⟨q1, q, q2⟩ => ⟨q1, q2 ▸ h.drewN q⟩
        have HR2 : Hid (∀ W, IxS w W P (L.set A (!(bs.getD A false))) → Calls Tryd.prog 16 #[.pointer (some ⟨P, 0, none⟩), .int .i64 (G : Int)] W fun e w' => e = .returned (.int .i64 (rnk (L.set A (!(bs.getD A false))) (G : Int) : Int)) ∧ IxS w w' P (L.set A (!(bs.getD A false)))) := fun W h => (s_rank h G (by rw [List.length_set]; omega) (by omega)).mono fun e w' ⟨q1, q, q2⟩ => ⟨q1, q2 ▸ h.drewN q⟩
        have HR3 : Hid (∀ W, IxS w W P L → Calls Tryd.prog 16 #[.pointer (some ⟨P, 0, none⟩), .int .i64 (A : Int)] W fun e w' => e = .returned (.int .i64 (rnk L (A : Int) : Int)) ∧ IxS w w' P L) := fun W h => (s_rank h A (by omega) (by omega)).mono fun e w' ⟨q1, q, q2⟩ => ⟨q1, q2 ▸ h.drewN q⟩
        have HT1 : Hid (∀ W, IxS w W P L → Calls Tryd.prog 10 #[.pointer (some ⟨P, 0, none⟩), .int .i64 (A : Int), .bool (!(bs.getD A false))] W fun e w' => e = .returned (.bool true) ∧ IxS w w' P (L.set A (!(bs.getD A false)))) := fun W h => s_set h A _ (by omega) (by omega)
        have HT2 : Hid (∀ W, IxS w W P (L.set A (!(bs.getD A false))) → Calls Tryd.prog 10 #[.pointer (some ⟨P, 0, none⟩), .int .i64 (A : Int), .bool (bs.getD A false)] W fun e w' => e = .returned (.bool true) ∧ IxS w w' P L) := fun W h => by
          have := s_set h A (bs.getD A false) (by rw [List.length_set]; omega) (by rw [List.length_set]; omega)
          rw [hback] at this
          exact this
        have hr1 : rnk L (G : Int) ≤ 300 := by have := rnk_len L (G : Int); omega
        have hA0 : (0 : Int) ≤ (A : Int) := by omega
        have hA1 : (A : Int) < (len : Int) := by omega
        have hA2 : (A : Int) + 1 ≤ 65537 := by omega
        clear hback hgA hlL hL hib hAi hFi hG h0 hnl HD HNL
        generalize bs.getD A false = z at *
        generalize rnk L (A : Int) = r3 at *
        generalize rnk L (G : Int) = r1 at *
        generalize rnk (L.set A (!z)) (G : Int) = r2 at *
        go_upto_region 15 with (first | (go_at_call 16; refine (HR1.out _ HS.out).mono ?_; rintro e w3 ⟨rfl, hs⟩; have HS3 : Hid (IxS w w3 P L) := hs; clear hs))
        have c3 := HC.out w3 HS3.out.below
        go_upto_region 16 with (first | (go_at_call 10; refine (HT1.out _ HS3.out).mono ?_; rintro e w4 ⟨rfl, hs⟩; have HS4 : Hid (IxS w w4 P (L.set A (!z))) := hs; clear hs))
        go_upto_region 17 with (first | (go_at_call 16; refine (HR2.out _ HS4.out).mono ?_; rintro e w5 ⟨rfl, hs⟩; have HS5 : Hid (IxS w w5 P (L.set A (!z))) := hs; clear hs))
        have c5 := HC.out w5 HS5.out.below
        go_upto_region 18 with (first | (go_at_call 10; refine (HT2.out _ HS5.out).mono ?_; rintro e w6 ⟨rfl, hs⟩; have HS6 : Hid (IxS w w6 P L) := hs; clear hs))
        have c6 := HC.out w6 HS6.out.below
        have hle : decide ((r3 : Int) ≤ (r1 : Int)) = true := by apply decide_eq_true; omega
        have hle2 : decide (r3 ≤ r1) = true := by apply decide_eq_true; omega
        have heq : ((r1 : Int) == (r1 : Int)) = true := by simp
        clear HR2 HT1 HT2 HC m2
        cases z
        · have hq : ((r2 : Int) == (r1 : Int) + 1) = true := by rw [beq_iff_eq]; simp at m1; omega
          have hb1 : (r1 : Int) + 1 ≤ 301 := by omega
          clear m1 hr1
          go_wp2_with (first | (go_at_call 16; refine (HR1.out _ HS6.out).mono ?_; rintro e w7 ⟨rfl, hs⟩; have HS7 : Hid (IxS w w7 P L) := hs; clear hs HS6) | (go_at_call 16; refine (HR3.out _ HS7.out).mono ?_; rintro e w8 ⟨rfl, hs⟩; have HS8 : Hid (IxS w w8 P L) := hs; clear hs))
          go_ret
          exact ⟨rfl, HS8.out.below⟩
        · have hq : ((r2 : Int) == (r1 : Int) + -1) = true := by rw [beq_iff_eq]; simp at m1; omega
          have hb1 : IntKind.i64.wrap ((r1 : Int) + -1) = (r1 : Int) + -1 := by rw [IntKind.wrap_i64]; omega
          clear m1 hr1
          go_wp2_with (first | (go_at_call 16; refine (HR1.out _ HS6.out).mono ?_; rintro e w7 ⟨rfl, hs⟩; have HS7 : Hid (IxS w w7 P L) := hs; clear hs HS6) | (go_at_call 16; refine (HR3.out _ HS7.out).mono ?_; rintro e w8 ⟨rfl, hs⟩; have HS8 : Hid (IxS w w8 P L) := hs; clear hs))
          go_ret
          exact ⟨rfl, HS8.out.below⟩
end Go.Proofs.YtpahbofccloeaaaDoor
