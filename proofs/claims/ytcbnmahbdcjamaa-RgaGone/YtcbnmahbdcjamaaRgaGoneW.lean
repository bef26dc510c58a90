/- The walk of RgaGone: two who take the same away have taken it away once. -/
import Derived.Test.YtcbnmahbdcjamaaRgGo
import Derived.Test.YtcbnmahbdcjamaaRgSz
import Derived.Deep.RegionHeld3
import Derived.Deep.DeepCutAuto
import Derived.Deep.CutRange
namespace Go.Proofs.Ytcbnmahbdcjamaa
open Go.RowKit Go.Shelf Go.Maps Go.Sort
set_option linter.unusedVariables false
set_option linter.unusedSimpArgs false

set_option maxHeartbeats 16000000 in
set_option maxRecDepth 100000 in
theorem rgaGone_walk (xs : List Opn) (a : Option Addr) (len cap : Nat) (wh : Int) (c : Int) (w : World) (hrd : RdP w a len xs) (lo1 : -9223372036854775808 ≤ wh) (hi1 : wh ≤ 9223372036854775807) :
    Calls Try.prog 4 #[.slice a len cap, .int .i64 wh, .int .i32 c] w fun e w' => e = .returned (.bool true) ∧ Below w.heap.size w w' := by
  have HX : Hid (∀ w', Below w.heap.size w w' → RdP w' a len xs) := fun w' h => hrd.later h
  have HSH : Hid (Calls Try.prog 9 #[] w fun e w' => e = .returned (.bool true) ∧ Below w.heap.size w w') := shown14_any w
  have HNW : Hid (∀ w1, Below w.heap.size w w1 → Calls Try.prog 10 #[] w1 fun e w' => ∃ P, e = .returned (.pointer (some ⟨P, 0, none⟩)) ∧ RgS w w' P [] nob) := fun w1 hb => (s_new14 hb nob (fun k h => h.elim)).mono fun e w' q => by obtain ⟨P, h1, h2, _⟩ := q; exact ⟨P, h1, h2⟩
  have HN2 : Hid (∀ w1 P, RgS w w1 P [] nob → Calls Try.prog 10 #[] w1 fun e w' => ∃ Q, e = .returned (.pointer (some ⟨Q, 0, none⟩)) ∧ TtS w w' P [] Q [] nob) := fun w1 P h => tt_new h
  have HTB : Hid (∀ P Q W, TtS w W P [] Q [] nob → Below w.heap.size w W) := fun P Q W h => h.below
  obtain ⟨z, hz⟩ : ∃ z, z = chB c := ⟨_, rfl⟩
  have HSZ : Hid (∀ (W : World), Calls Try.prog 20 #[.int .i32 c] W fun e w' => ∃ n : Int, e = .returned (.int .i64 n) ∧ (n == 0) = !z ∧ w' = W) := fun W => (refSizeZ_any c W).mono fun e w' q => by obtain ⟨n, h1, h2, h3⟩ := q; exact ⟨n, h1, by rw [hz]; exact h2.1, h3⟩
  obtain ⟨L, hL⟩ : ∃ L, L = rtF xs 20 := ⟨_, rfl⟩
  have hLv : Rv L := by rw [hL]; exact (rtF_rv xs 20).1
  have hLl : L.length ≤ 20 := by rw [hL]; have := (rtF_rv xs 20).2; rw [List.length_take] at this; omega
  obtain ⟨n, hnn⟩ : ∃ n, n = L.length := ⟨_, rfl⟩
  have HRI : Hid (∀ P Q w2, TtS w w2 P [] Q [] nob → Calls Try.prog 11 #[.slice a len cap, .int .i64 20] w2 fun e w' => ∃ b c, e = .returned (.slice b n c) ∧ TtR w w' P [] Q [] L b n) := fun P Q w2 hs => (right_rf (HX.out w2 hs.below) 20 (by omega)).mono fun e w' q => by
    obtain ⟨b, c, rfl, q1, q4, q2, q3⟩ := q
    have e30 : (20 : Int).toNat = 20 := rfl
    rw [e30, ← hL, ← hnn] at q1
    rw [e30, ← hL, ← hnn]
    exact ⟨b, c, rfl, ttR_new hs q2 q1 q3⟩
  have HN : Hid (n = L.length) := hnn
  have hn20 : n ≤ 20 := by rw [hnn]; exact hLl
  have HLV : Hid (Rv L) := hLv
  have HP1 : Hid (∀ P Q b W i, i < n → TtR w W P (L.take i) Q (L.take i) L b n → Calls Try.prog 12 #[.pointer (some ⟨P, 0, none⟩), .agg #[.int .i64 (L.getD i op0).c, .int .i64 (L.getD i op0).a, .int .i64 (L.getD i op0).s, .bool (L.getD i op0).ins, .int .i64 (L.getD i op0).rc, .int .i64 (L.getD i op0).ra, .int .i32 (L.getD i op0).ch]] W fun e w' => (∃ z r, e = .returned (.tuple #[.bool z, .int .i64 r])) ∧ TtR w w' P (L.take (i + 1)) Q (L.take i) L b n) := fun P Q b W i hi h => (ttR_put1 h (L.getD i op0) (by rw [List.length_take]; omega)).mono fun e w' q => by
    obtain ⟨rfl, q1⟩ := q
    rw [rv_takeA hLv i (by omega)] at q1
    exact ⟨⟨_, _, rfl⟩, q1⟩
  have HP2 : Hid (∀ P Q b W i, i < n → TtR w W P (L.take (i + 1)) Q (L.take i) L b n → Calls Try.prog 12 #[.pointer (some ⟨Q, 0, none⟩), .agg #[.int .i64 (L.getD i op0).c, .int .i64 (L.getD i op0).a, .int .i64 (L.getD i op0).s, .bool (L.getD i op0).ins, .int .i64 (L.getD i op0).rc, .int .i64 (L.getD i op0).ra, .int .i32 (L.getD i op0).ch]] W fun e w' => (∃ z r, e = .returned (.tuple #[.bool z, .int .i64 r])) ∧ TtR w w' P (L.take (i + 1)) Q (L.take (i + 1)) L b n) := fun P Q b W i hi h => (ttR_put2 h (L.getD i op0) (by rw [List.length_take]; omega)).mono fun e w' q => by
    obtain ⟨rfl, q1⟩ := q
    rw [rv_takeA hLv i (by omega)] at q1
    exact ⟨⟨_, _, rfl⟩, q1⟩
  have HTK : Hid (∀ P Q b W, TtR w W P (L.take n) Q (L.take n) L b n → TtR w W P L Q L L b n) := fun P Q b W h => by rw [List.take_of_length_le (by omega)] at h; exact h
  obtain ⟨A, hA⟩ : ∃ A, A = idsOf (els L) := ⟨_, rfl⟩
  obtain ⟨k, hk⟩ : ∃ k, k = A.length := ⟨_, rfl⟩
  have hk20 : k ≤ n := by
    have := ids_len L
    rw [hk, hA]
    omega
  have HAL : Hid (∀ P Q b W, TtR w W P L Q L L b n → Calls Try.prog 17 #[.pointer (some ⟨P, 0, none⟩)] W fun e w' => ∃ v c, e = .returned (.slice v k c) ∧ RdE w' v k A ∧ TtR w w' P L Q L L b n) := fun P Q b W h => (s_all h.1.one (by omega)).mono fun e w' q => by
    obtain ⟨v, rfl, q1, q2⟩ := q
    rw [← hA, ← hk] at q1
    obtain ⟨v, c, rfl, _, _, q4, _⟩ := rdE_own14 q1
    exact ⟨v, c, rfl, q4, h.later q2⟩
  have HAM : Hid (∀ j, j < k → hasE L (A.getD j (0, 0)) = true) := fun j hj => by
    have h1 : A.getD j (0, 0) ∈ A := by simp [List.getD, List.getElem?_eq_getElem (show j < A.length by omega)]
    generalize A.getD j (0, 0) = y at h1 ⊢
    rw [hA, ids_els] at h1
    obtain ⟨e, g1, g2⟩ := List.mem_map.1 h1
    rw [hasE_seq]
    exact ⟨e, g1, g2⟩
  obtain ⟨T, hT⟩ : ∃ T, T = topO L := ⟨_, rfl⟩
  have HTO : Hid (∀ P Q b W, TtR w W P L Q L L b n → Calls Try.prog 21 #[.pointer (some ⟨P, 0, none⟩)] W fun e w' => e = .returned (.int .i64 T) ∧ w' = W) := fun P Q b W h => by rw [hT]; exact s_top h.1.one
  have hT0 : 0 ≤ T ∧ T ≤ 4294967295 := by rw [hT]; exact ⟨top_nn L, top_le hLv⟩
  have HTE : Hid (T = topO L) := hT
  have HIDC : Hid (∀ c a (W : World), Calls Try.prog 22 #[.int .i64 c, .int .i64 a] W fun e w' => e = .returned (.agg #[.int .i64 c, .int .i64 a]) ∧ Gw W w') := fun c a W => id_any c a W
  have HZC : Hid (z = chB c) := hz
  have HRB : Hid (∀ P Q b W, TtR w W P L Q L L b n → Below w.heap.size w W) := fun P Q b W h => h.1.below
  clear hrd hL hLv hLl hnn hA hk hT hz HX
  go_enter Try.func4, Try.ntmps4
  go_upto_region 4 with (first
    | (go_at_call 9; refine HSH.out.mono ?_; rintro e w1 ⟨rfl, hb⟩; have HB1 : Hid (Below w.heap.size w w1) := hb; clear hb)
    | (go_at_call 10; (first | (refine (HN2.out _ _ HS0.out).mono ?_; rintro e w3 ⟨Q, rfl, hs⟩; have HT0 : Hid (TtS w w3 P [] Q [] nob) := hs; clear hs) | (refine (HNW.out _ HB1.out).mono ?_; rintro e w2 ⟨P, rfl, hs⟩; have HS0 : Hid (RgS w w2 P [] nob) := hs; clear hs))))
  clear HNW HN2 HSH HB1 HS0
  cases z
  · have HBT := HTB.out _ _ _ HT0.out
    have HBTH : Hid (Below w.heap.size w w3) := HBT
    clear HBT
    go_wp2_with (go_at_call 20; refine (HSZ.out _).mono ?_; rintro e w4 ⟨q, rfl, hq, hw⟩; subst hw; simp only [Bool.not_false] at hq)
    go_ret
    exact ⟨rfl, HBTH.out⟩
  · go_upto_region 7 with (first
      | (go_at_call 20; refine (HSZ.out _).mono ?_; rintro e w4 ⟨q, rfl, hq, hw⟩; subst hw; simp only [Bool.not_true] at hq)
      | (go_at_call 11; refine (HRI.out _ _ _ HT0.out).mono ?_; rintro e w4 ⟨b, cb, rfl, hs⟩; have HT1 : Hid (TtR w w4 P [] Q [] L b n) := hs; clear hs))
    clear HSZ HRI HT0
    go_upto_region 8 with fail
    go_loopw [11] (fun x11 wr => ∃ i : Nat, x11 = .int .i64 (i : Int) ∧ i ≤ n ∧ TtR w wr P (L.take i) Q (L.take i) L b n) (fun x11 _ => n - (RowKit.intOf x11).toNat)
    case atStart => exact ⟨0, rfl, by omega, HT1.out⟩
    case round =>
      obtain ⟨i, h11, hi, ht⟩ := hrel
      subst h11
      by_cases hlt : i < n
      · obtain ⟨g, off, rfl, c0, c1, c2, c3, c4, c5, c6⟩ := ht.2.at i hlt
        have HP := HP1.out P Q _ wr i hlt ht
        have HPH : Hid (type_of% HP) := HP
        have hi0 : (0 : Int) ≤ (i : Int) := by omega
        have hi1 : (i : Int) < (n : Int) := by omega
        clear HP ht
        go_upto_region 11 with (go_at_call 12; refine HPH.out.mono ?_; rintro e w5 ⟨⟨z5, r5, rfl⟩, g1⟩; have HG : Hid (type_of% g1) := g1; clear g1)
        clear c0 c1 c2 c3 c4 c5 c6 HPH
        obtain ⟨g', off', hgg, c0, c1, c2, c3, c4, c5, c6⟩ := HG.out.2.at i hlt
        cases hgg
        have HP := HP2.out P Q _ w5 i hlt HG.out
        have HPH : Hid (type_of% HP) := HP
        clear HP
        go_wp2_with (go_at_call 12; refine HPH.out.mono ?_; rintro e w6 ⟨⟨z6, r6, rfl⟩, g1⟩; have HG2 : Hid (type_of% g1) := g1; clear g1)
        go_roundw
        case rel => exact ⟨i + 1, by go_num, by omega, HG2.out⟩
        case measure => simp [RowKit.intOf]; omega
      · obtain rfl : i = n := by omega
        have HT2 : Hid (TtR w wr P L Q L L b i) := HTK.out _ _ _ _ ht
        clear ht HT1 HTK HP1 HP2
        go_upto_region 13 with (go_at_call 17; refine (HAL.out _ _ _ _ HT2.out).mono ?_; rintro e w5 ⟨v, cv, rfl, g1, g2⟩; have HRA : Hid (RdE w5 v k A) := g1; have HT3 : Hid (TtR w w5 P L Q L L b i) := g2; clear g1 g2)
        clear HAL HT2
        by_cases hk0 : k = 0
        · have hkz : ((k : Int) == 0) = true := by simp [hk0]
          have HBX : Hid (Below w.heap.size w w5) := HRB.out _ _ _ _ HT3.out
          clear hk0
          go_wp2
          go_ret
          exact ⟨rfl, HBX.out⟩
        · have hkz : ((k : Int) == 0) = false := by simp; omega
          obtain ⟨r, hr⟩ : ∃ r : Nat, bits .and .i64 wh 65535 = (r : Int) := ⟨(wh % 2 ^ 16).toNat, by rw [and_low wh 65535 16 (by omega) (by decide)]; omega⟩
          obtain ⟨j, hj⟩ : ∃ j, j = r % k := ⟨_, rfl⟩
          have hjk : j < k := by rw [hj]; exact Nat.mod_lt _ (by omega)
          have hrem : (r : Int).tmod (k : Int) = (j : Int) := by rw [Int.tmod_eq_emod_of_nonneg (by omega), hj]; simp
          have hrem2 : (r : Int) % (k : Int) = (j : Int) := by rw [hj]; simp
          have hL0 : (k : Int) ≠ 0 := by omega
          have hj0 : (0 : Int) ≤ (j : Int) := by omega
          have hj1 : (j : Int) < (k : Int) := by omega
          have hi0 : 0 < i := by omega
          obtain ⟨gb, go, rfl, d0, d1⟩ := HRA.out.at j hjk
          have hxE := HAM.out j hjk
          generalize A.getD j (0, 0) = X at d0 d1 hxE
          have HXE : Hid (hasE L X = true) := hxE
          clear hxE hj hk0 HAM HRA
          obtain ⟨W6, hW6⟩ : ∃ W6, W6 = w5.alloc (.cells #[.int .i64 X.1, .int .i64 X.2] 32) := ⟨_, rfl⟩
          obtain ⟨Z, hZ⟩ : ∃ Z, Z = w5.heap.size := ⟨_, rfl⟩
          have hx6 : W6.heap[Z]? = some (.cells #[.int .i64 X.1, .int .i64 X.2] 32) := by rw [hW6, hZ]; exact heap_alloc_new w5 _
          have HZ7 : Hid (W6.heap[Z]? = some (.cells #[.int .i64 X.1, .int .i64 X.2] 32)) := hx6
          have HT5 : Hid (TtR w w5 P L Q L L b i ∧ Z = w5.heap.size) := ⟨HT3.out, hZ⟩
          have HB56 : Hid (Below w5.heap.size w5 W6) := by show Below _ _ _; rw [hW6]; exact (Below.refl _ w5).alloc (Nat.le_refl _) _
          have HT7 : Hid (TtR w W6 P L Q L L b i) := HT3.out.later HB56.out
          clear HT3 hx6
          go_upto_region 16 with fail
          rw [← hZ, ← hW6]
          clear hZ hW6 d0 d1 hr hrem hrem2
          go_upto_region 17 with (go_at_call 21; refine (HTO.out _ _ _ _ HT7.out).mono ?_; rintro e w7 ⟨rfl, hw⟩; subst hw)
          clear HTO
          have hw1 : IntKind.i64.wrap (T + 1) = T + 1 := by rw [IntKind.wrap_i64]; omega
          have HS7 : Hid (∀ W, Below w7.heap.size w7 W → W.cell? ⟨Z, 0, none⟩ = some (.int .i64 X.1) ∧ W.cell? ⟨Z, 1, none⟩ = some (.int .i64 X.2) ∧ Below w7.heap.size w7 W) := fun W hb => by
            obtain ⟨z0, z1⟩ := cells2G ((hb.block Z (Array.getElem?_eq_some_iff.1 HZ7.out).1).trans HZ7.out)
            exact ⟨z0, z1, hb⟩
          go_cut [15] (fun x15 wx => ∃ N, x15 = .pointer (some ⟨N, 0, none⟩) ∧ w7.heap.size ≤ N ∧ Below w7.heap.size w7 wx ∧ wx.heap[N]? = some (bxG (goO T 4194303 X)))
          case first =>
            refine wp_region_noPanic ?_
            refine wp_region_held_drew (S := (fun w' => w'.cell? ⟨Z, 0, none⟩ = some (.int .i64 X.1) ∧ w'.cell? ⟨Z, 1, none⟩ = some (.int .i64 X.2) ∧ Below w7.heap.size w7 w')) (by kernel_rfl) (HS7.out _ (Below.refl _ w7).drew) (fun hHeld => ?_)
            refine wpAnyH_take (i := 0) (v := ?_) rfl (by kernel_rfl) (by kernel_rfl) (by kernel_rfl) (fun _ _ _ h => h) (Or.inl ⟨by rfl, ?_⟩) (by assumption) ?_
            rotate_left
            · intro W' hSw; obtain ⟨s0, s1, s2⟩ := hSw; go_simp; try with_reducible rfl
            try simp only [Act.put, List.getElem_toArray, List.getElem_cons_succ, List.getElem_cons_zero, List.setIfInBounds_toArray, List.set_cons_zero, List.set_cons_succ]
            refine wpAnyH_take (i := 1) (v := ?_) rfl (by kernel_rfl) (by kernel_rfl) (by kernel_rfl) (fun _ _ _ h => h) (Or.inl ⟨by rfl, ?_⟩) (by assumption) ?_
            rotate_left
            · intro W' hSw; obtain ⟨s0, s1, s2⟩ := hSw; go_simp; try with_reducible rfl
            try simp only [Act.put, List.getElem_toArray, List.getElem_cons_succ, List.getElem_cons_zero, List.setIfInBounds_toArray, List.set_cons_zero, List.set_cons_succ]
            refine wpAnyH_take (i := 3) (v := ?_) rfl (by kernel_rfl) (by kernel_rfl) (by kernel_rfl) (fun _ _ _ h => h) (Or.inl ⟨by rfl, ?_⟩) (by assumption) ?_
            rotate_left
            · intro W' hSw; obtain ⟨s0, s1, s2⟩ := hSw; go_simp; try with_reducible rfl
            try simp only [Act.put, List.getElem_toArray, List.getElem_cons_succ, List.getElem_cons_zero, List.setIfInBounds_toArray, List.set_cons_zero, List.set_cons_succ]
            refine wpAnyH_ready (rs := [2, 5]) (by kernel_rfl) (by simp) ?_
            refine AllReadyH.cons rfl (fun KK hK => ?_) (AllReadyH.cons rfl (fun KK hK => ?_) AllReadyH.nil)
            · go_simp
              refine (HIDC.out _ _ _).mono ?_
              rintro e wi ⟨rfl, hg⟩
              have HB1 : Hid (Below w7.heap.size w7 wi) := (Below.refl _ w7).drew.trans hg.below
              clear hg
              refine hK.out _ _ (HS7.out _ HB1.out) (fun hHeld => ?_)
              clear hK KK
              try simp only [Act.put, List.getElem_toArray, List.getElem_cons_succ, List.getElem_cons_zero, List.setIfInBounds_toArray, List.set_cons_zero, List.set_cons_succ]
              refine wpAnyH_take (i := 4) (v := ?_) rfl (by kernel_rfl) (by kernel_rfl) (by kernel_rfl) (fun _ _ _ h => h) (Or.inl ⟨by rfl, ?_⟩) (by assumption) ?_
              rotate_left
              · intro W' hSw; obtain ⟨s0, s1, s2⟩ := hSw; go_simp; try with_reducible rfl
              try simp only [Act.put, List.getElem_toArray, List.getElem_cons_succ, List.getElem_cons_zero, List.setIfInBounds_toArray, List.set_cons_zero, List.set_cons_succ]
              refine wpAnyH_ready (rs := [5]) (by kernel_rfl) (by simp) ?_
              refine AllReadyH.cons rfl (fun KK hK => ?_) AllReadyH.nil
              obtain ⟨W8, hW8⟩ : ∃ W8, W8 = ((wi).alloc (.cells #[.int .i64 0, .int .i64 0, .int .i64 0, .bool false, .int .i64 0, .int .i64 0, .int .i32 0] 34)) := ⟨_, rfl⟩
              obtain ⟨N, hN⟩ : ∃ N, N = (wi).heap.size := ⟨_, rfl⟩
              have hba := box_alloc HB1.out
              have HB8 : Hid (Below w7.heap.size w7 W8) := by show Below _ _ _; rw [hW8]; exact hba.1
              have HN8 : Hid (w7.heap.size ≤ N) := by show _ ≤ _; rw [hN]; exact hba.2.1
              have HX8 : Hid (W8.heap[N]? = some (bxG op0)) := by show _ = _; rw [hW8, hN]; exact hba.2.2
              clear hba
              go_simp
              try rw [← hN]
              try rw [← hW8]
              clear hN hW8
              refine hK.out _ _ (HS7.out _ HB8.out) (fun hHeld => ?_)
              clear hK KK
              try simp only [Act.put, List.getElem_toArray, List.getElem_cons_succ, List.getElem_cons_zero, List.setIfInBounds_toArray, List.set_cons_zero, List.set_cons_succ]
              have HTH : Hid ((W8).there N 0 7) := thereG HX8.out
              have hbs := box_set (p := (goO T 4194303 X)) HB8.out HN8.out HX8.out
              have HBF : Hid (Below w7.heap.size w7 ((W8).setCells N 0 (#[.int .i64 (T + 1), .int .i64 4194303, .int .i64 1, .bool false, .int .i64 X.1, .int .i64 X.2, .int .i32 0] : Array Value).toList) ∧ ((W8).setCells N 0 (#[.int .i64 (T + 1), .int .i64 4194303, .int .i64 1, .bool false, .int .i64 X.1, .int .i64 X.2, .int .i32 0] : Array Value).toList).heap[N]? = some (bxG (goO T 4194303 X))) := hbs
              clear hbs
              refine wpAnyH_ready (rs := [6]) (by kernel_rfl) (by simp) ?_
              refine AllReadyH.cons rfl (fun KK hK => ?_) AllReadyH.nil
              try rw [if_pos (by rfl)]
              refine wp_store_mid 34 (.tmp 15) (.tmp 85) rfl N 0 #[.int .i64 (T + 1), .int .i64 4194303, .int .i64 1, .bool false, .int .i64 X.1, .int .i64 X.2, .int .i32 0] rfl rfl HTH.out (by kernel_rfl) (by simp [Value.oneCell']) ?_
              refine hK.out _ _ (HS7.out _ HBF.out.1) (fun hHeld => ?_)
              clear hK KK
              try simp only [Act.put, List.getElem_toArray, List.getElem_cons_succ, List.getElem_cons_zero, List.setIfInBounds_toArray, List.set_cons_zero, List.set_cons_succ]
              refine wpAnyH_done (by kernel_rfl) ?_ _
              refine NoPanic.normal ?_
              clear hHeld
              go_wp2
              go_meet
              case rel => exact ⟨N, rfl, HN8.out, HBF.out.1, HBF.out.2⟩
            · obtain ⟨W8, hW8⟩ : ∃ W8, W8 = ((w7).alloc (.cells #[.int .i64 0, .int .i64 0, .int .i64 0, .bool false, .int .i64 0, .int .i64 0, .int .i32 0] 34)).drew := ⟨_, rfl⟩
              obtain ⟨N, hN⟩ : ∃ N, N = (w7).heap.size := ⟨_, rfl⟩
              have hba := box_alloc (Below.refl _ w7)
              have HB8 : Hid (Below w7.heap.size w7 W8) := by show Below _ _ _; rw [hW8]; exact hba.1.drew
              have HN8 : Hid (w7.heap.size ≤ N) := by show _ ≤ _; rw [hN]; exact hba.2.1
              have HX8 : Hid (W8.heap[N]? = some (bxG op0)) := by show _ = _; rw [hW8, hN]; exact hba.2.2
              clear hba
              go_simp
              try rw [← hN]
              try rw [← hW8]
              clear hN hW8
              refine hK.out _ _ (HS7.out _ HB8.out) (fun hHeld => ?_)
              clear hK KK
              try simp only [Act.put, List.getElem_toArray, List.getElem_cons_succ, List.getElem_cons_zero, List.setIfInBounds_toArray, List.set_cons_zero, List.set_cons_succ]
              refine wpAnyH_ready (rs := [2]) (by kernel_rfl) (by simp) ?_
              refine AllReadyH.cons rfl (fun KK hK => ?_) AllReadyH.nil
              go_simp
              refine (HIDC.out _ _ _).mono ?_
              rintro e wi ⟨rfl, hg⟩
              have HB1 : Hid (Below w7.heap.size w7 wi) := HB8.out.trans (hg.below.mono HB8.out.size)
              have HX9 : Hid (wi.heap[N]? = some (bxG op0)) := gw_keep hg HX8.out
              clear hg
              refine hK.out _ _ (HS7.out _ HB1.out) (fun hHeld => ?_)
              clear hK KK
              try simp only [Act.put, List.getElem_toArray, List.getElem_cons_succ, List.getElem_cons_zero, List.setIfInBounds_toArray, List.set_cons_zero, List.set_cons_succ]
              refine wpAnyH_take (i := 4) (v := ?_) rfl (by kernel_rfl) (by kernel_rfl) (by kernel_rfl) (fun _ _ _ h => h) (Or.inl ⟨by rfl, ?_⟩) (by assumption) ?_
              rotate_left
              · intro W' hSw; obtain ⟨s0, s1, s2⟩ := hSw; go_simp; try with_reducible rfl
              try simp only [Act.put, List.getElem_toArray, List.getElem_cons_succ, List.getElem_cons_zero, List.setIfInBounds_toArray, List.set_cons_zero, List.set_cons_succ]
              have HTH : Hid ((wi).there N 0 7) := thereG HX9.out
              have hbs := box_set (p := (goO T 4194303 X)) HB1.out HN8.out HX9.out
              have HBF : Hid (Below w7.heap.size w7 ((wi).setCells N 0 (#[.int .i64 (T + 1), .int .i64 4194303, .int .i64 1, .bool false, .int .i64 X.1, .int .i64 X.2, .int .i32 0] : Array Value).toList) ∧ ((wi).setCells N 0 (#[.int .i64 (T + 1), .int .i64 4194303, .int .i64 1, .bool false, .int .i64 X.1, .int .i64 X.2, .int .i32 0] : Array Value).toList).heap[N]? = some (bxG (goO T 4194303 X))) := hbs
              clear hbs
              refine wpAnyH_ready (rs := [6]) (by kernel_rfl) (by simp) ?_
              refine AllReadyH.cons rfl (fun KK hK => ?_) AllReadyH.nil
              try rw [if_pos (by rfl)]
              refine wp_store_mid 34 (.tmp 15) (.tmp 85) rfl N 0 #[.int .i64 (T + 1), .int .i64 4194303, .int .i64 1, .bool false, .int .i64 X.1, .int .i64 X.2, .int .i32 0] rfl rfl HTH.out (by kernel_rfl) (by simp [Value.oneCell']) ?_
              refine hK.out _ _ (HS7.out _ HBF.out.1) (fun hHeld => ?_)
              clear hK KK
              try simp only [Act.put, List.getElem_toArray, List.getElem_cons_succ, List.getElem_cons_zero, List.setIfInBounds_toArray, List.set_cons_zero, List.set_cons_succ]
              refine wpAnyH_done (by kernel_rfl) ?_ _
              refine NoPanic.normal ?_
              clear hHeld
              go_wp2
              go_meet
              case rel => exact ⟨N, rfl, HN8.out, HBF.out.1, HBF.out.2⟩
          case rest =>
            obtain ⟨N1, rfl, hn, hb, hx⟩ := hcut
            obtain ⟨w8, hw⟩ : ∃ w8, w8 = wc := ⟨_, rfl⟩
            subst hw
            have HZ8 : Hid (w8.heap[Z]? = some (.cells #[.int .i64 X.1, .int .i64 X.2] 32)) := (hb.block Z (Array.getElem?_eq_some_iff.1 HZ7.out).1).trans HZ7.out
            have HN11 : Hid (w8.heap[N1]? = some (bxG (goO T 4194303 X))) := hx
            have HLO1 : Hid (w7.heap.size ≤ N1 ∧ Below w7.heap.size w7 w8) := ⟨hn, hb⟩
            have HT8 : Hid (TtR w w8 P L Q L L b i) := HT7.out.later hb
            clear hn hb hx HT7 HZ7
            clear HS7
            have HS8 : Hid (∀ W, Below w8.heap.size w8 W → W.cell? ⟨Z, 0, none⟩ = some (.int .i64 X.1) ∧ W.cell? ⟨Z, 1, none⟩ = some (.int .i64 X.2) ∧ Below w8.heap.size w8 W) := fun W hb => by
              obtain ⟨z0, z1⟩ := cells2G ((hb.block Z (Array.getElem?_eq_some_iff.1 HZ8.out).1).trans HZ8.out)
              exact ⟨z0, z1, hb⟩
            go_upto_region 18 with fail
            go_cut [16] (fun x16 wx => ∃ N, x16 = .pointer (some ⟨N, 0, none⟩) ∧ w8.heap.size ≤ N ∧ Below w8.heap.size w8 wx ∧ wx.heap[N]? = some (bxG (goO T 4194302 X)))
            case first =>
              refine wp_region_noPanic ?_
              refine wp_region_held_drew (S := (fun w' => w'.cell? ⟨Z, 0, none⟩ = some (.int .i64 X.1) ∧ w'.cell? ⟨Z, 1, none⟩ = some (.int .i64 X.2) ∧ Below w8.heap.size w8 w')) (by kernel_rfl) (HS8.out _ (Below.refl _ w8).drew) (fun hHeld => ?_)
              refine wpAnyH_take (i := 0) (v := ?_) rfl (by kernel_rfl) (by kernel_rfl) (by kernel_rfl) (fun _ _ _ h => h) (Or.inl ⟨by rfl, ?_⟩) (by assumption) ?_
              rotate_left
              · intro W' hSw; obtain ⟨s0, s1, s2⟩ := hSw; go_simp; try with_reducible rfl
              try simp only [Act.put, List.getElem_toArray, List.getElem_cons_succ, List.getElem_cons_zero, List.setIfInBounds_toArray, List.set_cons_zero, List.set_cons_succ]
              refine wpAnyH_take (i := 1) (v := ?_) rfl (by kernel_rfl) (by kernel_rfl) (by kernel_rfl) (fun _ _ _ h => h) (Or.inl ⟨by rfl, ?_⟩) (by assumption) ?_
              rotate_left
              · intro W' hSw; obtain ⟨s0, s1, s2⟩ := hSw; go_simp; try with_reducible rfl
              try simp only [Act.put, List.getElem_toArray, List.getElem_cons_succ, List.getElem_cons_zero, List.setIfInBounds_toArray, List.set_cons_zero, List.set_cons_succ]
              refine wpAnyH_take (i := 3) (v := ?_) rfl (by kernel_rfl) (by kernel_rfl) (by kernel_rfl) (fun _ _ _ h => h) (Or.inl ⟨by rfl, ?_⟩) (by assumption) ?_
              rotate_left
              · intro W' hSw; obtain ⟨s0, s1, s2⟩ := hSw; go_simp; try with_reducible rfl
              try simp only [Act.put, List.getElem_toArray, List.getElem_cons_succ, List.getElem_cons_zero, List.setIfInBounds_toArray, List.set_cons_zero, List.set_cons_succ]
              refine wpAnyH_ready (rs := [2, 5]) (by kernel_rfl) (by simp) ?_
              refine AllReadyH.cons rfl (fun KK hK => ?_) (AllReadyH.cons rfl (fun KK hK => ?_) AllReadyH.nil)
              · go_simp
                refine (HIDC.out _ _ _).mono ?_
                rintro e wi ⟨rfl, hg⟩
                have HB1 : Hid (Below w8.heap.size w8 wi) := (Below.refl _ w8).drew.trans hg.below
                clear hg
                refine hK.out _ _ (HS8.out _ HB1.out) (fun hHeld => ?_)
                clear hK KK
                try simp only [Act.put, List.getElem_toArray, List.getElem_cons_succ, List.getElem_cons_zero, List.setIfInBounds_toArray, List.set_cons_zero, List.set_cons_succ]
                refine wpAnyH_take (i := 4) (v := ?_) rfl (by kernel_rfl) (by kernel_rfl) (by kernel_rfl) (fun _ _ _ h => h) (Or.inl ⟨by rfl, ?_⟩) (by assumption) ?_
                rotate_left
                · intro W' hSw; obtain ⟨s0, s1, s2⟩ := hSw; go_simp; try with_reducible rfl
                try simp only [Act.put, List.getElem_toArray, List.getElem_cons_succ, List.getElem_cons_zero, List.setIfInBounds_toArray, List.set_cons_zero, List.set_cons_succ]
                refine wpAnyH_ready (rs := [5]) (by kernel_rfl) (by simp) ?_
                refine AllReadyH.cons rfl (fun KK hK => ?_) AllReadyH.nil
                obtain ⟨W8, hW8⟩ : ∃ W8, W8 = ((wi).alloc (.cells #[.int .i64 0, .int .i64 0, .int .i64 0, .bool false, .int .i64 0, .int .i64 0, .int .i32 0] 34)) := ⟨_, rfl⟩
                obtain ⟨N, hN⟩ : ∃ N, N = (wi).heap.size := ⟨_, rfl⟩
                have hba := box_alloc HB1.out
                have HB8 : Hid (Below w8.heap.size w8 W8) := by show Below _ _ _; rw [hW8]; exact hba.1
                have HN8 : Hid (w8.heap.size ≤ N) := by show _ ≤ _; rw [hN]; exact hba.2.1
                have HX8 : Hid (W8.heap[N]? = some (bxG op0)) := by show _ = _; rw [hW8, hN]; exact hba.2.2
                clear hba
                go_simp
                try rw [← hN]
                try rw [← hW8]
                clear hN hW8
                refine hK.out _ _ (HS8.out _ HB8.out) (fun hHeld => ?_)
                clear hK KK
                try simp only [Act.put, List.getElem_toArray, List.getElem_cons_succ, List.getElem_cons_zero, List.setIfInBounds_toArray, List.set_cons_zero, List.set_cons_succ]
                have HTH : Hid ((W8).there N 0 7) := thereG HX8.out
                have hbs := box_set (p := (goO T 4194302 X)) HB8.out HN8.out HX8.out
                have HBF : Hid (Below w8.heap.size w8 ((W8).setCells N 0 (#[.int .i64 (T + 1), .int .i64 4194302, .int .i64 1, .bool false, .int .i64 X.1, .int .i64 X.2, .int .i32 0] : Array Value).toList) ∧ ((W8).setCells N 0 (#[.int .i64 (T + 1), .int .i64 4194302, .int .i64 1, .bool false, .int .i64 X.1, .int .i64 X.2, .int .i32 0] : Array Value).toList).heap[N]? = some (bxG (goO T 4194302 X))) := hbs
                clear hbs
                refine wpAnyH_ready (rs := [6]) (by kernel_rfl) (by simp) ?_
                refine AllReadyH.cons rfl (fun KK hK => ?_) AllReadyH.nil
                try rw [if_pos (by rfl)]
                refine wp_store_mid 34 (.tmp 16) (.tmp 90) rfl N 0 #[.int .i64 (T + 1), .int .i64 4194302, .int .i64 1, .bool false, .int .i64 X.1, .int .i64 X.2, .int .i32 0] rfl rfl HTH.out (by kernel_rfl) (by simp [Value.oneCell']) ?_
                refine hK.out _ _ (HS8.out _ HBF.out.1) (fun hHeld => ?_)
                clear hK KK
                try simp only [Act.put, List.getElem_toArray, List.getElem_cons_succ, List.getElem_cons_zero, List.setIfInBounds_toArray, List.set_cons_zero, List.set_cons_succ]
                refine wpAnyH_done (by kernel_rfl) ?_ _
                refine NoPanic.normal ?_
                clear hHeld
                go_wp2
                go_meet
                case rel => exact ⟨N, rfl, HN8.out, HBF.out.1, HBF.out.2⟩
              · obtain ⟨W8, hW8⟩ : ∃ W8, W8 = ((w8).alloc (.cells #[.int .i64 0, .int .i64 0, .int .i64 0, .bool false, .int .i64 0, .int .i64 0, .int .i32 0] 34)).drew := ⟨_, rfl⟩
                obtain ⟨N, hN⟩ : ∃ N, N = (w8).heap.size := ⟨_, rfl⟩
                have hba := box_alloc (Below.refl _ w8)
                have HB8 : Hid (Below w8.heap.size w8 W8) := by show Below _ _ _; rw [hW8]; exact hba.1.drew
                have HN8 : Hid (w8.heap.size ≤ N) := by show _ ≤ _; rw [hN]; exact hba.2.1
                have HX8 : Hid (W8.heap[N]? = some (bxG op0)) := by show _ = _; rw [hW8, hN]; exact hba.2.2
                clear hba
                go_simp
                try rw [← hN]
                try rw [← hW8]
                clear hN hW8
                refine hK.out _ _ (HS8.out _ HB8.out) (fun hHeld => ?_)
                clear hK KK
                try simp only [Act.put, List.getElem_toArray, List.getElem_cons_succ, List.getElem_cons_zero, List.setIfInBounds_toArray, List.set_cons_zero, List.set_cons_succ]
                refine wpAnyH_ready (rs := [2]) (by kernel_rfl) (by simp) ?_
                refine AllReadyH.cons rfl (fun KK hK => ?_) AllReadyH.nil
                go_simp
                refine (HIDC.out _ _ _).mono ?_
                rintro e wi ⟨rfl, hg⟩
                have HB1 : Hid (Below w8.heap.size w8 wi) := HB8.out.trans (hg.below.mono HB8.out.size)
                have HX9 : Hid (wi.heap[N]? = some (bxG op0)) := gw_keep hg HX8.out
                clear hg
                refine hK.out _ _ (HS8.out _ HB1.out) (fun hHeld => ?_)
                clear hK KK
                try simp only [Act.put, List.getElem_toArray, List.getElem_cons_succ, List.getElem_cons_zero, List.setIfInBounds_toArray, List.set_cons_zero, List.set_cons_succ]
                refine wpAnyH_take (i := 4) (v := ?_) rfl (by kernel_rfl) (by kernel_rfl) (by kernel_rfl) (fun _ _ _ h => h) (Or.inl ⟨by rfl, ?_⟩) (by assumption) ?_
                rotate_left
                · intro W' hSw; obtain ⟨s0, s1, s2⟩ := hSw; go_simp; try with_reducible rfl
                try simp only [Act.put, List.getElem_toArray, List.getElem_cons_succ, List.getElem_cons_zero, List.setIfInBounds_toArray, List.set_cons_zero, List.set_cons_succ]
                have HTH : Hid ((wi).there N 0 7) := thereG HX9.out
                have hbs := box_set (p := (goO T 4194302 X)) HB1.out HN8.out HX9.out
                have HBF : Hid (Below w8.heap.size w8 ((wi).setCells N 0 (#[.int .i64 (T + 1), .int .i64 4194302, .int .i64 1, .bool false, .int .i64 X.1, .int .i64 X.2, .int .i32 0] : Array Value).toList) ∧ ((wi).setCells N 0 (#[.int .i64 (T + 1), .int .i64 4194302, .int .i64 1, .bool false, .int .i64 X.1, .int .i64 X.2, .int .i32 0] : Array Value).toList).heap[N]? = some (bxG (goO T 4194302 X))) := hbs
                clear hbs
                refine wpAnyH_ready (rs := [6]) (by kernel_rfl) (by simp) ?_
                refine AllReadyH.cons rfl (fun KK hK => ?_) AllReadyH.nil
                try rw [if_pos (by rfl)]
                refine wp_store_mid 34 (.tmp 16) (.tmp 90) rfl N 0 #[.int .i64 (T + 1), .int .i64 4194302, .int .i64 1, .bool false, .int .i64 X.1, .int .i64 X.2, .int .i32 0] rfl rfl HTH.out (by kernel_rfl) (by simp [Value.oneCell']) ?_
                refine hK.out _ _ (HS8.out _ HBF.out.1) (fun hHeld => ?_)
                clear hK KK
                try simp only [Act.put, List.getElem_toArray, List.getElem_cons_succ, List.getElem_cons_zero, List.setIfInBounds_toArray, List.set_cons_zero, List.set_cons_succ]
                refine wpAnyH_done (by kernel_rfl) ?_ _
                refine NoPanic.normal ?_
                clear hHeld
                go_wp2
                go_meet
                case rel => exact ⟨N, rfl, HN8.out, HBF.out.1, HBF.out.2⟩
            case rest =>
              obtain ⟨N2, rfl, hn, hb, hx⟩ := hcut
              obtain ⟨w9, hw⟩ : ∃ w9, w9 = wc := ⟨_, rfl⟩
              subst hw
              have HZ9 : Hid (w9.heap[Z]? = some (.cells #[.int .i64 X.1, .int .i64 X.2] 32)) := (hb.block Z (Array.getElem?_eq_some_iff.1 HZ8.out).1).trans HZ8.out
              have HN22 : Hid (w9.heap[N2]? = some (bxG (goO T 4194302 X))) := hx
              have HN12 : Hid (w9.heap[N1]? = some (bxG (goO T 4194303 X))) := (hb.block N1 (Array.getElem?_eq_some_iff.1 HN11.out).1).trans HN11.out
              have HLO2 : Hid (w8.heap.size ≤ N2 ∧ Below w8.heap.size w8 w9) := ⟨hn, hb⟩
              have HT9 : Hid (TtR w w9 P L Q L L b i) := HT8.out.later hb
              clear hn hb hx HT8 HZ8
              clear HS8 HN11
              have HS9 : Hid (∀ W, Below w9.heap.size w9 W → W.cell? ⟨Z, 0, none⟩ = some (.int .i64 X.1) ∧ W.cell? ⟨Z, 1, none⟩ = some (.int .i64 X.2) ∧ Below w9.heap.size w9 W) := fun W hb => by
                obtain ⟨z0, z1⟩ := cells2G ((hb.block Z (Array.getElem?_eq_some_iff.1 HZ9.out).1).trans HZ9.out)
                exact ⟨z0, z1, hb⟩
              go_upto_region 19 with fail
              go_cut [17] (fun x17 wx => ∃ N, x17 = .pointer (some ⟨N, 0, none⟩) ∧ w9.heap.size ≤ N ∧ Below w9.heap.size w9 wx ∧ wx.heap[N]? = some (bxG (goI T 4194301 X c)))
              case first =>
                refine wp_region_noPanic ?_
                refine wp_region_held_drew (S := (fun w' => w'.cell? ⟨Z, 0, none⟩ = some (.int .i64 X.1) ∧ w'.cell? ⟨Z, 1, none⟩ = some (.int .i64 X.2) ∧ Below w9.heap.size w9 w')) (by kernel_rfl) (HS9.out _ (Below.refl _ w9).drew) (fun hHeld => ?_)
                refine wpAnyH_take (i := 0) (v := ?_) rfl (by kernel_rfl) (by kernel_rfl) (by kernel_rfl) (fun _ _ _ h => h) (Or.inl ⟨by rfl, ?_⟩) (by assumption) ?_
                rotate_left
                · intro W' hSw; obtain ⟨s0, s1, s2⟩ := hSw; go_simp; try with_reducible rfl
                try simp only [Act.put, List.getElem_toArray, List.getElem_cons_succ, List.getElem_cons_zero, List.setIfInBounds_toArray, List.set_cons_zero, List.set_cons_succ]
                refine wpAnyH_take (i := 1) (v := ?_) rfl (by kernel_rfl) (by kernel_rfl) (by kernel_rfl) (fun _ _ _ h => h) (Or.inl ⟨by rfl, ?_⟩) (by assumption) ?_
                rotate_left
                · intro W' hSw; obtain ⟨s0, s1, s2⟩ := hSw; go_simp; try with_reducible rfl
                try simp only [Act.put, List.getElem_toArray, List.getElem_cons_succ, List.getElem_cons_zero, List.setIfInBounds_toArray, List.set_cons_zero, List.set_cons_succ]
                refine wpAnyH_take (i := 3) (v := ?_) rfl (by kernel_rfl) (by kernel_rfl) (by kernel_rfl) (fun _ _ _ h => h) (Or.inl ⟨by rfl, ?_⟩) (by assumption) ?_
                rotate_left
                · intro W' hSw; obtain ⟨s0, s1, s2⟩ := hSw; go_simp; try with_reducible rfl
                try simp only [Act.put, List.getElem_toArray, List.getElem_cons_succ, List.getElem_cons_zero, List.setIfInBounds_toArray, List.set_cons_zero, List.set_cons_succ]
                refine wpAnyH_take (i := 4) (v := ?_) rfl (by kernel_rfl) (by kernel_rfl) (by kernel_rfl) (fun _ _ _ h => h) (Or.inl ⟨by rfl, ?_⟩) (by assumption) ?_
                rotate_left
                · intro W' hSw; obtain ⟨s0, s1, s2⟩ := hSw; go_simp; try with_reducible rfl
                try simp only [Act.put, List.getElem_toArray, List.getElem_cons_succ, List.getElem_cons_zero, List.setIfInBounds_toArray, List.set_cons_zero, List.set_cons_succ]
                refine wpAnyH_ready (rs := [2, 6]) (by kernel_rfl) (by simp) ?_
                refine AllReadyH.cons rfl (fun KK hK => ?_) (AllReadyH.cons rfl (fun KK hK => ?_) AllReadyH.nil)
                · go_simp
                  refine (HIDC.out _ _ _).mono ?_
                  rintro e wi ⟨rfl, hg⟩
                  have HB1 : Hid (Below w9.heap.size w9 wi) := (Below.refl _ w9).drew.trans hg.below
                  clear hg
                  refine hK.out _ _ (HS9.out _ HB1.out) (fun hHeld => ?_)
                  clear hK KK
                  try simp only [Act.put, List.getElem_toArray, List.getElem_cons_succ, List.getElem_cons_zero, List.setIfInBounds_toArray, List.set_cons_zero, List.set_cons_succ]
                  refine wpAnyH_take (i := 5) (v := ?_) rfl (by kernel_rfl) (by kernel_rfl) (by kernel_rfl) (fun _ _ _ h => h) (Or.inl ⟨by rfl, ?_⟩) (by assumption) ?_
                  rotate_left
                  · intro W' hSw; obtain ⟨s0, s1, s2⟩ := hSw; go_simp; try with_reducible rfl
                  try simp only [Act.put, List.getElem_toArray, List.getElem_cons_succ, List.getElem_cons_zero, List.setIfInBounds_toArray, List.set_cons_zero, List.set_cons_succ]
                  refine wpAnyH_ready (rs := [6]) (by kernel_rfl) (by simp) ?_
                  refine AllReadyH.cons rfl (fun KK hK => ?_) AllReadyH.nil
                  obtain ⟨W8, hW8⟩ : ∃ W8, W8 = ((wi).alloc (.cells #[.int .i64 0, .int .i64 0, .int .i64 0, .bool false, .int .i64 0, .int .i64 0, .int .i32 0] 34)) := ⟨_, rfl⟩
                  obtain ⟨N, hN⟩ : ∃ N, N = (wi).heap.size := ⟨_, rfl⟩
                  have hba := box_alloc HB1.out
                  have HB8 : Hid (Below w9.heap.size w9 W8) := by show Below _ _ _; rw [hW8]; exact hba.1
                  have HN8 : Hid (w9.heap.size ≤ N) := by show _ ≤ _; rw [hN]; exact hba.2.1
                  have HX8 : Hid (W8.heap[N]? = some (bxG op0)) := by show _ = _; rw [hW8, hN]; exact hba.2.2
                  clear hba
                  go_simp
                  try rw [← hN]
                  try rw [← hW8]
                  clear hN hW8
                  refine hK.out _ _ (HS9.out _ HB8.out) (fun hHeld => ?_)
                  clear hK KK
                  try simp only [Act.put, List.getElem_toArray, List.getElem_cons_succ, List.getElem_cons_zero, List.setIfInBounds_toArray, List.set_cons_zero, List.set_cons_succ]
                  have HTH : Hid ((W8).there N 0 7) := thereG HX8.out
                  have hbs := box_set (p := (goI T 4194301 X c)) HB8.out HN8.out HX8.out
                  have HBF : Hid (Below w9.heap.size w9 ((W8).setCells N 0 (#[.int .i64 (T + 1), .int .i64 4194301, .int .i64 1, .bool true, .int .i64 X.1, .int .i64 X.2, .int .i32 c] : Array Value).toList) ∧ ((W8).setCells N 0 (#[.int .i64 (T + 1), .int .i64 4194301, .int .i64 1, .bool true, .int .i64 X.1, .int .i64 X.2, .int .i32 c] : Array Value).toList).heap[N]? = some (bxG (goI T 4194301 X c))) := hbs
                  clear hbs
                  refine wpAnyH_ready (rs := [7]) (by kernel_rfl) (by simp) ?_
                  refine AllReadyH.cons rfl (fun KK hK => ?_) AllReadyH.nil
                  try rw [if_pos (by rfl)]
                  refine wp_store_mid 34 (.tmp 17) (.tmp 96) rfl N 0 #[.int .i64 (T + 1), .int .i64 4194301, .int .i64 1, .bool true, .int .i64 X.1, .int .i64 X.2, .int .i32 c] rfl rfl HTH.out (by kernel_rfl) (by simp [Value.oneCell']) ?_
                  refine hK.out _ _ (HS9.out _ HBF.out.1) (fun hHeld => ?_)
                  clear hK KK
                  try simp only [Act.put, List.getElem_toArray, List.getElem_cons_succ, List.getElem_cons_zero, List.setIfInBounds_toArray, List.set_cons_zero, List.set_cons_succ]
                  refine wpAnyH_done (by kernel_rfl) ?_ _
                  refine NoPanic.normal ?_
                  clear hHeld
                  go_wp2
                  go_meet
                  case rel => exact ⟨N, rfl, HN8.out, HBF.out.1, HBF.out.2⟩
                · obtain ⟨W8, hW8⟩ : ∃ W8, W8 = ((w9).alloc (.cells #[.int .i64 0, .int .i64 0, .int .i64 0, .bool false, .int .i64 0, .int .i64 0, .int .i32 0] 34)).drew := ⟨_, rfl⟩
                  obtain ⟨N, hN⟩ : ∃ N, N = (w9).heap.size := ⟨_, rfl⟩
                  have hba := box_alloc (Below.refl _ w9)
                  have HB8 : Hid (Below w9.heap.size w9 W8) := by show Below _ _ _; rw [hW8]; exact hba.1.drew
                  have HN8 : Hid (w9.heap.size ≤ N) := by show _ ≤ _; rw [hN]; exact hba.2.1
                  have HX8 : Hid (W8.heap[N]? = some (bxG op0)) := by show _ = _; rw [hW8, hN]; exact hba.2.2
                  clear hba
                  go_simp
                  try rw [← hN]
                  try rw [← hW8]
                  clear hN hW8
                  refine hK.out _ _ (HS9.out _ HB8.out) (fun hHeld => ?_)
                  clear hK KK
                  try simp only [Act.put, List.getElem_toArray, List.getElem_cons_succ, List.getElem_cons_zero, List.setIfInBounds_toArray, List.set_cons_zero, List.set_cons_succ]
                  refine wpAnyH_ready (rs := [2]) (by kernel_rfl) (by simp) ?_
                  refine AllReadyH.cons rfl (fun KK hK => ?_) AllReadyH.nil
                  go_simp
                  refine (HIDC.out _ _ _).mono ?_
                  rintro e wi ⟨rfl, hg⟩
                  have HB1 : Hid (Below w9.heap.size w9 wi) := HB8.out.trans (hg.below.mono HB8.out.size)
                  have HX9 : Hid (wi.heap[N]? = some (bxG op0)) := gw_keep hg HX8.out
                  clear hg
                  refine hK.out _ _ (HS9.out _ HB1.out) (fun hHeld => ?_)
                  clear hK KK
                  try simp only [Act.put, List.getElem_toArray, List.getElem_cons_succ, List.getElem_cons_zero, List.setIfInBounds_toArray, List.set_cons_zero, List.set_cons_succ]
                  refine wpAnyH_take (i := 5) (v := ?_) rfl (by kernel_rfl) (by kernel_rfl) (by kernel_rfl) (fun _ _ _ h => h) (Or.inl ⟨by rfl, ?_⟩) (by assumption) ?_
                  rotate_left
                  · intro W' hSw; obtain ⟨s0, s1, s2⟩ := hSw; go_simp; try with_reducible rfl
                  try simp only [Act.put, List.getElem_toArray, List.getElem_cons_succ, List.getElem_cons_zero, List.setIfInBounds_toArray, List.set_cons_zero, List.set_cons_succ]
                  have HTH : Hid ((wi).there N 0 7) := thereG HX9.out
                  have hbs := box_set (p := (goI T 4194301 X c)) HB1.out HN8.out HX9.out
                  have HBF : Hid (Below w9.heap.size w9 ((wi).setCells N 0 (#[.int .i64 (T + 1), .int .i64 4194301, .int .i64 1, .bool true, .int .i64 X.1, .int .i64 X.2, .int .i32 c] : Array Value).toList) ∧ ((wi).setCells N 0 (#[.int .i64 (T + 1), .int .i64 4194301, .int .i64 1, .bool true, .int .i64 X.1, .int .i64 X.2, .int .i32 c] : Array Value).toList).heap[N]? = some (bxG (goI T 4194301 X c))) := hbs
                  clear hbs
                  refine wpAnyH_ready (rs := [7]) (by kernel_rfl) (by simp) ?_
                  refine AllReadyH.cons rfl (fun KK hK => ?_) AllReadyH.nil
                  try rw [if_pos (by rfl)]
                  refine wp_store_mid 34 (.tmp 17) (.tmp 96) rfl N 0 #[.int .i64 (T + 1), .int .i64 4194301, .int .i64 1, .bool true, .int .i64 X.1, .int .i64 X.2, .int .i32 c] rfl rfl HTH.out (by kernel_rfl) (by simp [Value.oneCell']) ?_
                  refine hK.out _ _ (HS9.out _ HBF.out.1) (fun hHeld => ?_)
                  clear hK KK
                  try simp only [Act.put, List.getElem_toArray, List.getElem_cons_succ, List.getElem_cons_zero, List.setIfInBounds_toArray, List.set_cons_zero, List.set_cons_succ]
                  refine wpAnyH_done (by kernel_rfl) ?_ _
                  refine NoPanic.normal ?_
                  clear hHeld
                  go_wp2
                  go_meet
                  case rel => exact ⟨N, rfl, HN8.out, HBF.out.1, HBF.out.2⟩
              case rest =>
                obtain ⟨N3, rfl, hn, hb, hx⟩ := hcut
                obtain ⟨w10, hw⟩ : ∃ w10, w10 = wc := ⟨_, rfl⟩
                subst hw
                have HZ10 : Hid (w10.heap[Z]? = some (.cells #[.int .i64 X.1, .int .i64 X.2] 32)) := (hb.block Z (Array.getElem?_eq_some_iff.1 HZ9.out).1).trans HZ9.out
                have HN33 : Hid (w10.heap[N3]? = some (bxG (goI T 4194301 X c))) := hx
                have HN13 : Hid (w10.heap[N1]? = some (bxG (goO T 4194303 X))) := (hb.block N1 (Array.getElem?_eq_some_iff.1 HN12.out).1).trans HN12.out
                have HN23 : Hid (w10.heap[N2]? = some (bxG (goO T 4194302 X))) := (hb.block N2 (Array.getElem?_eq_some_iff.1 HN22.out).1).trans HN22.out
                have HLO3 : Hid (w9.heap.size ≤ N3 ∧ Below w9.heap.size w9 w10) := ⟨hn, hb⟩
                have HT10 : Hid (TtR w w10 P L Q L L b i) := HT9.out.later hb
                clear hn hb hx HT9 HZ9
                clear HS9 HN12 HN22 HIDC
                go_upto_region 21 with fail
                go_loopw [18] (fun x18 wr => ∃ q : Nat, x18 = .int .i64 (q : Int) ∧ q ≤ i ∧ (∀ j, j < q → (L.getD j op0).a < 4194301) ∧ (0 < q → T < 4294967295) ∧ Below w10.heap.size w10 wr) (fun x18 _ => i - (RowKit.intOf x18).toNat)
                case atStart => exact ⟨0, rfl, by omega, (fun j hj => absurd hj (by omega)), (fun h => absurd h (by omega)), Below.refl _ _⟩
                case round =>
                  obtain ⟨q, h18, hq, hqa, hqt, hqb⟩ := hrel
                  subst h18
                  have HQB : Hid (Below w10.heap.size w10 wr) := hqb
                  have HQA : Hid (∀ j, j < q → (L.getD j op0).a < 4194301) := hqa
                  have HQT : Hid (0 < q → T < 4294967295) := hqt
                  have HT11 : Hid (TtR w wr P L Q L L b i) := HT10.out.later hqb
                  clear hqb hqa hqt
                  by_cases hlt : q < i
                  · obtain ⟨g, off, rfl, c0, c1, c2, c3, c4, c5, c6⟩ := HT11.out.2.at q hlt
                    have hqn : (L.getD q op0).a < 4194301 → ∀ j, j < q + 1 → (L.getD j op0).a < 4194301 := fun h j hj => by
                      rcases Nat.lt_or_ge j q with r | r
                      · exact HQA.out j r
                      · rw [show j = q by omega]; exact h
                    have HBF : Hid (Below w.heap.size w wr) := HT11.out.1.below
                    have hi1 : (q : Int) < (i : Int) := by omega
                    have hi2 : (0 : Int) ≤ (q : Int) := by omega
                    generalize (L.getD q op0).a = AU at c1 hqn
                    clear c0 c2 c3 c4 c5 c6
                    by_cases ha : AU < 4194301
                    · have e1 : decide ((4194301 : Int) ≤ AU) = false := decide_eq_false (by omega)
                      have HQN : Hid (∀ j, j < q + 1 → (L.getD j op0).a < 4194301) := hqn ha
                      clear hqn
                      by_cases ht : T < 4294967295
                      · have e2 : decide ((4294967295 : Int) ≤ T) = false := decide_eq_false (by omega)
                        go_wp2
                        go_roundw
                        case rel => exact ⟨q + 1, by go_num, by omega, HQN.out, (fun _ => ht), HQB.out⟩
                        case measure => simp [RowKit.intOf]; omega
                      · have e2 : decide ((4294967295 : Int) ≤ T) = true := decide_eq_true (by omega)
                        go_wp2
                        go_ret
                        exact ⟨rfl, HBF.out⟩
                    · have e1 : decide ((4194301 : Int) ≤ AU) = true := decide_eq_true (by omega)
                      clear hqn
                      go_wp2
                      go_ret
                      exact ⟨rfl, HBF.out⟩
                  · obtain rfl : i = q := by omega
                    have hTT : T < 4294967295 := HQT.out hi0
                    have HAA : Hid (∀ o ∈ L, o.a < 4194301) := fun o ho => by
                      obtain ⟨j, hj, rfl⟩ := List.mem_iff_getElem.1 ho
                      have := HQA.out j (by rw [HN.out]; exact hj)
                      simpa [List.getD, hj] using this
                    clear HQA HQT
                    have HM12 : Hid (NewM L [goO T 4194303 X, goO T 4194302 X, goI T 4194301 X c] ∧ NewM L [goI T 4194301 X c, goO T 4194302 X, goO T 4194303 X]) := by
                      have h := go_newM HLV.out X HXE.out c HZC.out.symm (by rw [← HTE.out]; exact hTT) HAA.out
                      rw [← HTE.out] at h
                      exact h
                    have HEND : Hid (els (L ++ [goO T 4194303 X, goO T 4194302 X, goI T 4194301 X c]) = els (L ++ [goI T 4194301 X c, goO T 4194302 X, goO T 4194303 X]) ∧ aliveE (L ++ [goO T 4194303 X, goO T 4194302 X, goI T 4194301 X c]) X = false ∧ aliveE (L ++ [goO T 4194303 X, goO T 4194302 X, goI T 4194301 X c]) (T + 1, 4194301) = true) := by
                      have h := go_end HLV.out X HXE.out c HZC.out.symm (by rw [← HTE.out]; exact hTT) HAA.out
                      rw [← HTE.out] at h
                      exact h
                    obtain ⟨bx, hbx⟩ : ∃ bx : List (Nat × Obj), bx = [(Z, (.cells #[.int .i64 X.1, .int .i64 X.2] 32 (0, 0))), (N1, bxG (goO T 4194303 X)), (N2, bxG (goO T 4194302 X)), (N3, bxG (goI T 4194301 X c))] := ⟨_, rfl⟩
                    have hb5 : Below w5.heap.size w5 wr := HB56.out.trans ((HLO1.out.2.trans ((HLO2.out.2.trans ((HLO3.out.2.trans (HQB.out.mono HLO3.out.2.size)).mono HLO2.out.2.size)).mono HLO1.out.2.size)).mono HB56.out.size)
                    have HG0 : Hid (GoS w wr P L Q L bx) := by
                      have hz : wr.heap[Z]? = some (.cells #[.int .i64 X.1, .int .i64 X.2] 32 (0, 0)) := (HQB.out.block Z (Array.getElem?_eq_some_iff.1 HZ10.out).1).trans HZ10.out
                      have h1 : wr.heap[N1]? = some (bxG (goO T 4194303 X)) := (HQB.out.block N1 (Array.getElem?_eq_some_iff.1 HN13.out).1).trans HN13.out
                      have h2 : wr.heap[N2]? = some (bxG (goO T 4194302 X)) := (HQB.out.block N2 (Array.getElem?_eq_some_iff.1 HN23.out).1).trans HN23.out
                      have h3 : wr.heap[N3]? = some (bxG (goI T 4194301 X c)) := (HQB.out.block N3 (Array.getElem?_eq_some_iff.1 HN33.out).1).trans HN33.out
                      have l0 := HT5.out.2
                      have l1 := HLO1.out.1
                      have l2 := HLO2.out.1
                      have l3 := HLO3.out.1
                      have s0 := HB56.out.size
                      have s1 := HLO1.out.2.size
                      have s2 := HLO2.out.2.size
                      have hg : GoS w wr P L Q L bx := by
                        subst hbx
                        refine ⟨HT5.out.1.1.more hb5 (fun k hk => .inr ?_), fun k o hk => ?_⟩
                        · obtain ⟨o, ho⟩ := hk
                          simp only [List.mem_cons, List.not_mem_nil, or_false] at ho
                          rcases ho with ho | ho | ho | ho <;> cases ho
                          · exact ⟨by omega, (Array.getElem?_eq_some_iff.1 hz).1⟩
                          · exact ⟨by omega, (Array.getElem?_eq_some_iff.1 h1).1⟩
                          · exact ⟨by omega, (Array.getElem?_eq_some_iff.1 h2).1⟩
                          · exact ⟨by omega, (Array.getElem?_eq_some_iff.1 h3).1⟩
                        · simp only [List.mem_cons, List.not_mem_nil, or_false] at hk
                          rcases hk with hk | hk | hk | hk <;> cases hk
                          · exact hz
                          · exact h1
                          · exact h2
                          · exact h3
                      exact hg
                    have HBX : Hid ((Z, (.cells #[.int .i64 X.1, .int .i64 X.2] 32 (0, 0))) ∈ bx ∧ (N1, bxG (goO T 4194303 X)) ∈ bx ∧ (N2, bxG (goO T 4194302 X)) ∈ bx ∧ (N3, bxG (goI T 4194301 X c)) ∈ bx) := by
                      have hh : (Z, (.cells #[.int .i64 X.1, .int .i64 X.2] 32 (0, 0))) ∈ bx ∧ (N1, bxG (goO T 4194303 X)) ∈ bx ∧ (N2, bxG (goO T 4194302 X)) ∈ bx ∧ (N3, bxG (goI T 4194301 X c)) ∈ bx := by subst hbx; simp
                      exact hh
                    clear hbx hb5 HT5 HLO1 HLO2 HLO3 HB56 HZ10 HN13 HN23 HN33 HT11 HT10 HQB HRB
                    have hc1 := cellsG (HG0.out.2 N1 _ HBX.out.2.1)
                    have hc2 := cellsG (HG0.out.2 N2 _ HBX.out.2.2.1)
                    have hc3 := cellsG (HG0.out.2 N3 _ HBX.out.2.2.2)
                    simp only [goO, goI] at hc1 hc2 hc3
                    obtain ⟨k0, k1, k2, k3, k4, k5, k6⟩ := hc1
                    obtain ⟨m0, m1, m2, m3, m4, m5, m6⟩ := hc2
                    obtain ⟨n0, n1, n2, n3, n4, n5, n6⟩ := hc3
                    obtain ⟨W12, hW12⟩ : ∃ W12, W12 = wr.alloc (.cells #[.int .i64 (T + 1), .int .i64 4194303, .int .i64 1, .bool false, .int .i64 X.1, .int .i64 X.2, .int .i32 0, .int .i64 (T + 1), .int .i64 4194302, .int .i64 1, .bool false, .int .i64 X.1, .int .i64 X.2, .int .i32 0, .int .i64 (T + 1), .int .i64 4194301, .int .i64 1, .bool true, .int .i64 X.1, .int .i64 X.2, .int .i32 c] 34 (0, 0)) := ⟨_, rfl⟩
                    obtain ⟨R1, hR1⟩ : ∃ R1, R1 = wr.heap.size := ⟨_, rfl⟩
                    have HG1 : Hid (GoS w W12 P L Q L ((R1, (.cells #[.int .i64 (T + 1), .int .i64 4194303, .int .i64 1, .bool false, .int .i64 X.1, .int .i64 X.2, .int .i32 0, .int .i64 (T + 1), .int .i64 4194302, .int .i64 1, .bool false, .int .i64 X.1, .int .i64 X.2, .int .i32 0, .int .i64 (T + 1), .int .i64 4194301, .int .i64 1, .bool true, .int .i64 X.1, .int .i64 X.2, .int .i32 c] 34 (0, 0))) :: bx)) := by
                      have h := HG0.out.box (.cells #[.int .i64 (T + 1), .int .i64 4194303, .int .i64 1, .bool false, .int .i64 X.1, .int .i64 X.2, .int .i32 0, .int .i64 (T + 1), .int .i64 4194302, .int .i64 1, .bool false, .int .i64 X.1, .int .i64 X.2, .int .i32 0, .int .i64 (T + 1), .int .i64 4194301, .int .i64 1, .bool true, .int .i64 X.1, .int .i64 X.2, .int .i32 c] 34 (0, 0))
                      rw [← hW12, ← hR1] at h
                      exact h
                    go_upto_region 26 with fail
                    rw [← hR1, ← hW12]
                    clear hR1 hW12 k0 k1 k2 k3 k4 k5 k6 m0 m1 m2 m3 m4 m5 m6 n0 n1 n2 n3 n4 n5 n6 HG0
                    go_loopw [119] (fun x119 wr => ∃ m : Nat, x119 = .int .i64 (m : Int) ∧ m ≤ 3 ∧ GoS w wr P (L ++ [goO T 4194303 X, goO T 4194302 X, goI T 4194301 X c].take m) Q L ((R1, (.cells #[.int .i64 (T + 1), .int .i64 4194303, .int .i64 1, .bool false, .int .i64 X.1, .int .i64 X.2, .int .i32 0, .int .i64 (T + 1), .int .i64 4194302, .int .i64 1, .bool false, .int .i64 X.1, .int .i64 X.2, .int .i32 0, .int .i64 (T + 1), .int .i64 4194301, .int .i64 1, .bool true, .int .i64 X.1, .int .i64 X.2, .int .i32 c] 34 (0, 0))) :: bx)) (fun x119 _ => 3 - (RowKit.intOf x119).toNat)
                    case atStart => exact ⟨0, rfl, by omega, by simpa using HG1.out⟩
                    case round =>
                      clear HG1
                      obtain ⟨m, h119, hm, hgs⟩ := hrel
                      subst h119
                      have HGS : Hid (GoS w wr P (L ++ [goO T 4194303 X, goO T 4194302 X, goI T 4194301 X c].take m) Q L ((R1, (.cells #[.int .i64 (T + 1), .int .i64 4194303, .int .i64 1, .bool false, .int .i64 X.1, .int .i64 X.2, .int .i32 0, .int .i64 (T + 1), .int .i64 4194302, .int .i64 1, .bool false, .int .i64 X.1, .int .i64 X.2, .int .i32 0, .int .i64 (T + 1), .int .i64 4194301, .int .i64 1, .bool true, .int .i64 X.1, .int .i64 X.2, .int .i32 c] 34 (0, 0))) :: bx)) := hgs
                      clear hgs
                      by_cases hlt : m < 3
                      · obtain ⟨g9, o9, hgo, c0, c1, c2, c3, c4, c5, c6⟩ := (rd3 (p := (goO T 4194303 X)) (q := (goO T 4194302 X)) (r := (goI T 4194301 X c)) (HGS.out.2 R1 _ (List.mem_cons_self ..))).at m hlt
                        cases hgo
                        rw [Nat.zero_add] at c0 c1 c2 c3 c4 c5 c6
                        have hst := (new_step HLV.out HM12.out.1 3 (Nat.le_refl _)).2 m hlt
                        have hll : (L ++ [goO T 4194303 X, goO T 4194302 X, goI T 4194301 X c].take m).length ≤ 99000 := by rw [List.length_append, List.length_take]; have := HN.out; simp only [List.length_cons, List.length_nil]; omega
                        have HPUT : Hid (∀ W, Below wr.heap.size wr W → Calls Try.prog 12 #[.pointer (some ⟨P, 0, none⟩), .agg #[.int .i64 ([goO T 4194303 X, goO T 4194302 X, goI T 4194301 X c].getD m op0).c, .int .i64 ([goO T 4194303 X, goO T 4194302 X, goI T 4194301 X c].getD m op0).a, .int .i64 ([goO T 4194303 X, goO T 4194302 X, goI T 4194301 X c].getD m op0).s, .bool ([goO T 4194303 X, goO T 4194302 X, goI T 4194301 X c].getD m op0).ins, .int .i64 ([goO T 4194303 X, goO T 4194302 X, goI T 4194301 X c].getD m op0).rc, .int .i64 ([goO T 4194303 X, goO T 4194302 X, goI T 4194301 X c].getD m op0).ra, .int .i32 ([goO T 4194303 X, goO T 4194302 X, goI T 4194301 X c].getD m op0).ch]] W fun e w' => e = .returned (.tuple #[.bool true, .int .i64 0]) ∧ GoS w w' P (L ++ [goO T 4194303 X, goO T 4194302 X, goI T 4194301 X c].take (m + 1)) Q L ((R1, (.cells #[.int .i64 (T + 1), .int .i64 4194303, .int .i64 1, .bool false, .int .i64 X.1, .int .i64 X.2, .int .i32 0, .int .i64 (T + 1), .int .i64 4194302, .int .i64 1, .bool false, .int .i64 X.1, .int .i64 X.2, .int .i32 0, .int .i64 (T + 1), .int .i64 4194301, .int .i64 1, .bool true, .int .i64 X.1, .int .i64 X.2, .int .i32 c] 34 (0, 0))) :: bx)) := fun W hb => ((HGS.out.later hb).put1 ([goO T 4194303 X, goO T 4194302 X, goI T 4194301 X c].getD m op0) hll).mono fun e w' q => by
                          rw [hst.1, hst.2] at q
                          exact q
                        generalize [goO T 4194303 X, goO T 4194302 X, goI T 4194301 X c].getD m op0 = Y at c0 c1 c2 c3 c4 c5 c6 HPUT
                        have HBA : Hid (∀ o, Below wr.heap.size wr (wr.alloc o)) := fun o => (Below.refl _ wr).alloc (Nat.le_refl _) o
                        have hi1 : (m : Int) < 3 := by omega
                        have hi2 : (0 : Int) ≤ (m : Int) := by omega
                        clear hst hll HGS
                        go_wp2_with (go_at_call 12; refine (HPUT.out _ (HBA.out _)).mono ?_; rintro e w13 ⟨rfl, g1⟩; have HG : Hid (type_of% g1) := g1; clear g1)
                        go_roundw
                        case rel => exact ⟨m + 1, by go_num, by omega, HG.out⟩
                        case measure => simp [RowKit.intOf]; omega
                      · obtain rfl : m = 3 := by omega
                        have hc1 := cellsG (HGS.out.2 N1 _ (List.mem_cons_of_mem _ HBX.out.2.1))
                        have hc2 := cellsG (HGS.out.2 N2 _ (List.mem_cons_of_mem _ HBX.out.2.2.1))
                        have hc3 := cellsG (HGS.out.2 N3 _ (List.mem_cons_of_mem _ HBX.out.2.2.2))
                        simp only [goO, goI] at hc1 hc2 hc3
                        obtain ⟨k0, k1, k2, k3, k4, k5, k6⟩ := hc1
                        obtain ⟨m0, m1, m2, m3, m4, m5, m6⟩ := hc2
                        obtain ⟨n0, n1, n2, n3, n4, n5, n6⟩ := hc3
                        obtain ⟨W12, hW12⟩ : ∃ W12, W12 = wr.alloc (.cells #[.int .i64 (T + 1), .int .i64 4194301, .int .i64 1, .bool true, .int .i64 X.1, .int .i64 X.2, .int .i32 c, .int .i64 (T + 1), .int .i64 4194302, .int .i64 1, .bool false, .int .i64 X.1, .int .i64 X.2, .int .i32 0, .int .i64 (T + 1), .int .i64 4194303, .int .i64 1, .bool false, .int .i64 X.1, .int .i64 X.2, .int .i32 0] 34 (0, 0)) := ⟨_, rfl⟩
                        obtain ⟨R2, hR2⟩ : ∃ R2, R2 = wr.heap.size := ⟨_, rfl⟩
                        have HG2 : Hid (GoS w W12 P (L ++ [goO T 4194303 X, goO T 4194302 X, goI T 4194301 X c]) Q L ((R2, (.cells #[.int .i64 (T + 1), .int .i64 4194301, .int .i64 1, .bool true, .int .i64 X.1, .int .i64 X.2, .int .i32 c, .int .i64 (T + 1), .int .i64 4194302, .int .i64 1, .bool false, .int .i64 X.1, .int .i64 X.2, .int .i32 0, .int .i64 (T + 1), .int .i64 4194303, .int .i64 1, .bool false, .int .i64 X.1, .int .i64 X.2, .int .i32 0] 34 (0, 0))) :: (R1, (.cells #[.int .i64 (T + 1), .int .i64 4194303, .int .i64 1, .bool false, .int .i64 X.1, .int .i64 X.2, .int .i32 0, .int .i64 (T + 1), .int .i64 4194302, .int .i64 1, .bool false, .int .i64 X.1, .int .i64 X.2, .int .i32 0, .int .i64 (T + 1), .int .i64 4194301, .int .i64 1, .bool true, .int .i64 X.1, .int .i64 X.2, .int .i32 c] 34 (0, 0))) :: bx)) := by
                          have h := HGS.out.box (.cells #[.int .i64 (T + 1), .int .i64 4194301, .int .i64 1, .bool true, .int .i64 X.1, .int .i64 X.2, .int .i32 c, .int .i64 (T + 1), .int .i64 4194302, .int .i64 1, .bool false, .int .i64 X.1, .int .i64 X.2, .int .i32 0, .int .i64 (T + 1), .int .i64 4194303, .int .i64 1, .bool false, .int .i64 X.1, .int .i64 X.2, .int .i32 0] 34 (0, 0))
                          rw [← hW12, ← hR2] at h
                          exact h
                        go_upto_region 33 with fail
                        rw [← hR2, ← hW12]
                        clear hR2 hW12 k0 k1 k2 k3 k4 k5 k6 m0 m1 m2 m3 m4 m5 m6 n0 n1 n2 n3 n4 n5 n6 HGS
                        go_loopw [141] (fun x141 wr => ∃ m : Nat, x141 = .int .i64 (m : Int) ∧ m ≤ 3 ∧ GoS w wr P (L ++ [goO T 4194303 X, goO T 4194302 X, goI T 4194301 X c]) Q (L ++ [goI T 4194301 X c, goO T 4194302 X, goO T 4194303 X].take m) ((R2, (.cells #[.int .i64 (T + 1), .int .i64 4194301, .int .i64 1, .bool true, .int .i64 X.1, .int .i64 X.2, .int .i32 c, .int .i64 (T + 1), .int .i64 4194302, .int .i64 1, .bool false, .int .i64 X.1, .int .i64 X.2, .int .i32 0, .int .i64 (T + 1), .int .i64 4194303, .int .i64 1, .bool false, .int .i64 X.1, .int .i64 X.2, .int .i32 0] 34 (0, 0))) :: (R1, (.cells #[.int .i64 (T + 1), .int .i64 4194303, .int .i64 1, .bool false, .int .i64 X.1, .int .i64 X.2, .int .i32 0, .int .i64 (T + 1), .int .i64 4194302, .int .i64 1, .bool false, .int .i64 X.1, .int .i64 X.2, .int .i32 0, .int .i64 (T + 1), .int .i64 4194301, .int .i64 1, .bool true, .int .i64 X.1, .int .i64 X.2, .int .i32 c] 34 (0, 0))) :: bx)) (fun x141 _ => 3 - (RowKit.intOf x141).toNat)
                        case atStart => exact ⟨0, rfl, by omega, by simpa using HG2.out⟩
                        case round =>
                          clear HG2
                          obtain ⟨m, h141, hm, hgs⟩ := hrel
                          subst h141
                          have HGS : Hid (GoS w wr P (L ++ [goO T 4194303 X, goO T 4194302 X, goI T 4194301 X c]) Q (L ++ [goI T 4194301 X c, goO T 4194302 X, goO T 4194303 X].take m) ((R2, (.cells #[.int .i64 (T + 1), .int .i64 4194301, .int .i64 1, .bool true, .int .i64 X.1, .int .i64 X.2, .int .i32 c, .int .i64 (T + 1), .int .i64 4194302, .int .i64 1, .bool false, .int .i64 X.1, .int .i64 X.2, .int .i32 0, .int .i64 (T + 1), .int .i64 4194303, .int .i64 1, .bool false, .int .i64 X.1, .int .i64 X.2, .int .i32 0] 34 (0, 0))) :: (R1, (.cells #[.int .i64 (T + 1), .int .i64 4194303, .int .i64 1, .bool false, .int .i64 X.1, .int .i64 X.2, .int .i32 0, .int .i64 (T + 1), .int .i64 4194302, .int .i64 1, .bool false, .int .i64 X.1, .int .i64 X.2, .int .i32 0, .int .i64 (T + 1), .int .i64 4194301, .int .i64 1, .bool true, .int .i64 X.1, .int .i64 X.2, .int .i32 c] 34 (0, 0))) :: bx)) := hgs
                          clear hgs
                          by_cases hlt : m < 3
                          · obtain ⟨g9, o9, hgo, c0, c1, c2, c3, c4, c5, c6⟩ := (rd3 (p := (goI T 4194301 X c)) (q := (goO T 4194302 X)) (r := (goO T 4194303 X)) (HGS.out.2 R2 _ (List.mem_cons_self ..))).at m hlt
                            cases hgo
                            rw [Nat.zero_add] at c0 c1 c2 c3 c4 c5 c6
                            have hst := (new_step HLV.out HM12.out.2 3 (Nat.le_refl _)).2 m hlt
                            have hll : (L ++ [goI T 4194301 X c, goO T 4194302 X, goO T 4194303 X].take m).length ≤ 99000 := by rw [List.length_append, List.length_take]; have := HN.out; simp only [List.length_cons, List.length_nil]; omega
                            have HPUT : Hid (∀ W, Below wr.heap.size wr W → Calls Try.prog 12 #[.pointer (some ⟨Q, 0, none⟩), .agg #[.int .i64 ([goI T 4194301 X c, goO T 4194302 X, goO T 4194303 X].getD m op0).c, .int .i64 ([goI T 4194301 X c, goO T 4194302 X, goO T 4194303 X].getD m op0).a, .int .i64 ([goI T 4194301 X c, goO T 4194302 X, goO T 4194303 X].getD m op0).s, .bool ([goI T 4194301 X c, goO T 4194302 X, goO T 4194303 X].getD m op0).ins, .int .i64 ([goI T 4194301 X c, goO T 4194302 X, goO T 4194303 X].getD m op0).rc, .int .i64 ([goI T 4194301 X c, goO T 4194302 X, goO T 4194303 X].getD m op0).ra, .int .i32 ([goI T 4194301 X c, goO T 4194302 X, goO T 4194303 X].getD m op0).ch]] W fun e w' => e = .returned (.tuple #[.bool true, .int .i64 0]) ∧ GoS w w' P (L ++ [goO T 4194303 X, goO T 4194302 X, goI T 4194301 X c]) Q (L ++ [goI T 4194301 X c, goO T 4194302 X, goO T 4194303 X].take (m + 1)) ((R2, (.cells #[.int .i64 (T + 1), .int .i64 4194301, .int .i64 1, .bool true, .int .i64 X.1, .int .i64 X.2, .int .i32 c, .int .i64 (T + 1), .int .i64 4194302, .int .i64 1, .bool false, .int .i64 X.1, .int .i64 X.2, .int .i32 0, .int .i64 (T + 1), .int .i64 4194303, .int .i64 1, .bool false, .int .i64 X.1, .int .i64 X.2, .int .i32 0] 34 (0, 0))) :: (R1, (.cells #[.int .i64 (T + 1), .int .i64 4194303, .int .i64 1, .bool false, .int .i64 X.1, .int .i64 X.2, .int .i32 0, .int .i64 (T + 1), .int .i64 4194302, .int .i64 1, .bool false, .int .i64 X.1, .int .i64 X.2, .int .i32 0, .int .i64 (T + 1), .int .i64 4194301, .int .i64 1, .bool true, .int .i64 X.1, .int .i64 X.2, .int .i32 c] 34 (0, 0))) :: bx)) := fun W hb => ((HGS.out.later hb).put2 ([goI T 4194301 X c, goO T 4194302 X, goO T 4194303 X].getD m op0) hll).mono fun e w' q => by
                              rw [hst.1, hst.2] at q
                              exact q
                            generalize [goI T 4194301 X c, goO T 4194302 X, goO T 4194303 X].getD m op0 = Y at c0 c1 c2 c3 c4 c5 c6 HPUT
                            have HBA : Hid (∀ o, Below wr.heap.size wr (wr.alloc o)) := fun o => (Below.refl _ wr).alloc (Nat.le_refl _) o
                            have hi1 : (m : Int) < 3 := by omega
                            have hi2 : (0 : Int) ≤ (m : Int) := by omega
                            clear hst hll HGS
                            go_wp2_with (go_at_call 12; refine (HPUT.out _ (HBA.out _)).mono ?_; rintro e w13 ⟨rfl, g1⟩; have HG : Hid (type_of% g1) := g1; clear g1)
                            go_roundw
                            case rel => (repeat apply Exists.intro); exact ⟨⟨m + 1, by go_num, by omega, HG.out⟩, rfl⟩
                            case measure => simp [RowKit.intOf]; omega
                          · obtain rfl : m = 3 := by omega
                            obtain ⟨O1, hO1⟩ : ∃ O1, O1 = L ++ [goO T 4194303 X, goO T 4194302 X, goI T 4194301 X c] := ⟨_, rfl⟩
                            obtain ⟨O2, hO2⟩ : ∃ O2, O2 = L ++ [goI T 4194301 X c, goO T 4194302 X, goO T 4194303 X] := ⟨_, rfl⟩
                            obtain ⟨by3, hby⟩ : ∃ b3, b3 = (R2, (.cells #[.int .i64 (T + 1), .int .i64 4194301, .int .i64 1, .bool true, .int .i64 X.1, .int .i64 X.2, .int .i32 c, .int .i64 (T + 1), .int .i64 4194302, .int .i64 1, .bool false, .int .i64 X.1, .int .i64 X.2, .int .i32 0, .int .i64 (T + 1), .int .i64 4194303, .int .i64 1, .bool false, .int .i64 X.1, .int .i64 X.2, .int .i32 0] 34 (0, 0))) :: (R1, (.cells #[.int .i64 (T + 1), .int .i64 4194303, .int .i64 1, .bool false, .int .i64 X.1, .int .i64 X.2, .int .i32 0, .int .i64 (T + 1), .int .i64 4194302, .int .i64 1, .bool false, .int .i64 X.1, .int .i64 X.2, .int .i32 0, .int .i64 (T + 1), .int .i64 4194301, .int .i64 1, .bool true, .int .i64 X.1, .int .i64 X.2, .int .i32 c] 34 (0, 0))) :: bx := ⟨_, rfl⟩
                            have hg3 := HGS.out
                            rw [show [goI T 4194301 X c, goO T 4194302 X, goO T 4194303 X].take 3 = [goI T 4194301 X c, goO T 4194302 X, goO T 4194303 X] from rfl, ← hO1, ← hO2, ← hby] at hg3
                            have HS15 : Hid (GoS w wr P O1 Q O2 by3) := hg3
                            have HBY : Hid ((Z, (.cells #[.int .i64 X.1, .int .i64 X.2] 32 (0, 0))) ∈ by3 ∧ (N3, bxG (goI T 4194301 X c)) ∈ by3) := by
                              have hh : (Z, (.cells #[.int .i64 X.1, .int .i64 X.2] 32 (0, 0))) ∈ by3 ∧ (N3, bxG (goI T 4194301 X c)) ∈ by3 := by rw [hby]; exact ⟨List.mem_cons_of_mem _ (List.mem_cons_of_mem _ HBX.out.1), List.mem_cons_of_mem _ (List.mem_cons_of_mem _ HBX.out.2.2.2)⟩
                              exact hh
                            have HE : Hid (els O1 = els O2 ∧ aliveE O1 X = false ∧ aliveE O1 (T + 1, 4194301) = true) := by rw [hO1, hO2]; exact HEND.out
                            have HOL : Hid (O1.length ≤ 100 ∧ O2.length ≤ 100) := by
                              have hh : O1.length ≤ 100 ∧ O2.length ≤ 100 := by rw [hO1, hO2, List.length_append, List.length_append]; have := HN.out; simp only [List.length_cons, List.length_nil]; omega
                              exact hh
                            have HWF : Hid ((Lit.int .i64 X.2).wf = true) := by
                              obtain ⟨p, q1, _, q2⟩ := (hasE_iff _ _).1 HXE.out
                              have h1 := op_id (rv_op HLV.out p q1)
                              have e2 : X.2 = p.a := by rw [← q2]
                              have hh : (Lit.int .i64 X.2).wf = true := by rw [e2]; exact (wf_a (rv_op HLV.out p q1)).1
                              exact hh
                            clear hg3 HGS hO1 hO2 hby HBX HEND HM12 HLV HAA HXE
                            obtain ⟨V, hV⟩ : ∃ V, V = visC (els O1) := ⟨_, rfl⟩
                            obtain ⟨kv, hkv⟩ : ∃ kv, kv = V.length := ⟨_, rfl⟩
                            obtain ⟨B, hB⟩ : ∃ B, B = idsOf (els O1) := ⟨_, rfl⟩
                            obtain ⟨kb, hkb⟩ : ∃ kb, kb = B.length := ⟨_, rfl⟩
                            have hkl : kv ≤ 100 ∧ kb ≤ 100 := by
                              have h1 := (vis_len (els O1)).2.1
                              have h2 := seqE_len O1
                              have h4 := ids_len O1
                              have := HOL.out.1
                              rw [els_len] at h1
                              rw [hkv, hkb, hV, hB]
                              omega
                            have HKL : Hid (kv ≤ 100 ∧ kb ≤ 100) := hkl
                            have HVS : Hid (∀ P O W, RgS w W P O nob → els O = els O1 → O.length ≤ 100 → Calls Try.prog 14 #[.pointer (some ⟨P, 0, none⟩)] W fun e w' => ∃ v c, e = .returned (.slice v kv c) ∧ RdC w' v kv V ∧ Below W.heap.size W w') := fun P O W h he hl => (s_vis h (by omega)).mono fun e w' q => by
                              obtain ⟨v, rfl, q1, q2⟩ := q
                              rw [he, ← hV, ← hkv] at q1
                              obtain ⟨v, c, rfl, _, _, q4⟩ := rdC_own q1
                              exact ⟨v, c, rfl, q4, q2⟩
                            have HAL : Hid (∀ P O W, RgS w W P O nob → els O = els O1 → O.length ≤ 100 → Calls Try.prog 17 #[.pointer (some ⟨P, 0, none⟩)] W fun e w' => ∃ v c, e = .returned (.slice v kb c) ∧ RdE w' v kb B ∧ Below W.heap.size W w') := fun P O W h he hl => (s_all h (by omega)).mono fun e w' q => by
                              obtain ⟨v, rfl, q1, q2⟩ := q
                              rw [he, ← hB, ← hkb] at q1
                              obtain ⟨v, c, rfl, _, _, q4, _⟩ := rdE_own14 q1
                              exact ⟨v, c, rfl, q4, q2⟩
                            have HSC : Hid (∀ W (v u : Option Addr) c d, RdC W v kv V → RdC W u kv V → Calls Try.prog 13 #[.slice v kv c, .slice u kv d] W fun e w' => e = .returned (.bool true) ∧ Below W.heap.size W w') := fun W v u c d h1 h2 => (sameC_any V V v u kv c kv d W h1 h2 (by omega)).mono fun e w' q => by
                              obtain ⟨rfl, g⟩ := q
                              exact ⟨by simp, g.below⟩
                            have HSI : Hid (∀ W (v u : Option Addr) c d, RdE W v kb B → RdE W u kb B → Calls Try.prog 15 #[.slice v kb c, .slice u kb d] W fun e w' => e = .returned (.bool true) ∧ Below W.heap.size W w') := fun W v u c d h1 h2 => (sameI_any B B v u kb c kb d W h1 h2 (by omega)).mono fun e w' q => by
                              obtain ⟨rfl, g⟩ := q
                              exact ⟨by simp, g.below⟩
                            have HNB : Hid (∀ W, GoS w W P O1 Q O2 by3 → RgS w W P O1 nob ∧ RgS w W Q O2 nob) := fun W h => ⟨h.1.one.more (Below.refl _ _) (fun k hk => hk.elim), h.1.swap.one.more (Below.refl _ _) (fun k hk => hk.elim)⟩
                            have HAV1 : Hid (∀ W, GoS w W P O1 Q O2 by3 → Calls Try.prog 23 #[.pointer (some ⟨P, 0, none⟩), .agg #[.int .i64 X.1, .int .i64 X.2]] W fun e w' => e = .returned (.bool false) ∧ Below W.heap.size W w') := fun W h => (s_alive (HNB.out W h).1 (by have := HOL.out.1; omega) X.1 X.2 HWF.out).mono fun e w' q => by
                              obtain ⟨rfl, g⟩ := q
                              exact ⟨by rw [show aliveE O1 (X.1, X.2) = false from HE.out.2.1], g.below⟩
                            have HAV2 : Hid (∀ W, GoS w W P O1 Q O2 by3 → Calls Try.prog 23 #[.pointer (some ⟨P, 0, none⟩), .agg #[.int .i64 (T + 1), .int .i64 4194301]] W fun e w' => e = .returned (.bool true) ∧ Below W.heap.size W w') := fun W h => (s_alive (HNB.out W h).1 (by have := HOL.out.1; omega) (T + 1) 4194301 rfl).mono fun e w' q => by
                              obtain ⟨rfl, g⟩ := q
                              exact ⟨by rw [HE.out.2.2], g.below⟩
                            obtain ⟨z0, z1⟩ := cells2G (HS15.out.2 Z _ HBY.out.1)
                            clear hkl hV hkv hB hkb
                            go_wp2_with (first
                              | (go_at_call 23; (first | (refine (HAV2.out _ HS16.out).mono ?_; rintro e w17 ⟨rfl, hb⟩; have HS17 : Hid (GoS w w17 P O1 Q O2 by3) := HS16.out.later hb; clear hb n0 n1) | (refine (HAV1.out _ HS15.out).mono ?_; rintro e w16 ⟨rfl, hb⟩; have HS16 : Hid (GoS w w16 P O1 Q O2 by3) := HS15.out.later hb; have hc := cellsG (HS16.out.2 N3 _ HBY.out.2); simp only [goI] at hc; obtain ⟨n0, n1, -⟩ := hc; clear hb z0 z1)))
                              | (go_at_call 14; (first | (refine (HVS.out Q O2 _ (HNB.out _ HS18.out).2 HE.out.1.symm HOL.out.2).mono ?_; rintro e w19 ⟨v19, c19, rfl, g1, g2⟩; have HR19 : Hid (RdC w19 v19 kv V) := g1; have HQ18 : Hid (RdC w19 v18 kv V) := HR18.out.later g2; have HS19 : Hid (GoS w w19 P O1 Q O2 by3) := HS18.out.later g2; clear g1 g2) | (refine (HVS.out P O1 _ (HNB.out _ HS17.out).1 rfl HOL.out.1).mono ?_; rintro e w18 ⟨v18, c18, rfl, g1, g2⟩; have HR18 : Hid (RdC w18 v18 kv V) := g1; have HS18 : Hid (GoS w w18 P O1 Q O2 by3) := HS17.out.later g2; clear g1 g2)))
                              | (go_at_call 13; refine (HSC.out _ _ _ _ _ HQ18.out HR19.out).mono ?_; rintro e w20 ⟨rfl, g1⟩; have HS20 : Hid (GoS w w20 P O1 Q O2 by3) := HS19.out.later g1; clear g1)
                              | (go_at_call 17; (first | (refine (HAL.out Q O2 _ (HNB.out _ HS21.out).2 HE.out.1.symm HOL.out.2).mono ?_; rintro e w22 ⟨v22, c22, rfl, g1, g2⟩; have HR22 : Hid (RdE w22 v22 kb B) := g1; have HQ21 : Hid (RdE w22 v21 kb B) := HR21.out.later g2; have HS22 : Hid (GoS w w22 P O1 Q O2 by3) := HS21.out.later g2; clear g1 g2) | (refine (HAL.out P O1 _ (HNB.out _ HS20.out).1 rfl HOL.out.1).mono ?_; rintro e w21 ⟨v21, c21, rfl, g1, g2⟩; have HR21 : Hid (RdE w21 v21 kb B) := g1; have HS21 : Hid (GoS w w21 P O1 Q O2 by3) := HS20.out.later g2; clear g1 g2)))
                              | (go_at_call 15; refine (HSI.out _ _ _ _ _ HQ21.out HR22.out).mono ?_; rintro e w23 ⟨rfl, g1⟩; have HS23 : Hid (GoS w w23 P O1 Q O2 by3) := HS22.out.later g1; clear g1))
                            go_ret
                            exact ⟨rfl, HS23.out.1.below⟩
end Go.Proofs.Ytcbnmahbdcjamaa
