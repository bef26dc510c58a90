/- The walk of RgaTwice: an operation that is known is not taken again. -/
import Derived.Test.YtjdgacanlbhfbaaRgTw
import Derived.Deep.RegionHeld3
namespace Go.Proofs.Ytjdgacanlbhfbaa
open Go.RowKit Go.Shelf Go.Maps Go.Sort
set_option linter.unusedVariables false
set_option linter.unusedSimpArgs false

set_option maxHeartbeats 16000000 in
set_option maxRecDepth 100000 in
theorem rgaTwice_walk (xs : List Opn) (a : Option Addr) (len cap : Nat) (w : World) (hrd : RdP w a len xs) :
    Calls Try.prog 4 #[.slice a len cap] w fun e w' => e = .returned (.bool true) ∧ Below w.heap.size w w' := by
  have HX : Hid (∀ w', Below w.heap.size w w' → RdP w' a len xs) := fun w' h => hrd.later h
  have HSH : Hid (Calls Try.prog 11 #[] w fun e w' => e = .returned (.bool true) ∧ Below w.heap.size w w') := shown14_any w
  have HNW : Hid (∀ w1, Below w.heap.size w w1 → Calls Try.prog 12 #[] w1 fun e w' => ∃ P, e = .returned (.pointer (some ⟨P, 0, none⟩)) ∧ RgS w w' P [] nob) := fun w1 hb => (s_new14 hb nob (fun k h => h.elim)).mono fun e w' q => by obtain ⟨P, h1, h2, _⟩ := q; exact ⟨P, h1, h2⟩
  obtain ⟨L, hL⟩ : ∃ L, L = rtF xs 30 := ⟨_, rfl⟩
  have hLv : Rv L := by rw [hL]; exact (rtF_rv xs 30).1
  have hLl : L.length ≤ 30 := by rw [hL]; have := (rtF_rv xs 30).2; rw [List.length_take] at this; omega
  obtain ⟨n, hnn⟩ : ∃ n, n = L.length := ⟨_, rfl⟩
  have HRI : Hid (∀ P w2, RgS w w2 P [] nob → Calls Try.prog 13 #[.slice a len cap, .int .i64 30] w2 fun e w' => ∃ b c, e = .returned (.slice b n c) ∧ Tw w w' P [] L b n none 0 []) := fun P w2 hs => (right_rf (HX.out w2 hs.below) 30 (by omega)).mono fun e w' q => by
    obtain ⟨b, c, rfl, q1, _, q2, q3⟩ := q
    have e30 : (30 : Int).toNat = 30 := rfl
    rw [e30, ← hL, ← hnn] at q1
    rw [e30, ← hL, ← hnn]
    exact ⟨b, c, rfl, tw_new hs q2 q1 q3⟩
  have HN : Hid (n = L.length) := hnn
  have hn30 : n ≤ 30 := by rw [hnn]; exact hLl
  have HP1 : Hid (∀ P b W i, i < n → Tw w W P (L.take i) L b n none 0 [] → Calls Try.prog 14 #[.pointer (some ⟨P, 0, none⟩), .agg #[.int .i64 (L.getD i op0).c, .int .i64 (L.getD i op0).a, .int .i64 (L.getD i op0).s, .bool (L.getD i op0).ins, .int .i64 (L.getD i op0).rc, .int .i64 (L.getD i op0).ra, .int .i32 (L.getD i op0).ch]] W fun e w' => (∃ z r, e = .returned (.tuple #[.bool z, .int .i64 r])) ∧ Tw w w' P (L.take (i + 1)) L b n none 0 []) := fun P b W i hi h => (tw_put h (L.getD i op0) (by rw [List.length_take]; omega)).mono fun e w' q => by
    obtain ⟨rfl, q1⟩ := q
    rw [rv_takeA hLv i (by omega)] at q1
    exact ⟨⟨_, _, rfl⟩, q1⟩
  have HP2 : Hid (∀ P b W i v k V, i < n → Tw w W P L L b n v k V → Calls Try.prog 14 #[.pointer (some ⟨P, 0, none⟩), .agg #[.int .i64 (L.getD i op0).c, .int .i64 (L.getD i op0).a, .int .i64 (L.getD i op0).s, .bool (L.getD i op0).ins, .int .i64 (L.getD i op0).rc, .int .i64 (L.getD i op0).ra, .int .i32 (L.getD i op0).ch]] W fun e w' => e = .returned (.tuple #[.bool false, .int .i64 0]) ∧ Tw w w' P L L b n v k V) := fun P b W i v k V hi h => (tw_put h (L.getD i op0) (by omega)).mono fun e w' q => by
    obtain ⟨rfl, q1⟩ := q
    rw [rv_again hLv i (by omega)]
    unfold putO at q1
    rw [if_neg (by rw [rv_again hLv i (by omega)]; decide)] at q1
    exact ⟨rfl, q1⟩
  obtain ⟨V, hV⟩ : ∃ V, V = visC (els L) := ⟨_, rfl⟩
  obtain ⟨k, hk⟩ : ∃ k, k = V.length := ⟨_, rfl⟩
  have HVS : Hid (∀ P b W v m U, Tw w W P L L b n v m U → Calls Try.prog 16 #[.pointer (some ⟨P, 0, none⟩)] W fun e w' => ∃ v1 c1, e = .returned (.slice v1 k c1) ∧ Tw w w' P L L b n v m U ∧ RdC w' v1 k V ∧ Tw w w' P L L b n v1 k V) := fun P b W v m U h => (tw_vis h (by omega)).mono fun e w' q => by
    obtain ⟨v1, k1, c1, rfl, h1, h2, h3, h4⟩ := q
    rw [← hV] at h1 h3 h4
    rw [← hk] at h1
    subst h1
    exact ⟨v1, c1, rfl, h2, h3, h4⟩
  have hvl : V.length ≤ 100000 := by
    have h1 := (vis_len (els L)).2.1
    have h2 := seqE_len L
    rw [els_len] at h1
    rw [hV]
    omega
  have HSM : Hid (∀ P b W v v1 c c1, Tw w W P L L b n v k V → RdC W v1 k V → Calls Try.prog 15 #[.slice v1 k c1, .slice v k c] W fun e w' => e = .returned (.bool true) ∧ Tw w w' P L L b n v k V) := fun P b W v v1 c c1 h h1 => (sameC_any V V v1 v k c1 k c W h1 h.2.2 (by omega)).mono fun e w' q => by
    obtain ⟨rfl, g⟩ := q
    exact ⟨by simp, h.later g.below⟩
  have HOP : Hid (∀ P b W v m U, Tw w W P L L b n v m U → Calls Try.prog 22 #[.pointer (some ⟨P, 0, none⟩)] W fun e w' => ∃ v1 c1, e = .returned (.slice v1 n c1) ∧ Below w.heap.size w w') := fun P b W v m U h => (tw_ops h (by omega)).mono fun e w' q => by
    obtain ⟨v1, c1, rfl, h1⟩ := q
    exact ⟨v1, c1, by rw [hnn], h1.1.below⟩
  have HTK : Hid (∀ P b W, Tw w W P (L.take n) L b n none 0 [] → Tw w W P L L b n none 0 []) := fun P b W h => by rw [List.take_of_length_le (by omega)] at h; exact h
  clear hrd hL hLv hLl hnn hV hk hvl HX
  go_enter Try.func4, Try.ntmps4
  go_upto_region 6 with (first
    | (go_at_call 11; refine HSH.out.mono ?_; rintro e w1 ⟨rfl, hb⟩; have HB1 : Hid (Below w.heap.size w w1) := hb; clear hb)
    | (go_at_call 12; refine (HNW.out _ HB1.out).mono ?_; rintro e w2 ⟨P, rfl, hs⟩; have HS0 : Hid (RgS w w2 P [] nob) := hs; clear hs)
    | (go_at_call 13; refine (HRI.out _ _ HS0.out).mono ?_; rintro e w3 ⟨b, c, rfl, hs⟩; have HT0 : Hid (Tw w w3 P [] L b n none 0 []) := hs; clear hs))
  clear HNW HSH HRI HB1 HS0
  go_upto_region 7 with fail
  go_loopw [6] (fun x6 wr => ∃ i : Nat, x6 = .int .i64 (i : Int) ∧ i ≤ n ∧ Tw w wr P (L.take i) L b n none 0 []) (fun x6 _ => n - (RowKit.intOf x6).toNat)
  case atStart => exact ⟨0, rfl, by omega, HT0.out⟩
  case round =>
    obtain ⟨i, h6, hi, ht⟩ := hrel
    subst h6
    by_cases hlt : i < n
    · obtain ⟨g, off, rfl, c0, c1, c2, c3, c4, c5, c6⟩ := ht.2.1.at i hlt
      have HP := HP1.out P _ wr i hlt ht
      have HPH : Hid (type_of% HP) := HP
      have hi0 : (0 : Int) ≤ (i : Int) := by omega
      have hi1 : (i : Int) < (n : Int) := by omega
      clear HP ht
      go_wp2_with (go_at_call 14; refine HPH.out.mono ?_; rintro e w5 ⟨⟨z, r, rfl⟩, g1⟩; have HG : Hid (type_of% g1) := g1; clear g1)
      go_roundw
      case rel => exact ⟨i + 1, by go_num, by omega, HG.out⟩
      case measure => simp [RowKit.intOf]; omega
    · obtain rfl : i = n := by omega
      have HT1 : Hid (Tw w wr P L L b i none 0 []) := HTK.out _ _ _ ht
      clear ht HT0 HTK HP1
      go_upto_region 11 with (go_at_call 16; refine (HVS.out _ _ _ _ _ _ HT1.out).mono ?_; rintro e w6 ⟨v, cv, rfl, _, _, g1⟩; have HT2 : Hid (Tw w w6 P L L b i v k V) := g1; clear g1)
      clear HT1
      go_upto_region 12 with fail
      go_loopw [8] (fun x8 wr => ∃ j : Nat, x8 = .int .i64 (j : Int) ∧ j ≤ i ∧ Tw w wr P L L b i v k V) (fun x8 _ => i - (RowKit.intOf x8).toNat)
      case atStart => exact ⟨0, rfl, by omega, HT2.out⟩
      case round =>
        obtain ⟨j, h8, hj, ht⟩ := hrel
        subst h8
        by_cases hlt2 : j < i
        · obtain ⟨g, off, rfl, c0, c1, c2, c3, c4, c5, c6⟩ := ht.2.1.at j hlt2
          have HP := HP2.out P _ _ j _ _ _ hlt2 ht
          have HPH : Hid (type_of% HP) := HP
          have hi0 : (0 : Int) ≤ (j : Int) := by omega
          have hi1 : (j : Int) < (i : Int) := by omega
          clear HP ht
          go_wp2_with (go_at_call 14; refine HPH.out.mono ?_; rintro e w7 ⟨rfl, g1⟩; have HG : Hid (type_of% g1) := g1; clear g1)
          go_roundw
          case rel => exact ⟨j + 1, by go_num, by omega, HG.out⟩
          case measure => simp [RowKit.intOf]; omega
        · obtain rfl : j = i := by omega
          have HT3 : Hid (type_of% ht) := ht
          clear ht HT2 HP2
          go_wp2_with (first
            | (go_at_call 16; refine (HVS.out _ _ _ _ _ _ HT3.out).mono ?_; rintro e w8 ⟨v8, c8, rfl, g1, g2, _⟩; have HT4 : Hid (type_of% g1) := g1; have HR4 : Hid (type_of% g2) := g2; clear g1 g2)
            | (go_at_call 15; refine (HSM.out _ _ _ _ _ _ _ HT4.out HR4.out).mono ?_; rintro e w9 ⟨rfl, g1⟩; have HT5 : Hid (type_of% g1) := g1; clear g1)
            | (go_at_call 22; refine (HOP.out _ _ _ _ _ _ HT5.out).mono ?_; rintro e w10 ⟨v10, c10, rfl, g1⟩; have HB10 : Hid (type_of% g1) := g1; clear g1))
          go_ret
          exact ⟨rfl, HB10.out⟩
end Go.Proofs.Ytjdgacanlbhfbaa
