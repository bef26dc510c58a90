/- The walk of RgaKeeps: what one operation does touches nothing else. -/
import Derived.Test.YtjdgacanlbhfbaaRgKp
import Derived.Deep.RegionHeld3
namespace Go.Proofs.Ytjdgacanlbhfbaa
open Go.RowKit Go.Shelf Go.Maps Go.Sort
set_option linter.unusedVariables false
set_option linter.unusedSimpArgs false

theorem new14 (w w1 : World) (hb : Below w.heap.size w w1) : Calls Try.prog 12 #[] w1 fun e w' => ∃ P, e = .returned (.pointer (some ⟨P, 0, none⟩)) ∧ RgS w w' P [] nob :=
  (s_new14 hb nob (fun k h => h.elim)).mono fun e w' q => by obtain ⟨P, h1, h2, _⟩ := q; exact ⟨P, h1, h2⟩
theorem putO_len1 {O : List Opn} {x : Opn} {i : Nat} (h : O.length ≤ i) : (putO O x).length ≤ i + 1 := by have := putO_len O x; omega
set_option maxHeartbeats 16000000 in
set_option maxRecDepth 100000 in
theorem rgaKeeps_walk (xs : List Opn) (a : Option Addr) (len cap : Nat) (w : World) (hrd : RdP w a len xs) :
    Calls Try.prog 5 #[.slice a len cap] w fun e w' => e = .returned (.bool true) ∧ Below w.heap.size w w' := by
  have HX : Hid (∀ w', Below w.heap.size w w' → RdP w' a len xs) := fun w' h => hrd.later h
  have HSH : Hid (Calls Try.prog 11 #[] w fun e w' => e = .returned (.bool true) ∧ Below w.heap.size w w') := shown14_any w
  have HNW : Hid (∀ w1, Below w.heap.size w w1 → Calls Try.prog 12 #[] w1 fun e w' => ∃ P, e = .returned (.pointer (some ⟨P, 0, none⟩)) ∧ RgS w w' P [] nob) := fun w1 hb => new14 w w1 hb
  have HSB : Hid (∀ wr P O, RgS w wr P O nob → Below w.heap.size w wr) := fun wr P O h => h.below
  clear hrd
  go_enter Try.func5, Try.ntmps5
  go_upto_region 6 with (first
    | (go_at_call 11; refine HSH.out.mono ?_; rintro e w1 ⟨rfl, hb⟩; have HB1 : Hid (Below w.heap.size w w1) := hb; clear hb)
    | (go_at_call 12; refine (HNW.out _ HB1.out).mono ?_; rintro e w2 ⟨P, rfl, hs⟩; have HS0 : Hid (RgS w w2 P [] nob) := hs; clear hs))
  go_loopw [5] (fun x5 wr => ∃ (i : Nat) (O : List Opn), x5 = .int .i64 (i : Int) ∧ i ≤ len ∧ i ≤ 30 ∧ O.length ≤ i ∧ RgS w wr P O nob) (fun x5 _ => 30 - (RowKit.intOf x5).toNat)
  case atStart => exact ⟨0, [], rfl, by omega, by omega, by simp, HS0.out⟩
  case round =>
    obtain ⟨i, O, h5, hil, hi30, hOl, hs⟩ := hrel
    subst h5
    have HS : Hid (RgS w wr P O nob) := hs
    clear hs HS0
    by_cases hlt : i < len
    · have hd1 : decide ((i : Int) < (len : Int)) = true := by simpa using hlt
      by_cases h30 : i < 30
      · have hd2 : decide ((i : Int) < 30) = true := decide_eq_true (by omega)
        obtain ⟨b1, o1, hab, c0⟩ := (HX.out wr (HSB.out _ _ _ HS.out)).at i hlt
        subst hab
        clear c0
        obtain ⟨x, hx⟩ : ∃ x, xs.getD i op0 = x := ⟨_, rfl⟩
        have hO1 : (putO O x).length ≤ i + 1 := putO_len1 hOl
        have HXX : Hid (∀ w', Below w.heap.size w w' → w'.cell? ⟨b1, o1 + i * 7, none⟩ = some (.int .i64 x.c) ∧ w'.cell? ⟨b1, o1 + i * 7 + 1, none⟩ = some (.int .i64 x.a) ∧ w'.cell? ⟨b1, o1 + i * 7 + 2, none⟩ = some (.int .i64 x.s) ∧ w'.cell? ⟨b1, o1 + i * 7 + 3, none⟩ = some (.bool x.ins) ∧ w'.cell? ⟨b1, o1 + i * 7 + 4, none⟩ = some (.int .i64 x.rc) ∧ w'.cell? ⟨b1, o1 + i * 7 + 5, none⟩ = some (.int .i64 x.ra) ∧ w'.cell? ⟨b1, o1 + i * 7 + 6, none⟩ = some (.int .i32 x.ch)) := fun w' hb => by
          obtain ⟨b9, o9, h9, c9⟩ := (HX.out w' hb).at i hlt
          cases h9
          rw [hx] at c9
          exact c9
        have HALL : Hid (Calls Try.prog 19 #[.pointer (some ⟨P, 0, none⟩)] wr fun e w' => ∃ a1 n1 c1, e = .returned (.slice a1 n1 c1) ∧ KpA w w' P O a1 n1 c1) := kp_all HS.out (by omega)
        have HIDS : Hid (∀ W a1 n1 c1, KpA w W P O a1 n1 c1 → Calls Try.prog 18 #[.pointer (some ⟨P, 0, none⟩)] W fun e w' => ∃ a2 n2 c2, e = .returned (.slice a2 n2 c2) ∧ KpB w w' P O a1 n1 c1 a2 n2 c2 ∧ Below w.heap.size w w') := fun W a1 n1 c1 h => (kp_ids h (by omega)).mono fun e w' q => by obtain ⟨a2, n2, c2, q1, q2⟩ := q; exact ⟨a2, n2, c2, q1, q2, q2.2.2.below⟩
        have HPUT : Hid (∀ W a1 n1 c1 a2 n2 c2, KpB w W P O a1 n1 c1 a2 n2 c2 → Calls Try.prog 14 #[.pointer (some ⟨P, 0, none⟩), .agg #[.int .i64 x.c, .int .i64 x.a, .int .i64 x.s, .bool x.ins, .int .i64 x.rc, .int .i64 x.ra, .int .i32 x.ch]] W fun e w' => e = .returned (.tuple #[.bool (putA O x).1, .int .i64 (putA O x).2]) ∧ KpC w w' P (putO O x) (idsOf (els O)) (visI (els O)) a1 n1 a2 n2) := fun W a1 n1 c1 a2 n2 c2 h => kp_put h (by omega) x
        have HNOW : Hid (∀ W a1 n1 a2 n2, KpC w W P (putO O x) (idsOf (els O)) (visI (els O)) a1 n1 a2 n2 → Calls Try.prog 19 #[.pointer (some ⟨P, 0, none⟩)] W fun e w' => ∃ a3 n3 c3, e = .returned (.slice a3 n3 c3) ∧ KpD w w' P (putO O x) (idsOf (els O)) (visI (els O)) a1 n1 a2 n2 a3 n3) := fun W a1 n1 a2 n2 h => kp_now h (by omega)

        go_upto_region 12 with (first
          | (go_at_call 19; (first | (refine HALL.out.mono ?_; rintro e w3 ⟨a1, n1, c1, rfl, q⟩; have HA : Hid (KpA w w3 P O a1 n1 c1) := q; clear q HALL) | (refine (HNOW.out _ _ _ _ _ HC.out).mono ?_; rintro e w6 ⟨a3, n3, c3, rfl, q⟩; have HD : Hid (KpD w w6 P (putO O x) (idsOf (els O)) (visI (els O)) a1 n1 a2 n2 a3 n3) := q; clear q)))
          | (go_at_call 18; refine (HIDS.out _ _ _ _ HA.out).mono ?_; rintro e w4 ⟨a2, n2, c2, rfl, q, qb⟩; have HB : Hid (KpB w w4 P O a1 n1 c1 a2 n2 c2) := q; clear q; obtain ⟨d0, d1, d2, d3, d4, d5, d6⟩ := HXX.out w4 qb; clear qb)
          | (go_at_call 14; refine (HPUT.out _ _ _ _ _ _ _ HB.out).mono ?_; rintro e w5 ⟨rfl, q⟩; have HC : Hid (KpC w w5 P (putO O x) (idsOf (els O)) (visI (els O)) a1 n1 a2 n2) := q; clear q d0 d1 d2 d3 d4 d5 d6))
        have HKB : Hid (∀ W, KpD w W P (putO O x) (idsOf (els O)) (visI (els O)) a1 n1 a2 n2 a3 n3 → Below w.heap.size w W) := fun W h => h.1.1.below
        have HSM : Hid (∀ W (L R : List (Int × Int)) (la ra : Option Addr) (ln lc rn rc : Nat), KpD w W P (putO O x) (idsOf (els O)) (visI (els O)) a1 n1 a2 n2 a3 n3 → RdE W la ln L → RdE W ra rn R → ln ≤ 100 → L = R → Calls Try.prog 17 #[.slice la ln lc, .slice ra rn rc] W fun e w' => e = .returned (.bool true) ∧ KpD w w' P (putO O x) (idsOf (els O)) (visI (els O)) a1 n1 a2 n2 a3 n3) := fun W L R la ra ln lc rn rc h hL hR hn he => kd_same h hL hR hn he
        have HID2 : Hid (∀ W, KpD w W P (putO O x) (idsOf (els O)) (visI (els O)) a1 n1 a2 n2 a3 n3 → Calls Try.prog 18 #[.pointer (some ⟨P, 0, none⟩)] W fun e w' => ∃ a n c, e = .returned (.slice a n c) ∧ KpD w w' P (putO O x) (idsOf (els O)) (visI (els O)) a1 n1 a2 n2 a3 n3 ∧ RdE w' a n (visI (els (putO O x))) ∧ n ≤ 100 ∧ Below W.heap.size W w') := fun W h => kd_ids h (by omega)
        have HWT : Hid (∀ W (L : List (Int × Int)) (la : Option Addr) (ln lc : Nat) (i1 i2 : Int), KpD w W P (putO O x) (idsOf (els O)) (visI (els O)) a1 n1 a2 n2 a3 n3 → RdE W la ln L → ln ≤ 100 → Calls Try.prog 23 #[.slice la ln lc, .agg #[.int .i64 i1, .int .i64 i2]] W fun e w' => ∃ a n c, e = .returned (.slice a n c) ∧ KpD w w' P (putO O x) (idsOf (els O)) (visI (els O)) a1 n1 a2 n2 a3 n3 ∧ RdE w' a n (wtI L (i1, i2)) ∧ n ≤ 100 ∧ Below W.heap.size W w') := fun W L la ln lc i1 i2 h hL hn => kd_without h hL hn i1 i2
        have HFI : Hid (∀ W i1 i2, KpD w W P (putO O x) (idsOf (els O)) (visI (els O)) a1 n1 a2 n2 a3 n3 → Calls Try.prog 25 #[.slice a3 n3 c3, .agg #[.int .i64 i1, .int .i64 i2]] W fun e w' => e = .returned (.int .i64 (ixI (idsOf (els (putO O x))) (i1, i2))) ∧ KpD w w' P (putO O x) (idsOf (els O)) (visI (els O)) a1 n1 a2 n2 a3 n3) := fun W i1 i2 h => kd_find h c3 i1 i2
        have HAV : Hid (∀ W i1 i2, (Lit.int .i64 i2).wf = true → KpD w W P (putO O x) (idsOf (els O)) (visI (els O)) a1 n1 a2 n2 a3 n3 → Calls Try.prog 24 #[.pointer (some ⟨P, 0, none⟩), .agg #[.int .i64 i1, .int .i64 i2]] W fun e w' => e = .returned (.bool (aliveE (putO O x) (i1, i2))) ∧ KpD w w' P (putO O x) (idsOf (els O)) (visI (els O)) a1 n1 a2 n2 a3 n3) := fun W i1 i2 hi h => kd_alive h (by omega) i1 i2 hi
        have HNXT : Hid (∀ W, KpD w W P (putO O x) (idsOf (els O)) (visI (els O)) a1 n1 a2 n2 a3 n3 → RgS w W P (putO O x) nob) := fun W h => h.1.1
        have hrv : Rv O := HS.out.rv
        clear HIDS HPUT HNOW HA HB HC HX HNW HSH HB1
        have HDR : Hid (∀ W q, KpD w (W) P (putO O x) (idsOf (els O)) (visI (els O)) a1 n1 a2 n2 a3 n3 → KpD w (W.drewN q) P (putO O x) (idsOf (els O)) (visI (els O)) a1 n1 a2 n2 a3 n3) := fun W q h => h.later (gw_drewN W q).below
        have H13 : Hid (∀ W, KpD w (W) P (putO O x) (idsOf (els O)) (visI (els O)) a1 n1 a2 n2 a3 n3 → RdE W a1 n1 (idsOf (els O)) ∧ RdE W a2 n2 (visI (els O)) ∧ RdE W a3 n3 (idsOf (els (putO O x))) ∧ n1 ≤ 100 ∧ n2 ≤ 100 ∧ n3 ≤ 100) := fun W h => ⟨h.1.2.1, h.1.2.2.1, h.2.1, h.1.2.2.2.1, h.1.2.2.2.2, h.2.2⟩
        cases hok : (putA O x).1
        · have hO' := put_fail hok
          have HE1 : Hid (idsOf (els O) = idsOf (els (putO O x))) := by rw [hO']; exact rfl
          have HE2 : Hid (visI (els O) = visI (els (putO O x))) := by rw [hO']; exact rfl
          have HQ1 : Hid (∀ W, KpD w (W) P (putO O x) (idsOf (els O)) (visI (els O)) a1 n1 a2 n2 a3 n3 → Calls Try.prog 17 #[.slice a1 n1 c1, .slice a3 n3 c3] W fun e w' => e = .returned (.bool true) ∧ KpD w (w') P (putO O x) (idsOf (els O)) (visI (els O)) a1 n1 a2 n2 a3 n3) := fun W h => HSM.out W _ _ _ _ _ _ _ _ h (H13.out W h).1 (H13.out W h).2.2.1 (H13.out W h).2.2.2.1 HE1.out
          have HQ2 : Hid (∀ W a n (c : Nat), KpD w (W) P (putO O x) (idsOf (els O)) (visI (els O)) a1 n1 a2 n2 a3 n3 → RdE W a n (visI (els (putO O x))) → Calls Try.prog 17 #[.slice a2 n2 c2, .slice a n c] W fun e w' => e = .returned (.bool true) ∧ KpD w (w') P (putO O x) (idsOf (els O)) (visI (els O)) a1 n1 a2 n2 a3 n3) := fun W a n c h hr => HSM.out W _ _ _ _ _ _ _ _ h (H13.out W h).2.1 hr (H13.out W h).2.2.2.2.1 HE2.out
          clear HSM HWT HFI HAV hrv HXX
          go_wp2_with (first
            | (go_at_call 17; (first | (refine (HQ2.out _ _ _ _ HD8.out HR8.out).mono ?_; rintro e w9 ⟨rfl, q⟩; have HD9 : Hid (KpD w (w9) P (putO O x) (idsOf (els O)) (visI (els O)) a1 n1 a2 n2 a3 n3) := q; clear q) | (refine (HQ1.out _ HD.out).mono ?_; rintro e w7 ⟨rfl, q⟩; have HD7 : Hid (KpD w (w7) P (putO O x) (idsOf (els O)) (visI (els O)) a1 n1 a2 n2 a3 n3) := q; clear q)))
            | (go_at_call 18; refine (HID2.out _ HD7.out).mono ?_; rintro e w8 ⟨a8, n8, c8, rfl, q, qr, _, _⟩; have HD8 : Hid (KpD w (w8) P (putO O x) (idsOf (els O)) (visI (els O)) a1 n1 a2 n2 a3 n3) := q; have HR8 : Hid (RdE w8 a8 n8 (visI (els (putO O x)))) := qr; clear q qr))
          go_roundw
          case rel => exact ⟨i + 1, putO O x, (by go_num), (by omega), (by omega), hO1, HNXT.out _ HD9.out⟩
          case measure => simp [RowKit.intOf]; omega
        · have hO' := (put_took hok).1
          have h2 : (putA O x).2 = 0 := by rw [(put_took hok).2]
          rw [h2]
          have hopx : opB x = true := ((putA_iff O x).1 hok).1
          cases hin : x.ins
          · obtain ⟨k1, k2, k3⟩ := km_rem (O := O) hin
            rw [← hO'] at k1 k2 k3
            have hwf : (Lit.int .i64 x.ra).wf = true := (wf_a hopx).2
            have HQ1 : Hid (∀ W, KpD w (W) P (putO O x) (idsOf (els O)) (visI (els O)) a1 n1 a2 n2 a3 n3 → Calls Try.prog 17 #[.slice a1 n1 c1, .slice a3 n3 c3] W fun e w' => e = .returned (.bool true) ∧ KpD w (w') P (putO O x) (idsOf (els O)) (visI (els O)) a1 n1 a2 n2 a3 n3) := fun W h => HSM.out W _ _ _ _ _ _ _ _ h (H13.out W h).1 (H13.out W h).2.2.1 (H13.out W h).2.2.2.1 k1.symm
            have HQ3 : Hid (∀ W, KpD w (W) P (putO O x) (idsOf (els O)) (visI (els O)) a1 n1 a2 n2 a3 n3 → Calls Try.prog 23 #[.slice a2 n2 c2, .agg #[.int .i64 x.rc, .int .i64 x.ra]] W fun e w' => ∃ a n c, e = .returned (.slice a n c) ∧ KpD w (w') P (putO O x) (idsOf (els O)) (visI (els O)) a1 n1 a2 n2 a3 n3 ∧ RdE w' a n (wtI (visI (els O)) (x.rc, x.ra)) ∧ n ≤ 100) := fun W h => (HWT.out W _ a2 n2 c2 x.rc x.ra h (H13.out W h).2.1 (H13.out W h).2.2.2.2.1).mono fun e w' q => by obtain ⟨a, n, c, q1, q2, q3, q4, _⟩ := q; exact ⟨a, n, c, q1, q2, q3, q4⟩
            have HQ4 : Hid (∀ W a n (c : Nat), KpD w (W) P (putO O x) (idsOf (els O)) (visI (els O)) a1 n1 a2 n2 a3 n3 ∧ RdE W a n (wtI (visI (els O)) (x.rc, x.ra)) ∧ n ≤ 100 → Calls Try.prog 18 #[.pointer (some ⟨P, 0, none⟩)] W fun e w' => ∃ a' n' c', e = .returned (.slice a' n' c') ∧ KpD w (w') P (putO O x) (idsOf (els O)) (visI (els O)) a1 n1 a2 n2 a3 n3 ∧ RdE w' a n (wtI (visI (els O)) (x.rc, x.ra)) ∧ n ≤ 100 ∧ RdE w' a' n' (visI (els (putO O x)))) := fun W a n c h => (HID2.out W h.1).mono fun e w' q => by obtain ⟨a', n', c', q1, q2, q3, q4, q5⟩ := q; exact ⟨a', n', c', q1, q2, h.2.1.later q5, h.2.2, q3⟩
            have HQ5 : Hid (∀ W a n c a' n' c', KpD w (W) P (putO O x) (idsOf (els O)) (visI (els O)) a1 n1 a2 n2 a3 n3 ∧ RdE W a n (wtI (visI (els O)) (x.rc, x.ra)) ∧ n ≤ 100 ∧ RdE W a' n' (visI (els (putO O x))) → Calls Try.prog 17 #[.slice a n c, .slice a' n' c'] W fun e w' => e = .returned (.bool true) ∧ KpD w (w') P (putO O x) (idsOf (els O)) (visI (els O)) a1 n1 a2 n2 a3 n3) := fun W a n c a' n' c' h => HSM.out W _ _ _ _ _ _ _ _ h.1 h.2.1 h.2.2.2 h.2.2.1 k2.symm
            have HQ6 : Hid (∀ W, KpD w (W) P (putO O x) (idsOf (els O)) (visI (els O)) a1 n1 a2 n2 a3 n3 → Calls Try.prog 24 #[.pointer (some ⟨P, 0, none⟩), .agg #[.int .i64 x.rc, .int .i64 x.ra]] W fun e w' => e = .returned (.bool false) ∧ KpD w (w') P (putO O x) (idsOf (els O)) (visI (els O)) a1 n1 a2 n2 a3 n3) := fun W h => (HAV.out W x.rc x.ra hwf h).mono fun e w' q => ⟨q.1.trans (by rw [show aliveE (putO O x) (x.rc, x.ra) = false from k3]), q.2⟩
            clear HSM HWT HFI HAV hrv k1 k2 k3 hwf hopx
            obtain ⟨d0, d1, d2, d3, d4, d5, d6⟩ := HXX.out w6 (HKB.out _ HD.out)
            rw [hin] at d3
            clear d0 d1 d2 d4 d5 d6
            go_wp2_with (first
              | (go_at_call 17; (first | (refine (HQ5.out _ _ _ _ _ _ _ HD9.out).mono ?_; rintro e w10 ⟨rfl, q⟩; obtain ⟨_, _, _, _, f4, f5, _⟩ := HXX.out w10 (HKB.out _ q); have HD10 : Hid (KpD w (w10) P (putO O x) (idsOf (els O)) (visI (els O)) a1 n1 a2 n2 a3 n3) := q; clear q) | (refine (HQ1.out _ HD.out).mono ?_; rintro e w7 ⟨rfl, q⟩; obtain ⟨_, _, _, _, d4, d5, _⟩ := HXX.out w7 (HKB.out _ q); have HD7 : Hid (KpD w (w7) P (putO O x) (idsOf (els O)) (visI (els O)) a1 n1 a2 n2 a3 n3) := q; clear q)))
              | (go_at_call 23; refine (HQ3.out _ HD7.out).mono ?_; rintro e w8 ⟨a8, n8, c8, rfl, q, qr⟩; have HD8 : Hid (KpD w (w8) P (putO O x) (idsOf (els O)) (visI (els O)) a1 n1 a2 n2 a3 n3 ∧ RdE w8 a8 n8 (wtI (visI (els O)) (x.rc, x.ra)) ∧ n8 ≤ 100) := ⟨q, qr⟩; clear q qr)
              | (go_at_call 18; refine (HQ4.out _ _ _ c8 HD8.out).mono ?_; rintro e w9 ⟨a9, n9, c9, rfl, q, q2, q3, q4⟩; have HD9 : Hid (KpD w (w9) P (putO O x) (idsOf (els O)) (visI (els O)) a1 n1 a2 n2 a3 n3 ∧ RdE w9 a8 n8 (wtI (visI (els O)) (x.rc, x.ra)) ∧ n8 ≤ 100 ∧ RdE w9 a9 n9 (visI (els (putO O x)))) := ⟨q, q2, q3, q4⟩; clear q q2 q3 q4)
              | (go_at_call 24; refine (HQ6.out _ HD10.out).mono ?_; rintro e w11 ⟨rfl, q⟩; have HD11 : Hid (KpD w (w11) P (putO O x) (idsOf (els O)) (visI (els O)) a1 n1 a2 n2 a3 n3) := q; clear q))
            go_roundw
            case rel => exact ⟨i + 1, putO O x, (by go_num), (by omega), (by omega), hO1, HNXT.out _ HD11.out⟩
            case measure => simp [RowKit.intOf]; omega
          · obtain ⟨⟨n, j1, j2⟩, k2, k3, k4⟩ := km_ins hrv hok hin
            rw [← hO'] at j1 j2 k2 k3 k4
            obtain ⟨r, hr⟩ : ∃ r, ixI (idsOf (els (putO O x))) (x.rc, x.ra) = r := ⟨_, rfl⟩
            have j3 : r < (n : Int) := hr ▸ j2
            have hwf : (Lit.int .i64 x.a).wf = true := (wf_a hopx).1
            have e1 : decide ((n : Int) < 0) = false := decide_eq_false (by omega)
            have e2 : decide (r ≥ (n : Int)) = false := decide_eq_false (by omega)
            have HF1 : Hid (∀ W, KpD w (W) P (putO O x) (idsOf (els O)) (visI (els O)) a1 n1 a2 n2 a3 n3 → Calls Try.prog 25 #[.slice a3 n3 c3, .agg #[.int .i64 x.c, .int .i64 x.a]] W fun e w' => e = .returned (.int .i64 (n : Int)) ∧ KpD w (w') P (putO O x) (idsOf (els O)) (visI (els O)) a1 n1 a2 n2 a3 n3) := fun W h => (HFI.out W x.c x.a h).mono fun e w' q => ⟨q.1.trans (by rw [show ixI (idsOf (els (putO O x))) (x.c, x.a) = (n : Int) from j1]), q.2⟩
            have HF2 : Hid (∀ W, KpD w (W) P (putO O x) (idsOf (els O)) (visI (els O)) a1 n1 a2 n2 a3 n3 → Calls Try.prog 25 #[.slice a3 n3 c3, .agg #[.int .i64 x.rc, .int .i64 x.ra]] W fun e w' => e = .returned (.int .i64 r) ∧ KpD w (w') P (putO O x) (idsOf (els O)) (visI (els O)) a1 n1 a2 n2 a3 n3) := fun W h => (HFI.out W x.rc x.ra h).mono fun e w' q => ⟨q.1.trans (by rw [hr]), q.2⟩
            have HQ3 : Hid (∀ W, KpD w (W) P (putO O x) (idsOf (els O)) (visI (els O)) a1 n1 a2 n2 a3 n3 → Calls Try.prog 23 #[.slice a3 n3 c3, .agg #[.int .i64 x.c, .int .i64 x.a]] W fun e w' => ∃ a n c, e = .returned (.slice a n c) ∧ KpD w (w') P (putO O x) (idsOf (els O)) (visI (els O)) a1 n1 a2 n2 a3 n3 ∧ RdE w' a n (wtI (idsOf (els (putO O x))) (x.c, x.a)) ∧ n ≤ 100) := fun W h => (HWT.out W _ a3 n3 c3 x.c x.a h (H13.out W h).2.2.1 (H13.out W h).2.2.2.2.2).mono fun e w' q => by obtain ⟨a, n, c, q1, q2, q3, q4, _⟩ := q; exact ⟨a, n, c, q1, q2, q3, q4⟩
            have HQ4 : Hid (∀ W a n (c : Nat), KpD w (W) P (putO O x) (idsOf (els O)) (visI (els O)) a1 n1 a2 n2 a3 n3 ∧ RdE W a n (wtI (idsOf (els (putO O x))) (x.c, x.a)) ∧ n ≤ 100 → Calls Try.prog 17 #[.slice a n c, .slice a1 n1 c1] W fun e w' => e = .returned (.bool true) ∧ KpD w (w') P (putO O x) (idsOf (els O)) (visI (els O)) a1 n1 a2 n2 a3 n3) := fun W a n c h => HSM.out W _ _ _ _ _ _ _ _ h.1 h.2.1 (H13.out W h.1).1 h.2.2 k2
            have HQ5 : Hid (∀ W a n (c : Nat), KpD w (W) P (putO O x) (idsOf (els O)) (visI (els O)) a1 n1 a2 n2 a3 n3 ∧ RdE W a n (visI (els (putO O x))) ∧ n ≤ 100 → Calls Try.prog 23 #[.slice a n c, .agg #[.int .i64 x.c, .int .i64 x.a]] W fun e w' => ∃ a n c, e = .returned (.slice a n c) ∧ KpD w (w') P (putO O x) (idsOf (els O)) (visI (els O)) a1 n1 a2 n2 a3 n3 ∧ RdE w' a n (wtI (visI (els (putO O x))) (x.c, x.a)) ∧ n ≤ 100) := fun W a n c h => (HWT.out W _ a n c x.c x.a h.1 h.2.1 h.2.2).mono fun e w' q => by obtain ⟨a, n, c, q1, q2, q3, q4, _⟩ := q; exact ⟨a, n, c, q1, q2, q3, q4⟩
            have HQ6 : Hid (∀ W a n (c : Nat), KpD w (W) P (putO O x) (idsOf (els O)) (visI (els O)) a1 n1 a2 n2 a3 n3 ∧ RdE W a n (wtI (visI (els (putO O x))) (x.c, x.a)) ∧ n ≤ 100 → Calls Try.prog 17 #[.slice a n c, .slice a2 n2 c2] W fun e w' => e = .returned (.bool true) ∧ KpD w (w') P (putO O x) (idsOf (els O)) (visI (els O)) a1 n1 a2 n2 a3 n3) := fun W a n c h => HSM.out W _ _ _ _ _ _ _ _ h.1 h.2.1 (H13.out W h.1).2.1 h.2.2 k3
            have HQ7 : Hid (∀ W, KpD w (W) P (putO O x) (idsOf (els O)) (visI (els O)) a1 n1 a2 n2 a3 n3 → Calls Try.prog 24 #[.pointer (some ⟨P, 0, none⟩), .agg #[.int .i64 x.c, .int .i64 x.a]] W fun e w' => e = .returned (.bool true) ∧ KpD w (w') P (putO O x) (idsOf (els O)) (visI (els O)) a1 n1 a2 n2 a3 n3) := fun W h => (HAV.out W x.c x.a hwf h).mono fun e w' q => ⟨q.1.trans (by rw [show aliveE (putO O x) (x.c, x.a) = true from k4]), q.2⟩
            clear HSM HWT HFI HAV hrv k2 k3 k4 hwf hopx j1 j2 hr
            obtain ⟨d0, d1, d2, d3, d4, d5, d6⟩ := HXX.out w6 (HKB.out _ HD.out)
            rw [hin] at d3
            clear d2 d4 d5 d6
            go_upto_region 22 with (go_at_call 25; (first | (refine (HF2.out _ HD7.out).mono ?_; rintro e w8 ⟨rfl, q⟩; have HD8 : Hid (KpD w (w8) P (putO O x) (idsOf (els O)) (visI (els O)) a1 n1 a2 n2 a3 n3) := q; clear q d4 d5) | (refine (HF1.out _ HD.out).mono ?_; rintro e w7 ⟨rfl, q⟩; obtain ⟨_, _, _, _, d4, d5, _⟩ := HXX.out w7 (HKB.out _ q); have HD7 : Hid (KpD w (w7) P (putO O x) (idsOf (els O)) (visI (els O)) a1 n1 a2 n2 a3 n3) := q; clear q d0 d1 d3)))
            have e3 : decide ((n : Int) ≤ r) = false := decide_eq_false (by omega)
            have HD8d : Hid (KpD w (w8.drew) P (putO O x) (idsOf (els O)) (visI (els O)) a1 n1 a2 n2 a3 n3) := HD8.out.later (RowKit.Below.refl _ _).drew
            have HCC : Hid (∀ W, KpD w (W) P (putO O x) (idsOf (els O)) (visI (els O)) a1 n1 a2 n2 a3 n3 → W.cell? ⟨b1, o1 + i * 7, none⟩ = some (.int .i64 x.c) ∧ W.cell? ⟨b1, o1 + i * 7 + 1, none⟩ = some (.int .i64 x.a)) := fun W h => ⟨(HXX.out W (HKB.out _ h)).1, (HXX.out W (HKB.out _ h)).2.1⟩
            clear HF1 HF2 HD8
            refine wp_region_noPanic ?_
            refine wp_region_held_drew (S := (fun w' => w'.cell? ⟨b1, o1 + i * 7, none⟩ = some (.int .i64 x.c) ∧ w'.cell? ⟨b1, o1 + i * 7 + 1, none⟩ = some (.int .i64 x.a))) (by kernel_rfl) (HCC.out _ HD8d.out) (fun hHeld => ?_)
            refine wpAnyH_take (i := 0) (v := ?_) rfl (by kernel_rfl) (by kernel_rfl) (by kernel_rfl) (fun _ _ _ h => h) (Or.inl ⟨by rfl, ?_⟩) (by assumption) ?_
            rotate_left
            · intro W' hSw; obtain ⟨s0, s1⟩ := hSw; go_simp; try with_reducible rfl
            try simp only [Act.put, List.getElem_toArray, List.getElem_cons_succ, List.getElem_cons_zero, List.setIfInBounds_toArray, List.set_cons_zero, List.set_cons_succ]
            refine wpAnyH_take (i := 1) (v := ?_) rfl (by kernel_rfl) (by kernel_rfl) (by kernel_rfl) (fun _ _ _ h => h) (Or.inl ⟨by rfl, ?_⟩) (by assumption) ?_
            rotate_left
            · intro W' hSw; obtain ⟨s0, s1⟩ := hSw; go_simp; try with_reducible rfl
            try simp only [Act.put, List.getElem_toArray, List.getElem_cons_succ, List.getElem_cons_zero, List.setIfInBounds_toArray, List.set_cons_zero, List.set_cons_succ]
            refine wpAnyH_take (i := 2) (v := ?_) rfl (by kernel_rfl) (by kernel_rfl) (by kernel_rfl) (fun _ _ _ h => h) (Or.inl ⟨by rfl, ?_⟩) (by assumption) ?_
            rotate_left
            · intro W' hSw; obtain ⟨s0, s1⟩ := hSw; go_simp; try with_reducible rfl
            try simp only [Act.put, List.getElem_toArray, List.getElem_cons_succ, List.getElem_cons_zero, List.setIfInBounds_toArray, List.set_cons_zero, List.set_cons_succ]
            refine wpAnyH_take (i := 3) (v := ?_) rfl (by kernel_rfl) (by kernel_rfl) (by kernel_rfl) (fun _ _ _ h => h) (Or.inl ⟨by rfl, ?_⟩) (by assumption) ?_
            rotate_left
            · intro W' hSw; obtain ⟨s0, s1⟩ := hSw; go_simp; try with_reducible rfl
            try simp only [Act.put, List.getElem_toArray, List.getElem_cons_succ, List.getElem_cons_zero, List.setIfInBounds_toArray, List.set_cons_zero, List.set_cons_succ]
            refine wpAnyH_take (i := 4) (v := ?_) rfl (by kernel_rfl) (by kernel_rfl) (by kernel_rfl) (fun _ _ _ h => h) (Or.inl ⟨by rfl, ?_⟩) (by assumption) ?_
            rotate_left
            · intro W' hSw; obtain ⟨s0, s1⟩ := hSw; go_simp; try with_reducible rfl
            try simp only [Act.put, List.getElem_toArray, List.getElem_cons_succ, List.getElem_cons_zero, List.setIfInBounds_toArray, List.set_cons_zero, List.set_cons_succ]
            refine wpAnyH_take (i := 5) (v := ?_) rfl (by kernel_rfl) (by kernel_rfl) (by kernel_rfl) (fun _ _ _ h => h) (Or.inl ⟨by rfl, ?_⟩) (by assumption) ?_
            rotate_left
            · intro W' hSw; obtain ⟨s0, s1⟩ := hSw; go_simp; try with_reducible rfl
            try simp only [Act.put, List.getElem_toArray, List.getElem_cons_succ, List.getElem_cons_zero, List.setIfInBounds_toArray, List.set_cons_zero, List.set_cons_succ]
            refine wpAnyH_take (i := 6) (v := ?_) rfl (by kernel_rfl) (by kernel_rfl) (by kernel_rfl) (fun _ _ _ h => h) (Or.inl ⟨by rfl, ?_⟩) (by assumption) ?_
            rotate_left
            · intro W' hSw; obtain ⟨s0, s1⟩ := hSw; go_simp; try with_reducible rfl
            try simp only [Act.put, List.getElem_toArray, List.getElem_cons_succ, List.getElem_cons_zero, List.setIfInBounds_toArray, List.set_cons_zero, List.set_cons_succ]
            refine wpAnyH_take (i := 7) (v := ?_) rfl (by kernel_rfl) (by kernel_rfl) (by kernel_rfl) (fun _ _ _ h => h) (Or.inl ⟨by rfl, ?_⟩) (by assumption) ?_
            rotate_left
            · intro W' hSw; obtain ⟨s0, s1⟩ := hSw; go_simp; try with_reducible rfl
            try simp only [Act.put, List.getElem_toArray, List.getElem_cons_succ, List.getElem_cons_zero, List.setIfInBounds_toArray, List.set_cons_zero, List.set_cons_succ]
            refine wpAnyH_take (i := 8) (v := ?_) rfl (by kernel_rfl) (by kernel_rfl) (by kernel_rfl) (fun _ _ _ h => h) (Or.inl ⟨by rfl, ?_⟩) (by assumption) ?_
            rotate_left
            · intro W' hSw; obtain ⟨s0, s1⟩ := hSw; go_simp; try with_reducible rfl
            try simp only [Act.put, List.getElem_toArray, List.getElem_cons_succ, List.getElem_cons_zero, List.setIfInBounds_toArray, List.set_cons_zero, List.set_cons_succ]
            refine wpAnyH_take (i := 9) (v := ?_) rfl (by kernel_rfl) (by kernel_rfl) (by kernel_rfl) (fun _ _ _ h => h) (Or.inl ⟨by rfl, ?_⟩) (by assumption) ?_
            rotate_left
            · intro W' hSw; obtain ⟨s0, s1⟩ := hSw; go_simp; try with_reducible rfl
            try simp only [Act.put, List.getElem_toArray, List.getElem_cons_succ, List.getElem_cons_zero, List.setIfInBounds_toArray, List.set_cons_zero, List.set_cons_succ]
            refine wpAnyH_take (i := 10) (v := ?_) rfl (by kernel_rfl) (by kernel_rfl) (by kernel_rfl) (fun _ _ _ h => h) (Or.inl ⟨by rfl, ?_⟩) (by assumption) ?_
            rotate_left
            · intro W' hSw; obtain ⟨s0, s1⟩ := hSw; go_simp; try with_reducible rfl
            try simp only [Act.put, List.getElem_toArray, List.getElem_cons_succ, List.getElem_cons_zero, List.setIfInBounds_toArray, List.set_cons_zero, List.set_cons_succ]
            refine wpAnyH_take (i := 11) (v := ?_) rfl (by kernel_rfl) (by kernel_rfl) (by kernel_rfl) (fun _ _ _ h => h) (Or.inl ⟨by rfl, ?_⟩) (by assumption) ?_
            rotate_left
            · intro W' hSw; obtain ⟨s0, s1⟩ := hSw; go_simp; try with_reducible rfl
            try simp only [Act.put, List.getElem_toArray, List.getElem_cons_succ, List.getElem_cons_zero, List.setIfInBounds_toArray, List.set_cons_zero, List.set_cons_succ]
            refine wpAnyH_take (i := 12) (v := ?_) rfl (by kernel_rfl) (by kernel_rfl) (by kernel_rfl) (fun _ _ _ h => h) (Or.inl ⟨by rfl, ?_⟩) (by assumption) ?_
            rotate_left
            · intro W' hSw; obtain ⟨s0, s1⟩ := hSw; go_simp; try with_reducible rfl
            try simp only [Act.put, List.getElem_toArray, List.getElem_cons_succ, List.getElem_cons_zero, List.setIfInBounds_toArray, List.set_cons_zero, List.set_cons_succ]
            refine wpAnyH_take (i := 13) (v := ?_) rfl (by kernel_rfl) (by kernel_rfl) (by kernel_rfl) (fun _ _ _ h => h) (Or.inl ⟨by rfl, ?_⟩) (by assumption) ?_
            rotate_left
            · intro W' hSw; obtain ⟨s0, s1⟩ := hSw; go_simp; try with_reducible rfl
            try simp only [Act.put, List.getElem_toArray, List.getElem_cons_succ, List.getElem_cons_zero, List.setIfInBounds_toArray, List.set_cons_zero, List.set_cons_succ]
            refine wpAnyH_take (i := 15) (v := ?_) rfl (by kernel_rfl) (by kernel_rfl) (by kernel_rfl) (fun _ _ _ h => h) (Or.inl ⟨by rfl, ?_⟩) (by assumption) ?_
            rotate_left
            · intro W' hSw; obtain ⟨s0, s1⟩ := hSw; go_simp; try with_reducible rfl
            try simp only [Act.put, List.getElem_toArray, List.getElem_cons_succ, List.getElem_cons_zero, List.setIfInBounds_toArray, List.set_cons_zero, List.set_cons_succ]
            refine wpAnyH_ready (rs := [14]) (by kernel_rfl) (by simp) ?_
            refine AllReadyH.cons rfl (fun KK hK => ?_) AllReadyH.nil
            go_simp
            refine (HQ3.out _ HD8d.out).mono ?_
            rintro e w9 ⟨a9, n9, c9, rfl, q, qr⟩
            have HD9 : Hid (KpD w (w9) P (putO O x) (idsOf (els O)) (visI (els O)) a1 n1 a2 n2 a3 n3 ∧ RdE w9 a9 n9 (wtI (idsOf (els (putO O x))) (x.c, x.a)) ∧ n9 ≤ 100) := ⟨q, qr⟩
            clear q qr
            refine hK.out _ _ (HCC.out _ HD9.out.1) (fun hHeld => ?_)
            clear hK KK
            try simp only [Act.put, List.getElem_toArray, List.getElem_cons_succ, List.getElem_cons_zero, List.setIfInBounds_toArray, List.set_cons_zero, List.set_cons_succ]
            refine wpAnyH_ready (rs := [16]) (by kernel_rfl) (by simp) ?_
            refine AllReadyH.cons rfl (fun KK hK => ?_) AllReadyH.nil
            go_simp
            refine (HQ4.out _ _ _ _ HD9.out).mono ?_
            rintro e w10 ⟨rfl, q⟩
            have HD10 : Hid (KpD w (w10) P (putO O x) (idsOf (els O)) (visI (els O)) a1 n1 a2 n2 a3 n3) := q
            clear q
            refine hK.out _ _ (HCC.out _ HD10.out) (fun hHeld => ?_)
            clear hK KK
            try simp only [Act.put, List.getElem_toArray, List.getElem_cons_succ, List.getElem_cons_zero, List.setIfInBounds_toArray, List.set_cons_zero, List.set_cons_succ]
            refine wpAnyH_take (i := 17) (v := ?_) rfl (by kernel_rfl) (by kernel_rfl) (by kernel_rfl) (fun _ _ _ h => h) (Or.inl ⟨by rfl, ?_⟩) (by assumption) ?_
            rotate_left
            · intro W' hSw; obtain ⟨s0, s1⟩ := hSw; go_simp; try with_reducible rfl
            try simp only [Act.put, List.getElem_toArray, List.getElem_cons_succ, List.getElem_cons_zero, List.setIfInBounds_toArray, List.set_cons_zero, List.set_cons_succ]
            refine wpAnyH_take (i := 18) (v := ?_) rfl (by kernel_rfl) (by kernel_rfl) (by kernel_rfl) (fun _ _ _ h => h) (Or.inl ⟨by rfl, ?_⟩) (by assumption) ?_
            rotate_left
            · intro W' hSw; obtain ⟨s0, s1⟩ := hSw; go_simp; try with_reducible rfl
            try simp only [Act.put, List.getElem_toArray, List.getElem_cons_succ, List.getElem_cons_zero, List.setIfInBounds_toArray, List.set_cons_zero, List.set_cons_succ]
            refine wpAnyH_take (i := 19) (v := ?_) rfl (by kernel_rfl) (by kernel_rfl) (by kernel_rfl) (fun _ _ _ h => h) (Or.inl ⟨by rfl, ?_⟩) (by assumption) ?_
            rotate_left
            · intro W' hSw; obtain ⟨s0, s1⟩ := hSw; go_simp; try with_reducible rfl
            try simp only [Act.put, List.getElem_toArray, List.getElem_cons_succ, List.getElem_cons_zero, List.setIfInBounds_toArray, List.set_cons_zero, List.set_cons_succ]
            refine wpAnyH_take (i := 20) (v := ?_) rfl (by kernel_rfl) (by kernel_rfl) (by kernel_rfl) (fun _ _ _ h => h) (Or.inl ⟨by rfl, ?_⟩) (by assumption) ?_
            rotate_left
            · intro W' hSw; obtain ⟨s0, s1⟩ := hSw; go_simp; try with_reducible rfl
            try simp only [Act.put, List.getElem_toArray, List.getElem_cons_succ, List.getElem_cons_zero, List.setIfInBounds_toArray, List.set_cons_zero, List.set_cons_succ]
            refine wpAnyH_take (i := 22) (v := ?_) rfl (by kernel_rfl) (by kernel_rfl) (by kernel_rfl) (fun _ _ _ h => h) (Or.inl ⟨by rfl, ?_⟩) (by assumption) ?_
            rotate_left
            · intro W' hSw; obtain ⟨s0, s1⟩ := hSw; go_simp; try with_reducible rfl
            try simp only [Act.put, List.getElem_toArray, List.getElem_cons_succ, List.getElem_cons_zero, List.setIfInBounds_toArray, List.set_cons_zero, List.set_cons_succ]
            refine wpAnyH_take (i := 23) (v := ?_) rfl (by kernel_rfl) (by kernel_rfl) (by kernel_rfl) (fun _ _ _ h => h) (Or.inl ⟨by rfl, ?_⟩) (by assumption) ?_
            rotate_left
            · intro W' hSw; obtain ⟨s0, s1⟩ := hSw; go_simp; try with_reducible rfl
            try simp only [Act.put, List.getElem_toArray, List.getElem_cons_succ, List.getElem_cons_zero, List.setIfInBounds_toArray, List.set_cons_zero, List.set_cons_succ]
            refine wpAnyH_take (i := 24) (v := ?_) rfl (by kernel_rfl) (by kernel_rfl) (by kernel_rfl) (fun _ _ _ h => h) (Or.inl ⟨by rfl, ?_⟩) (by assumption) ?_
            rotate_left
            · intro W' hSw; obtain ⟨s0, s1⟩ := hSw; go_simp; try with_reducible rfl
            try simp only [Act.put, List.getElem_toArray, List.getElem_cons_succ, List.getElem_cons_zero, List.setIfInBounds_toArray, List.set_cons_zero, List.set_cons_succ]
            refine wpAnyH_take (i := 25) (v := ?_) rfl (by kernel_rfl) (by kernel_rfl) (by kernel_rfl) (fun _ _ _ h => h) (Or.inl ⟨by rfl, ?_⟩) (by assumption) ?_
            rotate_left
            · intro W' hSw; obtain ⟨s0, s1⟩ := hSw; go_simp; try with_reducible rfl
            try simp only [Act.put, List.getElem_toArray, List.getElem_cons_succ, List.getElem_cons_zero, List.setIfInBounds_toArray, List.set_cons_zero, List.set_cons_succ]
            refine wpAnyH_take (i := 26) (v := ?_) rfl (by kernel_rfl) (by kernel_rfl) (by kernel_rfl) (fun _ _ _ h => h) (Or.inl ⟨by rfl, ?_⟩) (by assumption) ?_
            rotate_left
            · intro W' hSw; obtain ⟨s0, s1⟩ := hSw; go_simp; try with_reducible rfl
            try simp only [Act.put, List.getElem_toArray, List.getElem_cons_succ, List.getElem_cons_zero, List.setIfInBounds_toArray, List.set_cons_zero, List.set_cons_succ]
            refine wpAnyH_take (i := 28) (v := ?_) rfl (by kernel_rfl) (by kernel_rfl) (by kernel_rfl) (fun _ _ _ h => h) (Or.inl ⟨by rfl, ?_⟩) (by assumption) ?_
            rotate_left
            · intro W' hSw; obtain ⟨s0, s1⟩ := hSw; go_simp; try with_reducible rfl
            try simp only [Act.put, List.getElem_toArray, List.getElem_cons_succ, List.getElem_cons_zero, List.setIfInBounds_toArray, List.set_cons_zero, List.set_cons_succ]
            refine wpAnyH_ready (rs := [21]) (by kernel_rfl) (by simp) ?_
            refine AllReadyH.cons rfl (fun KK hK => ?_) AllReadyH.nil
            go_simp
            refine (HID2.out _ HD10.out).mono ?_
            rintro e w11 ⟨a11, n11, c11, rfl, q, qr, qn, _⟩
            have HD11 : Hid (KpD w (w11) P (putO O x) (idsOf (els O)) (visI (els O)) a1 n1 a2 n2 a3 n3 ∧ RdE w11 a11 n11 (visI (els (putO O x))) ∧ n11 ≤ 100) := ⟨q, qr, qn⟩
            clear q qr qn
            refine hK.out _ _ (HCC.out _ HD11.out.1) (fun hHeld => ?_)
            clear hK KK
            try simp only [Act.put, List.getElem_toArray, List.getElem_cons_succ, List.getElem_cons_zero, List.setIfInBounds_toArray, List.set_cons_zero, List.set_cons_succ]
            refine wpAnyH_ready (rs := [27]) (by kernel_rfl) (by simp) ?_
            refine AllReadyH.cons rfl (fun KK hK => ?_) AllReadyH.nil
            go_simp
            refine (HQ5.out _ _ _ _ HD11.out).mono ?_
            rintro e w12 ⟨a12, n12, c12, rfl, q, qr⟩
            have HD12 : Hid (KpD w (w12) P (putO O x) (idsOf (els O)) (visI (els O)) a1 n1 a2 n2 a3 n3 ∧ RdE w12 a12 n12 (wtI (visI (els (putO O x))) (x.c, x.a)) ∧ n12 ≤ 100) := ⟨q, qr⟩
            clear q qr
            refine hK.out _ _ (HCC.out _ HD12.out.1) (fun hHeld => ?_)
            clear hK KK
            try simp only [Act.put, List.getElem_toArray, List.getElem_cons_succ, List.getElem_cons_zero, List.setIfInBounds_toArray, List.set_cons_zero, List.set_cons_succ]
            refine wpAnyH_ready (rs := [29]) (by kernel_rfl) (by simp) ?_
            refine AllReadyH.cons rfl (fun KK hK => ?_) AllReadyH.nil
            go_simp
            refine (HQ6.out _ _ _ _ HD12.out).mono ?_
            rintro e w13 ⟨rfl, q⟩
            have HD13 : Hid (KpD w (w13) P (putO O x) (idsOf (els O)) (visI (els O)) a1 n1 a2 n2 a3 n3) := q
            clear q
            refine hK.out _ _ (HCC.out _ HD13.out) (fun hHeld => ?_)
            clear hK KK
            try simp only [Act.put, List.getElem_toArray, List.getElem_cons_succ, List.getElem_cons_zero, List.setIfInBounds_toArray, List.set_cons_zero, List.set_cons_succ]
            refine wpAnyH_take (i := 30) (v := ?_) rfl (by kernel_rfl) (by kernel_rfl) (by kernel_rfl) (fun _ _ _ h => h) (Or.inl ⟨by rfl, ?_⟩) (by assumption) ?_
            rotate_left
            · intro W' hSw; obtain ⟨s0, s1⟩ := hSw; go_simp; try with_reducible rfl
            try simp only [Act.put, List.getElem_toArray, List.getElem_cons_succ, List.getElem_cons_zero, List.setIfInBounds_toArray, List.set_cons_zero, List.set_cons_succ]
            refine wpAnyH_take (i := 31) (v := ?_) rfl (by kernel_rfl) (by kernel_rfl) (by kernel_rfl) (fun _ _ _ h => h) (Or.inl ⟨by rfl, ?_⟩) (by assumption) ?_
            rotate_left
            · intro W' hSw; obtain ⟨s0, s1⟩ := hSw; go_simp; try with_reducible rfl
            try simp only [Act.put, List.getElem_toArray, List.getElem_cons_succ, List.getElem_cons_zero, List.setIfInBounds_toArray, List.set_cons_zero, List.set_cons_succ]
            refine wpAnyH_take (i := 32) (v := ?_) rfl (by kernel_rfl) (by kernel_rfl) (by kernel_rfl) (fun _ _ _ h => h) (Or.inl ⟨by rfl, ?_⟩) (by assumption) ?_
            rotate_left
            · intro W' hSw; obtain ⟨s0, s1⟩ := hSw; go_simp; try with_reducible rfl
            try simp only [Act.put, List.getElem_toArray, List.getElem_cons_succ, List.getElem_cons_zero, List.setIfInBounds_toArray, List.set_cons_zero, List.set_cons_succ]
            refine wpAnyH_take (i := 33) (v := ?_) rfl (by kernel_rfl) (by kernel_rfl) (by kernel_rfl) (fun _ _ _ h => h) (Or.inl ⟨by rfl, ?_⟩) (by assumption) ?_
            rotate_left
            · intro W' hSw; obtain ⟨s0, s1⟩ := hSw; go_simp; try with_reducible rfl
            try simp only [Act.put, List.getElem_toArray, List.getElem_cons_succ, List.getElem_cons_zero, List.setIfInBounds_toArray, List.set_cons_zero, List.set_cons_succ]
            refine wpAnyH_take (i := 34) (v := ?_) rfl (by kernel_rfl) (by kernel_rfl) (by kernel_rfl) (fun _ _ _ h => h) (Or.inl ⟨by rfl, ?_⟩) (by assumption) ?_
            rotate_left
            · intro W' hSw; obtain ⟨s0, s1⟩ := hSw; go_simp; try with_reducible rfl
            try simp only [Act.put, List.getElem_toArray, List.getElem_cons_succ, List.getElem_cons_zero, List.setIfInBounds_toArray, List.set_cons_zero, List.set_cons_succ]
            refine wpAnyH_take (i := 35) (v := ?_) rfl (by kernel_rfl) (by kernel_rfl) (by kernel_rfl) (fun _ _ _ h => h) (Or.inl ⟨by rfl, ?_⟩) (by assumption) ?_
            rotate_left
            · intro W' hSw; obtain ⟨s0, s1⟩ := hSw; go_simp; try with_reducible rfl
            try simp only [Act.put, List.getElem_toArray, List.getElem_cons_succ, List.getElem_cons_zero, List.setIfInBounds_toArray, List.set_cons_zero, List.set_cons_succ]
            refine wpAnyH_take (i := 36) (v := ?_) rfl (by kernel_rfl) (by kernel_rfl) (by kernel_rfl) (fun _ _ _ h => h) (Or.inl ⟨by rfl, ?_⟩) (by assumption) ?_
            rotate_left
            · intro W' hSw; obtain ⟨s0, s1⟩ := hSw; go_simp; try with_reducible rfl
            try simp only [Act.put, List.getElem_toArray, List.getElem_cons_succ, List.getElem_cons_zero, List.setIfInBounds_toArray, List.set_cons_zero, List.set_cons_succ]
            refine wpAnyH_take (i := 37) (v := ?_) rfl (by kernel_rfl) (by kernel_rfl) (by kernel_rfl) (fun _ _ _ h => h) (Or.inl ⟨by rfl, ?_⟩) (by assumption) ?_
            rotate_left
            · intro W' hSw; obtain ⟨s0, s1⟩ := hSw; go_simp; try with_reducible rfl
            try simp only [Act.put, List.getElem_toArray, List.getElem_cons_succ, List.getElem_cons_zero, List.setIfInBounds_toArray, List.set_cons_zero, List.set_cons_succ]
            refine wpAnyH_take (i := 38) (v := ?_) rfl (by kernel_rfl) (by kernel_rfl) (by kernel_rfl) (fun _ _ _ h => h) (Or.inl ⟨by rfl, ?_⟩) (by assumption) ?_
            rotate_left
            · intro W' hSw; obtain ⟨s0, s1⟩ := hSw; go_simp; try with_reducible rfl
            try simp only [Act.put, List.getElem_toArray, List.getElem_cons_succ, List.getElem_cons_zero, List.setIfInBounds_toArray, List.set_cons_zero, List.set_cons_succ]
            refine wpAnyH_ready (rs := [39]) (by kernel_rfl) (by simp) ?_
            refine AllReadyH.cons rfl (fun KK hK => ?_) AllReadyH.nil
            go_simp
            refine (HQ7.out _ HD13.out).mono ?_
            rintro e w14 ⟨rfl, q⟩
            have HD14 : Hid (KpD w (w14) P (putO O x) (idsOf (els O)) (visI (els O)) a1 n1 a2 n2 a3 n3) := q
            clear q
            refine hK.out _ _ (HCC.out _ HD14.out) (fun hHeld => ?_)
            clear hK KK
            try simp only [Act.put, List.getElem_toArray, List.getElem_cons_succ, List.getElem_cons_zero, List.setIfInBounds_toArray, List.set_cons_zero, List.set_cons_succ]
            refine wpAnyH_take (i := 40) (v := ?_) rfl (by kernel_rfl) (by kernel_rfl) (by kernel_rfl) (fun _ _ _ h => h) (Or.inl ⟨by rfl, ?_⟩) (by assumption) ?_
            rotate_left
            · intro W' hSw; obtain ⟨s0, s1⟩ := hSw; go_simp; try with_reducible rfl
            try simp only [Act.put, List.getElem_toArray, List.getElem_cons_succ, List.getElem_cons_zero, List.setIfInBounds_toArray, List.set_cons_zero, List.set_cons_succ]
            refine wpAnyH_take (i := 41) (v := ?_) rfl (by kernel_rfl) (by kernel_rfl) (by kernel_rfl) (fun _ _ _ h => h) (Or.inl ⟨by rfl, ?_⟩) (by assumption) ?_
            rotate_left
            · intro W' hSw; obtain ⟨s0, s1⟩ := hSw; go_simp; try with_reducible rfl
            try simp only [Act.put, List.getElem_toArray, List.getElem_cons_succ, List.getElem_cons_zero, List.setIfInBounds_toArray, List.set_cons_zero, List.set_cons_succ]
            refine wpAnyH_done (by kernel_rfl) ?_ _
            refine NoPanic.normal ?_
            clear hHeld
            go_wp2
            go_roundw
            case rel => exact ⟨i + 1, putO O x, (by go_num), (by omega), (by omega), hO1, HNXT.out _ HD14.out⟩
            case measure => simp [RowKit.intOf]; omega
      · have hd2 : decide ((i : Int) < 30) = false := decide_eq_false (by omega)
        clear HX HNW HSH
        go_wp2
        go_ret
        exact ⟨rfl, HSB.out _ _ _ HS.out⟩
    · have hd1 : decide ((i : Int) < (len : Int)) = false := by simpa using hlt
      clear HX HNW HSH
      go_wp2
      go_ret
      exact ⟨rfl, HSB.out _ _ _ HS.out⟩
end Go.Proofs.Ytjdgacanlbhfbaa
