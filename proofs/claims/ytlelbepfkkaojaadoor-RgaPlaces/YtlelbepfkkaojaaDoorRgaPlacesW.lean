/- The walk of RgaPlaces: Ahead and At are each other's. -/
import Derived.Test.YtlelbepfkkaojaaDoorRgPl
import Derived.Test.YtlelbepfkkaojaaDoorRgSh
import Derived.Deep.CutRange
import Derived.Shelf.SlSortCmp.QuietGrown
namespace Go.Proofs.YtlelbepfkkaojaaDoor
open Go.RowKit Go.Shelf Go.Maps Go.Sort
set_option linter.unusedVariables false
set_option linter.unusedSimpArgs false

theorem new14p (w w1 : World) (hb : Below w.heap.size w w1) : Calls Tryd.prog 5 #[] w1 fun e w' => ∃ P, e = .returned (.pointer (some ⟨P, 0, none⟩)) ∧ RgS w w' P [] nob :=
  (s_new14 hb nob (fun k h => h.elim)).mono fun e w' q => by obtain ⟨P, h1, h2, _⟩ := q; exact ⟨P, h1, h2⟩
set_option maxHeartbeats 16000000 in
set_option maxRecDepth 100000 in
theorem rgaPlaces_walk (xs : List Opn) (a : Option Addr) (len cap : Nat) (w : World) (hrd : RdP w a len xs) (hT : TabD w) :
    Calls Tryd.prog 3 #[.slice a len cap] w fun e w' => e = .returned (.bool true) ∧ Below w.heap.size w w' := by
  have mixed : Tryd.prog.follows .mixedOrders = true := by kernel_rfl
  have HX : Hid (∀ w', Below w.heap.size w w' → RdP w' a len xs) := fun w' h => hrd.later h
  have HTT : Hid (TabD w) := hT
  have HSH : Hid (Calls Tryd.prog 4 #[] w fun e w' => e = .returned (.bool true) ∧ Below w.heap.size w w') := shown14_any w
  have HNW : Hid (∀ w1, Below w.heap.size w w1 → Calls Tryd.prog 5 #[] w1 fun e w' => ∃ P, e = .returned (.pointer (some ⟨P, 0, none⟩)) ∧ RgS w w' P [] nob) := fun w1 hb => new14p w w1 hb
  have HSB : Hid (∀ wr P O, RgS w wr P O nob → Below w.heap.size w wr) := fun wr P O h => h.below
  clear hrd hT
  go_enter Tryd.func3, Tryd.ntmps3
  go_upto_region 5 with (first
    | (go_at_call 4; refine HSH.out.mono ?_; rintro e w1 ⟨rfl, hb⟩; have HB1 : Hid (Below w.heap.size w w1) := hb; clear hb)
    | (go_at_call 5; refine (HNW.out _ HB1.out).mono ?_; rintro e w2 ⟨P, rfl, hs⟩; have HS0 : Hid (RgS w w2 P [] nob) := hs; clear hs))
  clear HNW HSH HB1
  go_upto_region 6 with fail
  go_loopw [5] (fun x5 wr => ∃ (i : Nat) (O : List Opn), x5 = .int .i64 (i : Int) ∧ i ≤ 30 ∧ O.length ≤ i ∧ RgS w wr P O nob) (fun x5 _ => 30 - (RowKit.intOf x5).toNat)
  case atStart => exact ⟨0, [], rfl, by omega, by simp, HS0.out⟩
  case round =>
    clear HS0
    obtain ⟨i, O, h5, hi30, hOl, hs⟩ := hrel
    subst h5
    have HS : Hid (RgS w wr P O nob) := hs
    obtain ⟨z, hz⟩ : ∃ z, z = (decide (i < len) && decide (i < 30)) := ⟨_, rfl⟩
    have HZ : Hid (z = (decide (i < len) && decide (i < 30))) := hz
    clear hs hz
    go_upto_region 6 with fail
    go_cut [29] from 22 to 37 (fun x29 wx => x29 = .bool z ∧ wx = wr)
    case first =>
      by_cases h1 : i < len
      · have d1 : decide ((i : Int) < (len : Int)) = true := decide_eq_true (by omega)
        by_cases h2 : i < 30
        · have d2 : decide ((i : Int) < 30) = true := decide_eq_true (by omega)
          have hz2 : z = true := by rw [HZ.out, decide_eq_true h1, decide_eq_true h2]; rfl
          subst hz2
          clear HZ
          go_wp2
          go_meet
          case rel => exact ⟨rfl, rfl⟩
        · have d2 : decide ((i : Int) < 30) = false := decide_eq_false (by omega)
          have hz2 : z = false := by rw [HZ.out, decide_eq_true h1, decide_eq_false h2]; rfl
          subst hz2
          clear HZ
          go_wp2
          go_meet
          case rel => exact ⟨rfl, rfl⟩
      · have d1 : decide ((i : Int) < (len : Int)) = false := decide_eq_false (by omega)
        have hz2 : z = false := by rw [HZ.out, decide_eq_false h1]; rfl
        subst hz2
        clear HZ
        go_wp2
        go_meet
        case rel => exact ⟨rfl, rfl⟩
    case rest =>
      obtain ⟨rfl, hwc⟩ := hcut
      subst hwc
      cases z
      · clear HZ
        obtain ⟨K, hK⟩ : ∃ K, K = cnt (marks O) := ⟨_, rfl⟩
        obtain ⟨V, hV⟩ : ∃ V, V = visI (els O) := ⟨_, rfl⟩
        have hvl : V.length = K := by rw [hV, hK]; exact visI_cnt O
        have hcl : (visC (els O)).length = K := by rw [hK]; exact visC_cnt O
        have hKl : K ≤ 30 := by have := visI_len O; rw [← hV, hvl] at this; omega
        have HIDS : Hid (Calls Tryd.prog 7 #[.pointer (some ⟨P, 0, none⟩)] wc fun e w' => ∃ v c, e = .returned (.slice v K c) ∧ RdE w' v K V ∧ RgS w w' P O nob) := (s_ids HS.out (by omega)).mono fun e w' q => by
          obtain ⟨v, rfl, q1, q2⟩ := q
          rw [← hV, hvl] at q1
          obtain ⟨v, c, rfl, _, _, q4, _⟩ := rdE_own14 q1
          exact ⟨v, c, rfl, q4, HS.out.later q2⟩
        have HVIS : Hid (∀ W, RgS w W P O nob → Calls Tryd.prog 9 #[.pointer (some ⟨P, 0, none⟩)] W fun e w' => ∃ v c, e = .returned (.slice v K c) ∧ Below W.heap.size W w') := fun W h => (s_vis h (by omega)).mono fun e w' q => by
          obtain ⟨v, rfl, q1, q2⟩ := q
          rw [hcl] at q1
          obtain ⟨v, c, rfl, _⟩ := rdC_own q1
          exact ⟨v, c, rfl, q2⟩
        have HLEN : Hid (∀ W, RgS w W P O nob → Calls Tryd.prog 8 #[.pointer (some ⟨P, 0, none⟩)] W fun e w' => e = .returned (.int .i64 (K : Int)) ∧ w' = W) := fun W h => by rw [hK]; exact s_len14 h
        have HAT : Hid (∀ W (p : Nat), p < K → RgS w W P O nob → Calls Tryd.prog 10 #[.pointer (some ⟨P, 0, none⟩), .int .i64 (p : Int)] W fun e w' => e = .returned (.tuple #[.agg #[.int .i64 (V.getD p (0, 0)).1, .int .i64 (V.getD p (0, 0)).2], .bool true]) ∧ Below W.heap.size W w') := fun W p hp h => (s_at h HTT.out (by omega) (p : Int) (by omega)).mono fun e w' q => by
          have hpl := place_at h.rv p (by rw [← hK]; exact hp)
          have hb : selB (marks O) (p : Int) = true := by unfold selB; rw [decide_eq_true (by omega), decide_eq_true (by omega)]; rfl
          refine ⟨?_, q.2.2⟩
          rw [q.2.1 hb, Int.toNat_natCast, hpl.2.1, hV]
        have HATN : Hid (∀ W (k : Int), (k = -1 ∨ k = (K : Int)) → RgS w W P O nob → Calls Tryd.prog 10 #[.pointer (some ⟨P, 0, none⟩), .int .i64 k] W fun e w' => ∃ x y, e = .returned (.tuple #[.agg #[.int .i64 x, .int .i64 y], .bool false]) ∧ Below W.heap.size W w') := fun W k hk h => (s_at h HTT.out (by omega) k (by omega)).mono fun e w' q => by
          have hb : selB (marks O) k = false := by
            unfold selB
            rcases hk with rfl | rfl
            · rfl
            · rw [hK]; simp
          obtain ⟨x, y, hxy⟩ := q.1 hb
          exact ⟨x, y, hxy, q.2.2⟩
        have HAH : Hid (∀ W (p : Nat), p < K → RgS w W P O nob → Calls Tryd.prog 11 #[.pointer (some ⟨P, 0, none⟩), .agg #[.int .i64 (V.getD p (0, 0)).1, .int .i64 (V.getD p (0, 0)).2]] W fun e w' => e = .returned (.int .i64 (p : Int)) ∧ Gw W w') := fun W p hp h => by
          have hpl := place_at h.rv p (by rw [← hK]; exact hp)
          rw [← hV] at hpl
          refine (s_ahead h (by omega) _ _ hpl.2.2.2.2).mono fun e w' q => ?_
          have e1 : rnk (marks O) (fIx O ((V.getD p (0, 0)).1, (V.getD p (0, 0)).2)) = p := hpl.2.2.1
          rw [e1] at q
          exact q
        have HAV : Hid (∀ W (p : Nat), p < K → RgS w W P O nob → Calls Tryd.prog 12 #[.pointer (some ⟨P, 0, none⟩), .agg #[.int .i64 (V.getD p (0, 0)).1, .int .i64 (V.getD p (0, 0)).2]] W fun e w' => e = .returned (.bool true) ∧ Gw W w') := fun W p hp h => by
          have hpl := place_at h.rv p (by rw [← hK]; exact hp)
          rw [← hV] at hpl
          refine (s_alive h (by omega) _ _ hpl.2.2.2.2).mono fun e w' q => ?_
          have e1 : aliveE O ((V.getD p (0, 0)).1, (V.getD p (0, 0)).2) = true := hpl.2.2.2.1
          rw [e1] at q
          exact q
        clear hK hV hvl hcl HX
        go_upto_region 13 with (first
          | (go_at_call 7; refine HIDS.out.mono ?_; rintro e w3 ⟨v, cv, rfl, g1, g2⟩; have HR3 : Hid (RdE w3 v K V) := g1; have HS3 : Hid (RgS w w3 P O nob) := g2; clear g1 g2)
          | (go_at_call 9; refine (HVIS.out _ HS3.out).mono ?_; rintro e w4 ⟨v4, c4, rfl, g2⟩; have HR4 : Hid (RdE w4 v K V) := HR3.out.later g2; have HS4 : Hid (RgS w w4 P O nob) := HS3.out.later g2; clear g2)
          | (go_at_call 8; (first | (refine (HLEN.out _ HS4.out).mono ?_; rintro e wl ⟨rfl, hw⟩; have hw := hw.symm; subst hw) | (refine (HLEN.out _ HS3.out).mono ?_; rintro e wl ⟨rfl, hw⟩; have hw := hw.symm; subst hw))))
        clear HIDS HVIS HR3 HS3
        go_loopw [7] (fun x7 wr => ∃ p : Nat, x7 = .int .i64 (p : Int) ∧ p ≤ K ∧ RdE wr v K V ∧ RgS w wr P O nob) (fun x7 _ => K - (RowKit.intOf x7).toNat)
        case atStart => exact ⟨0, rfl, by omega, HR4.out, HS4.out⟩
        case round =>
          clear HR4 HS4
          obtain ⟨p, h7, hp, hr, hs⟩ := hrel
          subst h7
          have HR5 : Hid (RdE wr v K V) := hr
          have HS5 : Hid (RgS w wr P O nob) := hs
          clear hr hs
          by_cases hlt : p < K
          · have d1 : decide ((p : Int) < (K : Int)) = true := decide_eq_true (by omega)
            have hA := fun W h => HAT.out W p hlt h
            have hH := fun W h => HAH.out W p hlt h
            have hVv := fun W h => HAV.out W p hlt h
            have hcell : ∀ W', Below wr.heap.size wr W' → ∃ b off, v = some ⟨b, off, none⟩ ∧ W'.cell? ⟨b, off + p * 2, none⟩ = some (.int .i64 (V.getD p (0, 0)).1) ∧ W'.cell? ⟨b, off + p * 2 + 1, none⟩ = some (.int .i64 (V.getD p (0, 0)).2) := fun W' hb => (HR5.out.later hb).at p hlt
            generalize V.getD p (0, 0) = X at hA hH hVv hcell
            have HA : Hid (type_of% hA) := hA
            have HH : Hid (type_of% hH) := hH
            have HVV : Hid (type_of% hVv) := hVv
            have HCELL : Hid (type_of% hcell) := hcell
            have hp0 : (0 : Int) ≤ (p : Int) := by omega
            have hp1 : (p : Int) < (K : Int) := by omega
            clear hA hH hVv hcell
            go_upto_region 16 with (first
              | (go_at_call 8; refine (HLEN.out _ HS5.out).mono ?_; rintro e wl ⟨rfl, hw⟩; have hw := hw.symm; subst hw)
              | (go_at_call 10; refine (HA.out _ HS5.out).mono ?_; rintro e w6 ⟨rfl, hb⟩; have HB6 : Hid (Below wr.heap.size wr w6) := hb; clear hb))
            obtain ⟨W7, hW7⟩ : ∃ W7, W7 = w6.alloc (.cells #[.int .i64 X.1, .int .i64 X.2] 30) := ⟨_, rfl⟩
            obtain ⟨N, hN⟩ : ∃ N, N = w6.heap.size := ⟨_, rfl⟩
            have hb7 : Below wr.heap.size wr W7 := by rw [hW7]; exact HB6.out.alloc HB6.out.size _
            have hx7 : W7.heap[N]? = some (.cells #[.int .i64 X.1, .int .i64 X.2] 30) := by rw [hW7, hN]; exact heap_alloc_new w6 _
            rw [← hN, ← hW7]
            clear hN hW7
            obtain ⟨n0, n1⟩ := box2 hx7
            obtain ⟨b, off, rfl, r0, r1⟩ := HCELL.out W7 hb7
            have g0 := cell_g n0
            have g1 := cell_g n1
            have s0 := cell_g r0
            have s1 := cell_g r1
            have hgr : ∀ n os, Gw W7 (grow (W7.drewN n) os) := fun n os => ⟨n, os, rfl⟩
            have HGR : Hid (∀ n os, RdE (grow (W7.drewN n) os) (some ⟨b, off, none⟩) K V ∧ RgS w (grow (W7.drewN n) os) P O nob) := fun n os => ⟨HR5.out.later (hb7.trans ((hgr n os).below.mono hb7.size)), HS5.out.later (hb7.trans ((hgr n os).below.mono hb7.size))⟩
            have HFH : Hid (∀ n os, Calls Tryd.prog 11 #[.pointer (some ⟨P, 0, none⟩), .agg #[.int .i64 X.1, .int .i64 X.2]] (grow (W7.drewN n) os) fun e w' => e = .returned (.int .i64 (p : Int)) ∧ ∃ q os', w' = grow ((grow (W7.drewN n) os).drewN q) os') := fun n os => HH.out _ (HGR.out n os).2
            have HFV : Hid (∀ n os, Calls Tryd.prog 12 #[.pointer (some ⟨P, 0, none⟩), .agg #[.int .i64 X.1, .int .i64 X.2]] (grow (W7.drewN n) os) fun e w' => e = .returned (.bool true) ∧ ∃ q os', w' = grow ((grow (W7.drewN n) os).drewN q) os') := fun n os => HVV.out _ (HGR.out n os).2
            have hq := neq_idz X.1 X.2 X.1 X.2 false (by simp)
            clear hgr hb7 hx7
            go_quiet_grown (first
              | (go_at_call 11; refine Calls.grown_of (HFH.out _ _))
              | (go_at_call 12; refine Calls.grown_of (HFV.out _ _)))
            go_wp2
            go_roundw
            case rel => exact ⟨p + 1, by go_num, by omega, (HGR.out _ _).1, (HGR.out _ _).2⟩
            case measure => simp [RowKit.intOf]; omega
          · obtain rfl : p = K := by omega
            have d1 : decide ((p : Int) < (p : Int)) = false := by simp
            clear HAT HAH HAV HR5
            go_wp2_with (first
              | (go_at_call 8; refine (HLEN.out _ HS5.out).mono ?_; rintro e wl ⟨rfl, hw⟩; have hw := hw.symm; subst hw)
              | (go_at_call 10; (first
                | (refine (HATN.out _ (-1) (.inl rfl) (HS8.out _)).mono ?_; rintro e w9 ⟨x9, y9, rfl, hb⟩; have HF9 : Hid (∀ o, Below w.heap.size w (w9.alloc o)) := fun o => HSB.out _ _ _ (((HS8.out _).later hb).later ((Below.refl _ w9).alloc (Nat.le_refl _) o)); clear hb)
                | (refine (HATN.out _ (p : Int) (.inr rfl) HS5.out).mono ?_; rintro e w8 ⟨x8, y8, rfl, hb⟩; have HS8 : Hid (∀ o, RgS w (w8.alloc o) P O nob) := fun o => (HS5.out.later hb).later ((Below.refl _ w8).alloc (Nat.le_refl _) o); clear hb))))
            go_ret
            exact ⟨rfl, HF9.out _⟩
      · have hmi : i < len ∧ i < 30 := by
          have := HZ.out
          simpa using this.symm
        obtain ⟨h1, h2⟩ := hmi
        clear HZ
        obtain ⟨b1, o1, rfl, c0, c1, c2, c3, c4, c5, c6⟩ := (HX.out wc (HSB.out _ _ _ HS.out)).at i h1
        have HP := s_put HS.out (xs.getD i op0) (by omega)
        have hpl := putO_len O (xs.getD i op0)
        generalize xs.getD i op0 = X at c0 c1 c2 c3 c4 c5 c6 HP hpl
        have HPH : Hid (type_of% HP) := HP
        have hl2 : (putO O X).length ≤ i + 1 := by omega
        have hi0 : (0 : Int) ≤ (i : Int) := by omega
        have hi1 : (i : Int) < (len : Int) := by omega
        clear HP hpl
        go_wp2_with (go_at_call 6; refine HPH.out.mono ?_; rintro e w5 ⟨rfl, g1, _, _⟩; have HG : Hid (type_of% g1) := g1; clear g1)
        go_roundw
        case rel => exact ⟨i + 1, putO O X, by go_num, by omega, hl2, HG.out⟩
        case measure => simp [RowKit.intOf]; omega
end Go.Proofs.YtlelbepfkkaojaaDoor
