/- The walk of IndexPlays. Written by mkplays.py. -/
import Derived.Test.YtpahbofccloeaaaDoorIxU
import Derived.Deep.RegionHeld3
namespace Go.Proofs.YtpahbofccloeaaaDoor
open Go.RowKit
set_option linter.unusedVariables false
set_option linter.unusedSimpArgs false

theorem box3 {w : World} {S : Nat} {x y z : Value} {t : TypeId} (hh : w.heap[S]? = some (.cells #[x, y, z] t)) : w.cell? ⟨S, 0, none⟩ = some x ∧ w.cell? ⟨S, 1, none⟩ = some y ∧ w.cell? ⟨S, 2, none⟩ = some z :=
  ⟨cell_of_row w S 0 _ _ _ hh, cell_of_row w S 1 _ _ _ hh, cell_of_row w S 2 _ _ _ hh⟩
theorem PlS.box {w0 w : World} {P R S : Nat} {x y z : Value} {L M : List Bool} (h : PlS w0 w P R S #[x, y, z] L M) : w.cell? ⟨S, 0, none⟩ = some x ∧ w.cell? ⟨S, 1, none⟩ = some y ∧ w.cell? ⟨S, 2, none⟩ = some z := by
  obtain ⟨v, u, h1, h2, h3, h4, h5, h6, h7⟩ := h
  exact box3 h6
theorem seen_row (L : List Bool) (x : Int) : (0 ≤ x → x < (L.length : Int) → seenB L x = L.getD x.toNat false) ∧ (¬ (0 ≤ x ∧ x < (L.length : Int)) → seenB L x = false) := by
  unfold seenB
  constructor
  · intro h0 h1
    rw [decide_eq_true h0, Bool.true_and]
  · intro h
    by_cases h0 : 0 ≤ x
    · rw [List.getD_eq_getElem?_getD, List.getElem?_eq_none (by omega)]; simp
    · rw [decide_eq_false h0]; rfl
set_option maxRecDepth 100000 in
set_option maxHeartbeats 16000000 in
theorem indexPlays_walk (ps : List (Int × Bool × Bool)) (a : Option Addr) (len cap : Nat) (w : World) (hrd : RdP w a len ps) (hrg : ∀ x ∈ ps, -9223372036854775808 ≤ x.1 ∧ x.1 ≤ 9223372036854775807) (hT : TabD w) :
    Calls Tryd.prog 3 #[.slice a len cap] w fun e w' => e = .returned (.bool true) ∧ Below w.heap.size w w' := by
  have HSH : Hid (Calls Tryd.prog 8 #[] w fun e w' => e = .returned (.bool true) ∧ Below w.heap.size w w') := shown13_any w hT
  have HN : Hid (∀ w1, Below w.heap.size w w1 → Calls Tryd.prog 9 #[] w1 fun e w' => ∃ P, e = .returned (.pointer (some ⟨P, 0, none⟩)) ∧ IxS w w' P []) := fun w1 h => s_new h
  have HT : Hid (TabD w) := hT
  have HD : Hid (RdP w a len ps ∧ ∀ x ∈ ps, -9223372036854775808 ≤ x.1 ∧ x.1 ≤ 9223372036854775807) := ⟨hrd, hrg⟩
  clear hT hrd hrg
  go_enter Tryd.func3, Tryd.ntmps3
  go_upto_region 3 with (first | (go_at_call 8; refine HSH.out.mono ?_; rintro e w1 ⟨rfl, hb1⟩; have HB1 : Hid (Below w.heap.size w w1) := hb1; clear hb1) | (go_at_call 9; refine (HN.out _ HB1.out).mono ?_; rintro e w2 ⟨P, rfl, hs⟩; have HS2 : Hid (IxS w w2 P []) := hs; clear hs))
  go_upto_region 6 with fail
  obtain ⟨W3, hW3⟩ : ∃ W3, W3 = w2.alloc (.cells #[.slice none 0 0] 29) := ⟨_, rfl⟩
  obtain ⟨R, hR⟩ : ∃ R, R = w2.heap.size := ⟨_, rfl⟩
  have HS3 : Hid (PlR w W3 P R [] []) := by rw [hW3, hR]; exact pl_new HS2.out
  rw [← hW3, ← hR]
  clear hW3 hR HSH HN HB1 HS2
  go_wp2_with fail
  go_loopw [6] (fun x6 wr => ∃ (i : Nat) (L : List Bool), x6 = .int .i64 (i : Int) ∧ i ≤ 500 ∧ L.length ≤ i ∧ PlR w wr P R L L) (fun x6 _ => 500 - (intOf x6).toNat)
  case atStart => exact ⟨0, [], rfl, by omega, by simp, HS3.out⟩
  case round =>
    obtain ⟨i, L, hx, hi5, hLi, hs⟩ := hrel
    subst hx
    have HS : Hid (PlR w wr P R L L) := hs
    have HLI : Hid (L.length ≤ i ∧ i ≤ 500) := ⟨hLi, hi5⟩
    clear hs HS3 hLi hi5
    by_cases hlt : i < len ∧ i < 500
    · have hd1 : decide ((i : Int) < (len : Int)) = true := by apply decide_eq_true; omega
      have hd2 : decide ((i : Int) < 500) = true := by apply decide_eq_true; omega
      have hd3 : decide (i < len) = true := by apply decide_eq_true; omega
      have hd4 : decide (i < 500) = true := by apply decide_eq_true; omega
      obtain ⟨gb, off, rfl, hc0, hc1, hc2⟩ := (HD.out.1.later HS.out.ix.below).at i hlt.1
      have hxr := HD.out.2 (ps.getD i (0, false, false)) (by
        have : i < ps.length := by rw [HD.out.1.1]; exact hlt.1
        simp [this])
      generalize (ps.getD i (0, false, false)).1 = x at hc0 hxr
      generalize (ps.getD i (0, false, false)).2.1 = y at hc1
      generalize (ps.getD i (0, false, false)).2.2 = z at hc2
      have hi0 : (0 : Int) ≤ (i : Int) := by omega
      have hi1 : (i : Int) < (len : Int) := by omega
      have hi2 : (i : Int) + 1 ≤ 501 := by omega
      have HX : Hid (i + 1 ≤ 500 ∧ -9223372036854775808 ≤ x ∧ x ≤ 9223372036854775807) := ⟨hlt.2, hxr⟩
      clear hlt hxr
      obtain ⟨W4, hW4⟩ : ∃ W4, W4 = wr.alloc (.cells #[.int .i64 x, .bool y, .bool z] 31) := ⟨_, rfl⟩
      obtain ⟨S, hS⟩ : ∃ S, S = wr.heap.size := ⟨_, rfl⟩
      have HS4 : Hid (PlS w W4 P R S #[.int .i64 x, .bool y, .bool z] L L) := by rw [hW4, hS]; exact HS.out.box _
      have HG : Hid (∀ L' W, L'.length ≤ i + 1 → PlS w W P R S #[.int .i64 x, .bool y, .bool z] L' L' → (∀ q, Calls Tryd.prog 14 #[(.pointer (some ⟨P, 0, none⟩)), .int .i64 x] (W.drewN q) fun e w' => e = .returned (.tuple #[.int .i64 (selI L' x), .bool (selB L' x)]) ∧ w' = W.drewN q) ∧ (∀ q, Calls Tryd.prog 15 #[(.pointer (some ⟨R, 0, none⟩)), .int .i64 x] (W.drewN q) fun e w' => e = .returned (.tuple #[.int .i64 (selI L' x), .bool (selB L' x)]) ∧ w' = W.drewN q) ∧ (∀ q, Calls Tryd.prog 16 #[(.pointer (some ⟨P, 0, none⟩)), .int .i64 x] (W.drewN q) fun e w' => e = .returned (.int .i64 (rnk L' x : Int)) ∧ ∃ m, w' = (W.drewN q).drewN m) ∧ (∀ q, Calls Tryd.prog 17 #[(.pointer (some ⟨R, 0, none⟩)), .int .i64 x] (W.drewN q) fun e w' => e = .returned (.int .i64 (rnk L' x : Int)) ∧ w' = W.drewN q) ∧ (∀ q, Calls Tryd.prog 18 #[(.pointer (some ⟨P, 0, none⟩)), .int .i64 x] (W.drewN q) fun e w' => e = .returned (.bool (seenB L' x)) ∧ w' = W.drewN q) ∧ (∀ q, Calls Tryd.prog 19 #[(.pointer (some ⟨P, 0, none⟩))] (W.drewN q) fun e w' => e = .returned (.int .i64 (L'.length : Int)) ∧ w' = W.drewN q) ∧ (∀ q, Calls Tryd.prog 20 #[(.pointer (some ⟨P, 0, none⟩))] (W.drewN q) fun e w' => e = .returned (.int .i64 (cnt L' : Int)) ∧ w' = W.drewN q) ∧ (∀ q, Calls Tryd.prog 17 #[(.pointer (some ⟨R, 0, none⟩)), .int .i64 (L'.length : Int)] (W.drewN q) fun e w' => e = .returned (.int .i64 (cnt L' : Int)) ∧ w' = W.drewN q)) := by
        intro L' W hl' hW
        have hx := HX.out
        refine ⟨fun q => s_select (hW.drewN q).ix HT.out x (by omega) (by omega), fun q => ?_, fun q => s_rank (hW.drewN q).ix x (by omega) (by omega), fun q => ?_, fun q => s_seen (hW.drewN q).ix x (by omega), fun q => s_len (hW.drewN q).ix, fun q => s_count (hW.drewN q).ix, fun q => ?_⟩
        · obtain ⟨u, hu⟩ := (hW.drewN q).rf
          exact refSelect_any R _ u L' x _ hu (by omega) (by omega) (by omega)
        · obtain ⟨u, hu⟩ := (hW.drewN q).rf
          exact refRank_any R _ u L' x _ hu (by omega)
        · obtain ⟨u, hu⟩ := (hW.drewN q).rf
          have := refRank_any R _ u L' (L'.length : Int) _ hu (by omega)
          rw [rnk_all L' _ (by omega)] at this
          exact this
      go_upto_region 10 with fail
      rw [← hW4, ← hS]
      clear hW4 hS hc0 hc1 hc2 HD HS
      obtain ⟨b0, b1, b2⟩ := HS4.out.box
      cases z
      · have HLE : Hid ((insF L x y).length ≤ i + 1) := by have := insF_len L x y; have := HLI.out; show _ ≤ _; omega
        have HQ1 : Hid (Calls Tryd.prog 12 #[(.pointer (some ⟨P, 0, none⟩)), .int .i64 x, .bool y] W4.drew fun e w' => e = .returned (.bool (insB L.length x)) ∧ PlS w w' P R S #[.int .i64 x, .bool y, .bool false] (insF L x y) L) := pl_ins1 (HS4.out.drewN 1) x y (by have := HLI.out; omega)
        have HQ2 : Hid (∀ w1, PlS w w1 P R S #[.int .i64 x, .bool y, .bool false] (insF L x y) L → Calls Tryd.prog 13 #[(.pointer (some ⟨R, 0, none⟩)), .int .i64 x, .bool y] w1 fun e w' => e = .returned (.bool (insB L.length x)) ∧ PlS w w' P R S #[.int .i64 x, .bool y, .bool false] (insF L x y) (insF L x y)) := fun w1 h => pl_ins2 h x y (by have := HLI.out; omega)
        have HBX : Hid (∀ A B W, PlS w W P R S #[.int .i64 x, .bool y, .bool false] A B → W.cell? ⟨S, 0, none⟩ = some (.int .i64 x) ∧ W.cell? ⟨S, 1, none⟩ = some (.bool y)) := fun A B W h => ⟨h.box.1, h.box.2.1⟩
        generalize insB L.length x = rb at HQ1 HQ2
        have hrb : (rb != rb) = false := by simp
        go_upto_region 13 with fail
        clear b2
        refine wp_region_noPanic ?_
        refine wp_region_held_drew (S := (fun w' => w'.cell? ⟨S, 0, none⟩ = some (.int .i64 x) ∧ w'.cell? ⟨S, 1, none⟩ = some (.bool y))) (by kernel_rfl) (⟨b0, b1⟩) (fun hHeld => ?_)
        clear b0 b1
        refine wpAnyH_take (i := 0) (v := ?_) rfl (by kernel_rfl) (by kernel_rfl) (by kernel_rfl) (fun _ _ _ h => h) (Or.inl ⟨by rfl, ?_⟩) (by assumption) ?_
        rotate_left
        · intro W' hSw; obtain ⟨s0, s1⟩ := hSw; go_simp; try with_reducible rfl
        try simp only [Act.put, List.getElem_toArray, List.getElem_cons_succ, List.getElem_cons_zero, List.setIfInBounds_toArray, List.set_cons_zero, List.set_cons_succ]
        refine wpAnyH_take (i := 1) (v := ?_) rfl (by kernel_rfl) (by kernel_rfl) (by kernel_rfl) (fun _ _ _ h => h) (Or.inl ⟨by rfl, ?_⟩) (by assumption) ?_
        rotate_left
        · intro W' hSw; obtain ⟨s0, s1⟩ := hSw; go_simp; try with_reducible rfl
        try simp only [Act.put, List.getElem_toArray, List.getElem_cons_succ, List.getElem_cons_zero, List.setIfInBounds_toArray, List.set_cons_zero, List.set_cons_succ]
        refine wpAnyH_take (i := 2) (v := ?_) rfl (by kernel_rfl) (by kernel_rfl) (by kernel_rfl) (fun _ _ _ h => h) (Or.inl ⟨by rfl, ?_⟩) (by assumption) ?_
        rotate_left
        · intro W' hSw; obtain ⟨s0, s1⟩ := hSw; go_simp; try with_reducible rfl
        try simp only [Act.put, List.getElem_toArray, List.getElem_cons_succ, List.getElem_cons_zero, List.setIfInBounds_toArray, List.set_cons_zero, List.set_cons_succ]
        refine wpAnyH_take (i := 3) (v := ?_) rfl (by kernel_rfl) (by kernel_rfl) (by kernel_rfl) (fun _ _ _ h => h) (Or.inl ⟨by rfl, ?_⟩) (by assumption) ?_
        rotate_left
        · intro W' hSw; obtain ⟨s0, s1⟩ := hSw; go_simp; try with_reducible rfl
        try simp only [Act.put, List.getElem_toArray, List.getElem_cons_succ, List.getElem_cons_zero, List.setIfInBounds_toArray, List.set_cons_zero, List.set_cons_succ]
        refine wpAnyH_take (i := 4) (v := ?_) rfl (by kernel_rfl) (by kernel_rfl) (by kernel_rfl) (fun _ _ _ h => h) (Or.inl ⟨by rfl, ?_⟩) (by assumption) ?_
        rotate_left
        · intro W' hSw; obtain ⟨s0, s1⟩ := hSw; go_simp; try with_reducible rfl
        try simp only [Act.put, List.getElem_toArray, List.getElem_cons_succ, List.getElem_cons_zero, List.setIfInBounds_toArray, List.set_cons_zero, List.set_cons_succ]
        refine wpAnyH_take (i := 6) (v := ?_) rfl (by kernel_rfl) (by kernel_rfl) (by kernel_rfl) (fun _ _ _ h => h) (Or.inl ⟨by rfl, ?_⟩) (by assumption) ?_
        rotate_left
        · intro W' hSw; obtain ⟨s0, s1⟩ := hSw; go_simp; try with_reducible rfl
        try simp only [Act.put, List.getElem_toArray, List.getElem_cons_succ, List.getElem_cons_zero, List.setIfInBounds_toArray, List.set_cons_zero, List.set_cons_succ]
        refine wpAnyH_take (i := 7) (v := ?_) rfl (by kernel_rfl) (by kernel_rfl) (by kernel_rfl) (fun _ _ _ h => h) (Or.inl ⟨by rfl, ?_⟩) (by assumption) ?_
        rotate_left
        · intro W' hSw; obtain ⟨s0, s1⟩ := hSw; go_simp; try with_reducible rfl
        try simp only [Act.put, List.getElem_toArray, List.getElem_cons_succ, List.getElem_cons_zero, List.setIfInBounds_toArray, List.set_cons_zero, List.set_cons_succ]
        refine wpAnyH_take (i := 8) (v := ?_) rfl (by kernel_rfl) (by kernel_rfl) (by kernel_rfl) (fun _ _ _ h => h) (Or.inl ⟨by rfl, ?_⟩) (by assumption) ?_
        rotate_left
        · intro W' hSw; obtain ⟨s0, s1⟩ := hSw; go_simp; try with_reducible rfl
        try simp only [Act.put, List.getElem_toArray, List.getElem_cons_succ, List.getElem_cons_zero, List.setIfInBounds_toArray, List.set_cons_zero, List.set_cons_succ]
        refine wpAnyH_take (i := 9) (v := ?_) rfl (by kernel_rfl) (by kernel_rfl) (by kernel_rfl) (fun _ _ _ h => h) (Or.inl ⟨by rfl, ?_⟩) (by assumption) ?_
        rotate_left
        · intro W' hSw; obtain ⟨s0, s1⟩ := hSw; go_simp; try with_reducible rfl
        try simp only [Act.put, List.getElem_toArray, List.getElem_cons_succ, List.getElem_cons_zero, List.setIfInBounds_toArray, List.set_cons_zero, List.set_cons_succ]
        refine wpAnyH_take (i := 10) (v := ?_) rfl (by kernel_rfl) (by kernel_rfl) (by kernel_rfl) (fun _ _ _ h => h) (Or.inl ⟨by rfl, ?_⟩) (by assumption) ?_
        rotate_left
        · intro W' hSw; obtain ⟨s0, s1⟩ := hSw; go_simp; try with_reducible rfl
        try simp only [Act.put, List.getElem_toArray, List.getElem_cons_succ, List.getElem_cons_zero, List.setIfInBounds_toArray, List.set_cons_zero, List.set_cons_succ]
        refine wpAnyH_ready (rs := [5]) (by kernel_rfl) (by simp) ?_
        refine AllReadyH.cons rfl (fun KK hK => ?_) AllReadyH.nil
        go_simp
        refine HQ1.out.mono ?_
        rintro e w5 ⟨rfl, hs⟩
        have HS5 : Hid (PlS w w5 P R S #[.int .i64 x, .bool y, .bool false] (insF L x y) L) := hs
        clear hs
        refine hK.out _ _ (HBX.out _ _ _ HS5.out) (fun hHeld => ?_)
        clear hK KK
        try simp only [Act.put, List.getElem_toArray, List.getElem_cons_succ, List.getElem_cons_zero, List.setIfInBounds_toArray, List.set_cons_zero, List.set_cons_succ]
        refine wpAnyH_ready (rs := [11]) (by kernel_rfl) (by simp) ?_
        refine AllReadyH.cons rfl (fun KK hK => ?_) AllReadyH.nil
        go_simp
        refine (HQ2.out _ HS5.out).mono ?_
        rintro e w6 ⟨rfl, hs⟩
        have HS6 : Hid (PlS w w6 P R S #[.int .i64 x, .bool y, .bool false] (insF L x y) (insF L x y)) := hs
        clear hs
        refine hK.out _ _ (HBX.out _ _ _ HS6.out) (fun hHeld => ?_)
        clear hK KK
        try simp only [Act.put, List.getElem_toArray, List.getElem_cons_succ, List.getElem_cons_zero, List.setIfInBounds_toArray, List.set_cons_zero, List.set_cons_succ]
        refine wpAnyH_take (i := 12) (v := ?_) rfl (by kernel_rfl) (by kernel_rfl) (by kernel_rfl) (fun _ _ _ h => h) (Or.inl ⟨by rfl, ?_⟩) (by assumption) ?_
        rotate_left
        · intro W' hSw; obtain ⟨s0, s1⟩ := hSw; go_simp; try with_reducible rfl
        try simp only [Act.put, List.getElem_toArray, List.getElem_cons_succ, List.getElem_cons_zero, List.setIfInBounds_toArray, List.set_cons_zero, List.set_cons_succ]
        refine wpAnyH_done (by kernel_rfl) ?_ _
        refine NoPanic.normal ?_
        clear hHeld
        clear HQ1 HQ2 HBX HS4 HS5 hrb
        have HG6 := HG.out (insF L x y) w6 HLE.out HS6.out
        generalize insF L x y = L6 at HG6 HS6 HLE
        obtain ⟨g1, g2, g3, g4, g5, g6, g7, g8⟩ := HG6
        obtain ⟨b0, _, _⟩ := HS6.out.box
        obtain ⟨u, hu⟩ := HS6.out.rf
        obtain ⟨c0, _⟩ := hu.cells
        obtain ⟨sa, cp, rfl, _, _, hr6⟩ := rdT_own hu.2.1
        clear hu
        obtain ⟨z1, z2⟩ := seen_row L6 x
        have HSL1 : Hid (∀ q, Calls Tryd.prog 14 #[(.pointer (some ⟨P, 0, none⟩)), .int .i64 x] (w6.drewN q) fun e w' => e = .returned (.tuple #[.int .i64 (selI L6 x), .bool (selB L6 x)]) ∧ w' = w6.drewN q) := g1
        have HSL2 : Hid (∀ q, Calls Tryd.prog 15 #[(.pointer (some ⟨R, 0, none⟩)), .int .i64 x] (w6.drewN q) fun e w' => e = .returned (.tuple #[.int .i64 (selI L6 x), .bool (selB L6 x)]) ∧ w' = w6.drewN q) := g2
        have HRK1 : Hid (∀ q, Calls Tryd.prog 16 #[(.pointer (some ⟨P, 0, none⟩)), .int .i64 x] (w6.drewN q) fun e w' => e = .returned (.int .i64 (rnk L6 x : Int)) ∧ ∃ m, w' = (w6.drewN q).drewN m) := g3
        have HRK2 : Hid (∀ q, Calls Tryd.prog 17 #[(.pointer (some ⟨R, 0, none⟩)), .int .i64 x] (w6.drewN q) fun e w' => e = .returned (.int .i64 (rnk L6 x : Int)) ∧ w' = w6.drewN q) := g4
        have HSE : Hid (∀ q, Calls Tryd.prog 18 #[(.pointer (some ⟨P, 0, none⟩)), .int .i64 x] (w6.drewN q) fun e w' => e = .returned (.bool (seenB L6 x)) ∧ w' = w6.drewN q) := g5
        have HLN : Hid (∀ q, Calls Tryd.prog 19 #[(.pointer (some ⟨P, 0, none⟩))] (w6.drewN q) fun e w' => e = .returned (.int .i64 (L6.length : Int)) ∧ w' = w6.drewN q) := g6
        have HCN : Hid (∀ q, Calls Tryd.prog 20 #[(.pointer (some ⟨P, 0, none⟩))] (w6.drewN q) fun e w' => e = .returned (.int .i64 (cnt L6 : Int)) ∧ w' = w6.drewN q) := g7
        have HRC : Hid (∀ q, Calls Tryd.prog 17 #[(.pointer (some ⟨R, 0, none⟩)), .int .i64 (L6.length : Int)] (w6.drewN q) fun e w' => e = .returned (.int .i64 (cnt L6 : Int)) ∧ w' = w6.drewN q) := g8
        have HZ : Hid ((0 ≤ x → x < (L6.length : Int) → seenB L6 x = L6.getD x.toNat false) ∧ (¬ (0 ≤ x ∧ x < (L6.length : Int)) → seenB L6 x = false)) := ⟨z1, z2⟩
        have HR6 : Hid (RdT w6 sa L6.length L6) := hr6
        have HLE6 : Hid (L6.length ≤ i + 1) := HLE.out
        clear g1 g2 g3 g4 g5 g6 g7 g8 hr6 z1 z2 HG HLE HLI
        generalize selI L6 x = sp at HSL1 HSL2
        generalize selB L6 x = sb at HSL1 HSL2
        generalize (rnk L6 x : Int) = rk at HRK1 HRK2
        generalize (cnt L6 : Int) = xc at HCN HRC
        have e1 : (sp != sp) = false := by simp
        have e2 : (sb != sb) = false := by simp
        have e3 : (rk != rk) = false := by simp
        have e4 : (xc != xc) = false := by simp
        have e5 : ((L6.length : Int) != (L6.length : Int)) = false := by simp
        go_upto_region 17 with (first | (go_at_call 14; refine (HSL1.out 0).mono ?_; rintro e w' ⟨rfl, hw⟩; have hw := hw.symm; subst hw) | (go_at_call 15; refine (HSL2.out 0).mono ?_; rintro e w' ⟨rfl, hw⟩; have hw := hw.symm; subst hw))
        by_cases h0 : 0 ≤ x
        · have h0' : decide (0 ≤ x) = true := by simpa using h0
          by_cases h1 : x < (L6.length : Int)
          · have h1' : decide (x < (L6.length : Int)) = true := by simpa using h1
            obtain ⟨k, hk⟩ : ∃ k : Nat, x = (k : Int) := ⟨x.toNat, by omega⟩
            obtain ⟨gb6, off6, rfl, hc6⟩ := HR6.out.at k (by omega)
            have hzz := HZ.out.1 h0 h1
            have hxk : x.toNat = k := by omega
            rw [hxk] at hzz
            rw [← hzz] at hc6
            generalize seenB L6 x = z6 at *
            have hk0 : (0 : Int) ≤ (k : Int) := by omega
            have hk1 : (k : Int) < (L6.length : Int) := by omega
            have ez : (z6 != z6) = false := by simp
            clear hzz hxk HZ HR6
            subst hk
            clear h0 h1
            go_quiet (fail)
            obtain ⟨w7, hw7⟩ : ∃ w7, w7 = (w6.drewN 0).drewN nq := ⟨_, rfl⟩
            have HS7 : Hid (PlR w w7 P R L6 L6) := by rw [hw7]; exact ((HS6.out.drewN 0).drewN nq).pair
            have KRK1 : Hid (∀ q, Calls Tryd.prog 16 #[(.pointer (some ⟨P, 0, none⟩)), .int .i64 (k : Int)] (w7.drewN q) fun e w' => e = .returned (.int .i64 rk) ∧ ∃ m, w' = (w7.drewN q).drewN m) := fun q => by
              rw [hw7, World.drewN_drewN, World.drewN_drewN]; exact HRK1.out _
            have KRK2 : Hid (∀ q, Calls Tryd.prog 17 #[(.pointer (some ⟨R, 0, none⟩)), .int .i64 (k : Int)] (w7.drewN q) fun e w' => e = .returned (.int .i64 rk) ∧ w' = w7.drewN q) := fun q => by
              rw [hw7, World.drewN_drewN, World.drewN_drewN]; exact HRK2.out _
            have KSE : Hid (∀ q, Calls Tryd.prog 18 #[(.pointer (some ⟨P, 0, none⟩)), .int .i64 (k : Int)] (w7.drewN q) fun e w' => e = .returned (.bool z6) ∧ w' = w7.drewN q) := fun q => by
              rw [hw7, World.drewN_drewN, World.drewN_drewN]; exact HSE.out _
            have KLN : Hid (∀ q, Calls Tryd.prog 19 #[(.pointer (some ⟨P, 0, none⟩))] (w7.drewN q) fun e w' => e = .returned (.int .i64 (L6.length : Int)) ∧ w' = w7.drewN q) := fun q => by
              rw [hw7, World.drewN_drewN, World.drewN_drewN]; exact HLN.out _
            have KCN : Hid (∀ q, Calls Tryd.prog 20 #[(.pointer (some ⟨P, 0, none⟩))] (w7.drewN q) fun e w' => e = .returned (.int .i64 xc) ∧ w' = w7.drewN q) := fun q => by
              rw [hw7, World.drewN_drewN, World.drewN_drewN]; exact HCN.out _
            have KRC : Hid (∀ q, Calls Tryd.prog 17 #[(.pointer (some ⟨R, 0, none⟩)), .int .i64 (L6.length : Int)] (w7.drewN q) fun e w' => e = .returned (.int .i64 xc) ∧ w' = w7.drewN q) := fun q => by
              rw [hw7, World.drewN_drewN, World.drewN_drewN]; exact HRC.out _
            have d0 : w7.cell? ⟨S, 0, none⟩ = some (.int .i64 (k : Int)) := by rw [hw7]; exact b0
            have d1 : w7.cell? ⟨R, 0, none⟩ = some (.slice (some ⟨gb6, off6, none⟩) L6.length cp) := by rw [hw7]; exact c0
            rw [← hw7]
            clear hw7 HRK1 HRK2 HSE HLN HCN HRC HSL1 HSL2 b0 c0 HS6
            go_upto_region 18 with fail
            go_quiet (first | (go_at_call 16; with_reducible exact Calls.quiet_of (KRK1.out _)) | (go_at_call 17; first | with_reducible exact Calls.quiet_of_same (KRK2.out _) | with_reducible exact Calls.quiet_of_same (KRC.out _)) | (go_at_call 18; with_reducible exact Calls.quiet_of_same (KSE.out _)) | (go_at_call 19; with_reducible exact Calls.quiet_of_same (KLN.out _)) | (go_at_call 20; with_reducible exact Calls.quiet_of_same (KCN.out _)))
            go_wp2_with fail
            go_roundw
            case rel => exact ⟨i + 1, L6, by rw [Int.natCast_add]; rfl, HX.out.1, HLE6.out, HS7.out.drewN _⟩
            case measure => have := HX.out; simp [intOf]; omega
          · have h1' : decide (x < (L6.length : Int)) = false := by simpa using h1
            have hzz := HZ.out.2 (fun h => h1 h.2)
            rw [hzz] at HSE
            clear hzz h0 h1 HZ HR6
            go_quiet (fail)
            obtain ⟨w7, hw7⟩ : ∃ w7, w7 = (w6.drewN 0).drewN nq := ⟨_, rfl⟩
            have HS7 : Hid (PlR w w7 P R L6 L6) := by rw [hw7]; exact ((HS6.out.drewN 0).drewN nq).pair
            have KRK1 : Hid (∀ q, Calls Tryd.prog 16 #[(.pointer (some ⟨P, 0, none⟩)), .int .i64 x] (w7.drewN q) fun e w' => e = .returned (.int .i64 rk) ∧ ∃ m, w' = (w7.drewN q).drewN m) := fun q => by
              rw [hw7, World.drewN_drewN, World.drewN_drewN]; exact HRK1.out _
            have KRK2 : Hid (∀ q, Calls Tryd.prog 17 #[(.pointer (some ⟨R, 0, none⟩)), .int .i64 x] (w7.drewN q) fun e w' => e = .returned (.int .i64 rk) ∧ w' = w7.drewN q) := fun q => by
              rw [hw7, World.drewN_drewN, World.drewN_drewN]; exact HRK2.out _
            have KSE : Hid (∀ q, Calls Tryd.prog 18 #[(.pointer (some ⟨P, 0, none⟩)), .int .i64 x] (w7.drewN q) fun e w' => e = .returned (.bool false) ∧ w' = w7.drewN q) := fun q => by
              rw [hw7, World.drewN_drewN, World.drewN_drewN]; exact HSE.out _
            have KLN : Hid (∀ q, Calls Tryd.prog 19 #[(.pointer (some ⟨P, 0, none⟩))] (w7.drewN q) fun e w' => e = .returned (.int .i64 (L6.length : Int)) ∧ w' = w7.drewN q) := fun q => by
              rw [hw7, World.drewN_drewN, World.drewN_drewN]; exact HLN.out _
            have KCN : Hid (∀ q, Calls Tryd.prog 20 #[(.pointer (some ⟨P, 0, none⟩))] (w7.drewN q) fun e w' => e = .returned (.int .i64 xc) ∧ w' = w7.drewN q) := fun q => by
              rw [hw7, World.drewN_drewN, World.drewN_drewN]; exact HCN.out _
            have KRC : Hid (∀ q, Calls Tryd.prog 17 #[(.pointer (some ⟨R, 0, none⟩)), .int .i64 (L6.length : Int)] (w7.drewN q) fun e w' => e = .returned (.int .i64 xc) ∧ w' = w7.drewN q) := fun q => by
              rw [hw7, World.drewN_drewN, World.drewN_drewN]; exact HRC.out _
            have d0 : w7.cell? ⟨S, 0, none⟩ = some (.int .i64 x) := by rw [hw7]; exact b0
            have d1 : w7.cell? ⟨R, 0, none⟩ = some (.slice sa L6.length cp) := by rw [hw7]; exact c0
            rw [← hw7]
            clear hw7 HRK1 HRK2 HSE HLN HCN HRC HSL1 HSL2 b0 c0 HS6
            go_upto_region 18 with fail
            go_quiet (first | (go_at_call 16; with_reducible exact Calls.quiet_of (KRK1.out _)) | (go_at_call 17; first | with_reducible exact Calls.quiet_of_same (KRK2.out _) | with_reducible exact Calls.quiet_of_same (KRC.out _)) | (go_at_call 18; with_reducible exact Calls.quiet_of_same (KSE.out _)) | (go_at_call 19; with_reducible exact Calls.quiet_of_same (KLN.out _)) | (go_at_call 20; with_reducible exact Calls.quiet_of_same (KCN.out _)))
            go_wp2_with fail
            go_roundw
            case rel => exact ⟨i + 1, L6, by rw [Int.natCast_add]; rfl, HX.out.1, HLE6.out, HS7.out.drewN _⟩
            case measure => have := HX.out; simp [intOf]; omega
        · have h0' : decide (0 ≤ x) = false := by simpa using h0
          have hzz := HZ.out.2 (fun h => h0 h.1)
          rw [hzz] at HSE
          clear hzz h0 HZ HR6
          go_quiet (fail)
          obtain ⟨w7, hw7⟩ : ∃ w7, w7 = (w6.drewN 0).drewN nq := ⟨_, rfl⟩
          have HS7 : Hid (PlR w w7 P R L6 L6) := by rw [hw7]; exact ((HS6.out.drewN 0).drewN nq).pair
          have KRK1 : Hid (∀ q, Calls Tryd.prog 16 #[(.pointer (some ⟨P, 0, none⟩)), .int .i64 x] (w7.drewN q) fun e w' => e = .returned (.int .i64 rk) ∧ ∃ m, w' = (w7.drewN q).drewN m) := fun q => by
            rw [hw7, World.drewN_drewN, World.drewN_drewN]; exact HRK1.out _
          have KRK2 : Hid (∀ q, Calls Tryd.prog 17 #[(.pointer (some ⟨R, 0, none⟩)), .int .i64 x] (w7.drewN q) fun e w' => e = .returned (.int .i64 rk) ∧ w' = w7.drewN q) := fun q => by
            rw [hw7, World.drewN_drewN, World.drewN_drewN]; exact HRK2.out _
          have KSE : Hid (∀ q, Calls Tryd.prog 18 #[(.pointer (some ⟨P, 0, none⟩)), .int .i64 x] (w7.drewN q) fun e w' => e = .returned (.bool false) ∧ w' = w7.drewN q) := fun q => by
            rw [hw7, World.drewN_drewN, World.drewN_drewN]; exact HSE.out _
          have KLN : Hid (∀ q, Calls Tryd.prog 19 #[(.pointer (some ⟨P, 0, none⟩))] (w7.drewN q) fun e w' => e = .returned (.int .i64 (L6.length : Int)) ∧ w' = w7.drewN q) := fun q => by
            rw [hw7, World.drewN_drewN, World.drewN_drewN]; exact HLN.out _
          have KCN : Hid (∀ q, Calls Tryd.prog 20 #[(.pointer (some ⟨P, 0, none⟩))] (w7.drewN q) fun e w' => e = .returned (.int .i64 xc) ∧ w' = w7.drewN q) := fun q => by
            rw [hw7, World.drewN_drewN, World.drewN_drewN]; exact HCN.out _
          have KRC : Hid (∀ q, Calls Tryd.prog 17 #[(.pointer (some ⟨R, 0, none⟩)), .int .i64 (L6.length : Int)] (w7.drewN q) fun e w' => e = .returned (.int .i64 xc) ∧ w' = w7.drewN q) := fun q => by
            rw [hw7, World.drewN_drewN, World.drewN_drewN]; exact HRC.out _
          have d0 : w7.cell? ⟨S, 0, none⟩ = some (.int .i64 x) := by rw [hw7]; exact b0
          have d1 : w7.cell? ⟨R, 0, none⟩ = some (.slice sa L6.length cp) := by rw [hw7]; exact c0
          rw [← hw7]
          clear hw7 HRK1 HRK2 HSE HLN HCN HRC HSL1 HSL2 b0 c0 HS6
          go_upto_region 18 with fail
          go_quiet (first | (go_at_call 16; with_reducible exact Calls.quiet_of (KRK1.out _)) | (go_at_call 17; first | with_reducible exact Calls.quiet_of_same (KRK2.out _) | with_reducible exact Calls.quiet_of_same (KRC.out _)) | (go_at_call 18; with_reducible exact Calls.quiet_of_same (KSE.out _)) | (go_at_call 19; with_reducible exact Calls.quiet_of_same (KLN.out _)) | (go_at_call 20; with_reducible exact Calls.quiet_of_same (KCN.out _)))
          go_wp2_with fail
          go_roundw
          case rel => exact ⟨i + 1, L6, by rw [Int.natCast_add]; rfl, HX.out.1, HLE6.out, HS7.out.drewN _⟩
          case measure => have := HX.out; simp [intOf]; omega
      · have HLE : Hid ((setF L x y).length ≤ i + 1) := by have := setF_len L x y; have := HLI.out; show _ ≤ _; omega
        have HQ1 : Hid (Calls Tryd.prog 10 #[(.pointer (some ⟨P, 0, none⟩)), .int .i64 x, .bool y] W4.drew fun e w' => e = .returned (.bool (setB L.length x)) ∧ PlS w w' P R S #[.int .i64 x, .bool y, .bool true] (setF L x y) L) := pl_set1 (HS4.out.drewN 1) x y (by have := HLI.out; omega)
        have HQ2 : Hid (∀ w1, PlS w w1 P R S #[.int .i64 x, .bool y, .bool true] (setF L x y) L → Calls Tryd.prog 11 #[(.pointer (some ⟨R, 0, none⟩)), .int .i64 x, .bool y] w1 fun e w' => e = .returned (.bool (setB L.length x)) ∧ PlS w w' P R S #[.int .i64 x, .bool y, .bool true] (setF L x y) (setF L x y)) := fun w1 h => pl_set2 h x y (by have := HLI.out; omega)
        have HBX : Hid (∀ A B W, PlS w W P R S #[.int .i64 x, .bool y, .bool true] A B → W.cell? ⟨S, 0, none⟩ = some (.int .i64 x) ∧ W.cell? ⟨S, 1, none⟩ = some (.bool y)) := fun A B W h => ⟨h.box.1, h.box.2.1⟩
        generalize setB L.length x = rb at HQ1 HQ2
        have hrb : (rb != rb) = false := by simp
        go_upto_region 11 with fail
        clear b2
        refine wp_region_noPanic ?_
        refine wp_region_held_drew (S := (fun w' => w'.cell? ⟨S, 0, none⟩ = some (.int .i64 x) ∧ w'.cell? ⟨S, 1, none⟩ = some (.bool y))) (by kernel_rfl) (⟨b0, b1⟩) (fun hHeld => ?_)
        clear b0 b1
        refine wpAnyH_take (i := 0) (v := ?_) rfl (by kernel_rfl) (by kernel_rfl) (by kernel_rfl) (fun _ _ _ h => h) (Or.inl ⟨by rfl, ?_⟩) (by assumption) ?_
        rotate_left
        · intro W' hSw; obtain ⟨s0, s1⟩ := hSw; go_simp; try with_reducible rfl
        try simp only [Act.put, List.getElem_toArray, List.getElem_cons_succ, List.getElem_cons_zero, List.setIfInBounds_toArray, List.set_cons_zero, List.set_cons_succ]
        refine wpAnyH_take (i := 1) (v := ?_) rfl (by kernel_rfl) (by kernel_rfl) (by kernel_rfl) (fun _ _ _ h => h) (Or.inl ⟨by rfl, ?_⟩) (by assumption) ?_
        rotate_left
        · intro W' hSw; obtain ⟨s0, s1⟩ := hSw; go_simp; try with_reducible rfl
        try simp only [Act.put, List.getElem_toArray, List.getElem_cons_succ, List.getElem_cons_zero, List.setIfInBounds_toArray, List.set_cons_zero, List.set_cons_succ]
        refine wpAnyH_take (i := 2) (v := ?_) rfl (by kernel_rfl) (by kernel_rfl) (by kernel_rfl) (fun _ _ _ h => h) (Or.inl ⟨by rfl, ?_⟩) (by assumption) ?_
        rotate_left
        · intro W' hSw; obtain ⟨s0, s1⟩ := hSw; go_simp; try with_reducible rfl
        try simp only [Act.put, List.getElem_toArray, List.getElem_cons_succ, List.getElem_cons_zero, List.setIfInBounds_toArray, List.set_cons_zero, List.set_cons_succ]
        refine wpAnyH_take (i := 3) (v := ?_) rfl (by kernel_rfl) (by kernel_rfl) (by kernel_rfl) (fun _ _ _ h => h) (Or.inl ⟨by rfl, ?_⟩) (by assumption) ?_
        rotate_left
        · intro W' hSw; obtain ⟨s0, s1⟩ := hSw; go_simp; try with_reducible rfl
        try simp only [Act.put, List.getElem_toArray, List.getElem_cons_succ, List.getElem_cons_zero, List.setIfInBounds_toArray, List.set_cons_zero, List.set_cons_succ]
        refine wpAnyH_take (i := 4) (v := ?_) rfl (by kernel_rfl) (by kernel_rfl) (by kernel_rfl) (fun _ _ _ h => h) (Or.inl ⟨by rfl, ?_⟩) (by assumption) ?_
        rotate_left
        · intro W' hSw; obtain ⟨s0, s1⟩ := hSw; go_simp; try with_reducible rfl
        try simp only [Act.put, List.getElem_toArray, List.getElem_cons_succ, List.getElem_cons_zero, List.setIfInBounds_toArray, List.set_cons_zero, List.set_cons_succ]
        refine wpAnyH_take (i := 6) (v := ?_) rfl (by kernel_rfl) (by kernel_rfl) (by kernel_rfl) (fun _ _ _ h => h) (Or.inl ⟨by rfl, ?_⟩) (by assumption) ?_
        rotate_left
        · intro W' hSw; obtain ⟨s0, s1⟩ := hSw; go_simp; try with_reducible rfl
        try simp only [Act.put, List.getElem_toArray, List.getElem_cons_succ, List.getElem_cons_zero, List.setIfInBounds_toArray, List.set_cons_zero, List.set_cons_succ]
        refine wpAnyH_take (i := 7) (v := ?_) rfl (by kernel_rfl) (by kernel_rfl) (by kernel_rfl) (fun _ _ _ h => h) (Or.inl ⟨by rfl, ?_⟩) (by assumption) ?_
        rotate_left
        · intro W' hSw; obtain ⟨s0, s1⟩ := hSw; go_simp; try with_reducible rfl
        try simp only [Act.put, List.getElem_toArray, List.getElem_cons_succ, List.getElem_cons_zero, List.setIfInBounds_toArray, List.set_cons_zero, List.set_cons_succ]
        refine wpAnyH_take (i := 8) (v := ?_) rfl (by kernel_rfl) (by kernel_rfl) (by kernel_rfl) (fun _ _ _ h => h) (Or.inl ⟨by rfl, ?_⟩) (by assumption) ?_
        rotate_left
        · intro W' hSw; obtain ⟨s0, s1⟩ := hSw; go_simp; try with_reducible rfl
        try simp only [Act.put, List.getElem_toArray, List.getElem_cons_succ, List.getElem_cons_zero, List.setIfInBounds_toArray, List.set_cons_zero, List.set_cons_succ]
        refine wpAnyH_take (i := 9) (v := ?_) rfl (by kernel_rfl) (by kernel_rfl) (by kernel_rfl) (fun _ _ _ h => h) (Or.inl ⟨by rfl, ?_⟩) (by assumption) ?_
        rotate_left
        · intro W' hSw; obtain ⟨s0, s1⟩ := hSw; go_simp; try with_reducible rfl
        try simp only [Act.put, List.getElem_toArray, List.getElem_cons_succ, List.getElem_cons_zero, List.setIfInBounds_toArray, List.set_cons_zero, List.set_cons_succ]
        refine wpAnyH_take (i := 10) (v := ?_) rfl (by kernel_rfl) (by kernel_rfl) (by kernel_rfl) (fun _ _ _ h => h) (Or.inl ⟨by rfl, ?_⟩) (by assumption) ?_
        rotate_left
        · intro W' hSw; obtain ⟨s0, s1⟩ := hSw; go_simp; try with_reducible rfl
        try simp only [Act.put, List.getElem_toArray, List.getElem_cons_succ, List.getElem_cons_zero, List.setIfInBounds_toArray, List.set_cons_zero, List.set_cons_succ]
        refine wpAnyH_ready (rs := [5]) (by kernel_rfl) (by simp) ?_
        refine AllReadyH.cons rfl (fun KK hK => ?_) AllReadyH.nil
        go_simp
        refine HQ1.out.mono ?_
        rintro e w5 ⟨rfl, hs⟩
        have HS5 : Hid (PlS w w5 P R S #[.int .i64 x, .bool y, .bool true] (setF L x y) L) := hs
        clear hs
        refine hK.out _ _ (HBX.out _ _ _ HS5.out) (fun hHeld => ?_)
        clear hK KK
        try simp only [Act.put, List.getElem_toArray, List.getElem_cons_succ, List.getElem_cons_zero, List.setIfInBounds_toArray, List.set_cons_zero, List.set_cons_succ]
        refine wpAnyH_ready (rs := [11]) (by kernel_rfl) (by simp) ?_
        refine AllReadyH.cons rfl (fun KK hK => ?_) AllReadyH.nil
        go_simp
        refine (HQ2.out _ HS5.out).mono ?_
        rintro e w6 ⟨rfl, hs⟩
        have HS6 : Hid (PlS w w6 P R S #[.int .i64 x, .bool y, .bool true] (setF L x y) (setF L x y)) := hs
        clear hs
        refine hK.out _ _ (HBX.out _ _ _ HS6.out) (fun hHeld => ?_)
        clear hK KK
        try simp only [Act.put, List.getElem_toArray, List.getElem_cons_succ, List.getElem_cons_zero, List.setIfInBounds_toArray, List.set_cons_zero, List.set_cons_succ]
        refine wpAnyH_take (i := 12) (v := ?_) rfl (by kernel_rfl) (by kernel_rfl) (by kernel_rfl) (fun _ _ _ h => h) (Or.inl ⟨by rfl, ?_⟩) (by assumption) ?_
        rotate_left
        · intro W' hSw; obtain ⟨s0, s1⟩ := hSw; go_simp; try with_reducible rfl
        try simp only [Act.put, List.getElem_toArray, List.getElem_cons_succ, List.getElem_cons_zero, List.setIfInBounds_toArray, List.set_cons_zero, List.set_cons_succ]
        refine wpAnyH_done (by kernel_rfl) ?_ _
        refine NoPanic.normal ?_
        clear hHeld
        clear HQ1 HQ2 HBX HS4 HS5 hrb
        have HG6 := HG.out (setF L x y) w6 HLE.out HS6.out
        generalize setF L x y = L6 at HG6 HS6 HLE
        obtain ⟨g1, g2, g3, g4, g5, g6, g7, g8⟩ := HG6
        obtain ⟨b0, _, _⟩ := HS6.out.box
        obtain ⟨u, hu⟩ := HS6.out.rf
        obtain ⟨c0, _⟩ := hu.cells
        obtain ⟨sa, cp, rfl, _, _, hr6⟩ := rdT_own hu.2.1
        clear hu
        obtain ⟨z1, z2⟩ := seen_row L6 x
        have HSL1 : Hid (∀ q, Calls Tryd.prog 14 #[(.pointer (some ⟨P, 0, none⟩)), .int .i64 x] (w6.drewN q) fun e w' => e = .returned (.tuple #[.int .i64 (selI L6 x), .bool (selB L6 x)]) ∧ w' = w6.drewN q) := g1
        have HSL2 : Hid (∀ q, Calls Tryd.prog 15 #[(.pointer (some ⟨R, 0, none⟩)), .int .i64 x] (w6.drewN q) fun e w' => e = .returned (.tuple #[.int .i64 (selI L6 x), .bool (selB L6 x)]) ∧ w' = w6.drewN q) := g2
        have HRK1 : Hid (∀ q, Calls Tryd.prog 16 #[(.pointer (some ⟨P, 0, none⟩)), .int .i64 x] (w6.drewN q) fun e w' => e = .returned (.int .i64 (rnk L6 x : Int)) ∧ ∃ m, w' = (w6.drewN q).drewN m) := g3
        have HRK2 : Hid (∀ q, Calls Tryd.prog 17 #[(.pointer (some ⟨R, 0, none⟩)), .int .i64 x] (w6.drewN q) fun e w' => e = .returned (.int .i64 (rnk L6 x : Int)) ∧ w' = w6.drewN q) := g4
        have HSE : Hid (∀ q, Calls Tryd.prog 18 #[(.pointer (some ⟨P, 0, none⟩)), .int .i64 x] (w6.drewN q) fun e w' => e = .returned (.bool (seenB L6 x)) ∧ w' = w6.drewN q) := g5
        have HLN : Hid (∀ q, Calls Tryd.prog 19 #[(.pointer (some ⟨P, 0, none⟩))] (w6.drewN q) fun e w' => e = .returned (.int .i64 (L6.length : Int)) ∧ w' = w6.drewN q) := g6
        have HCN : Hid (∀ q, Calls Tryd.prog 20 #[(.pointer (some ⟨P, 0, none⟩))] (w6.drewN q) fun e w' => e = .returned (.int .i64 (cnt L6 : Int)) ∧ w' = w6.drewN q) := g7
        have HRC : Hid (∀ q, Calls Tryd.prog 17 #[(.pointer (some ⟨R, 0, none⟩)), .int .i64 (L6.length : Int)] (w6.drewN q) fun e w' => e = .returned (.int .i64 (cnt L6 : Int)) ∧ w' = w6.drewN q) := g8
        have HZ : Hid ((0 ≤ x → x < (L6.length : Int) → seenB L6 x = L6.getD x.toNat false) ∧ (¬ (0 ≤ x ∧ x < (L6.length : Int)) → seenB L6 x = false)) := ⟨z1, z2⟩
        have HR6 : Hid (RdT w6 sa L6.length L6) := hr6
        have HLE6 : Hid (L6.length ≤ i + 1) := HLE.out
        clear g1 g2 g3 g4 g5 g6 g7 g8 hr6 z1 z2 HG HLE HLI
        generalize selI L6 x = sp at HSL1 HSL2
        generalize selB L6 x = sb at HSL1 HSL2
        generalize (rnk L6 x : Int) = rk at HRK1 HRK2
        generalize (cnt L6 : Int) = xc at HCN HRC
        have e1 : (sp != sp) = false := by simp
        have e2 : (sb != sb) = false := by simp
        have e3 : (rk != rk) = false := by simp
        have e4 : (xc != xc) = false := by simp
        have e5 : ((L6.length : Int) != (L6.length : Int)) = false := by simp
        go_upto_region 17 with (first | (go_at_call 14; refine (HSL1.out 0).mono ?_; rintro e w' ⟨rfl, hw⟩; have hw := hw.symm; subst hw) | (go_at_call 15; refine (HSL2.out 0).mono ?_; rintro e w' ⟨rfl, hw⟩; have hw := hw.symm; subst hw))
        by_cases h0 : 0 ≤ x
        · have h0' : decide (0 ≤ x) = true := by simpa using h0
          by_cases h1 : x < (L6.length : Int)
          · have h1' : decide (x < (L6.length : Int)) = true := by simpa using h1
            obtain ⟨k, hk⟩ : ∃ k : Nat, x = (k : Int) := ⟨x.toNat, by omega⟩
            obtain ⟨gb6, off6, rfl, hc6⟩ := HR6.out.at k (by omega)
            have hzz := HZ.out.1 h0 h1
            have hxk : x.toNat = k := by omega
            rw [hxk] at hzz
            rw [← hzz] at hc6
            generalize seenB L6 x = z6 at *
            have hk0 : (0 : Int) ≤ (k : Int) := by omega
            have hk1 : (k : Int) < (L6.length : Int) := by omega
            have ez : (z6 != z6) = false := by simp
            clear hzz hxk HZ HR6
            subst hk
            clear h0 h1
            go_quiet (fail)
            obtain ⟨w7, hw7⟩ : ∃ w7, w7 = (w6.drewN 0).drewN nq := ⟨_, rfl⟩
            have HS7 : Hid (PlR w w7 P R L6 L6) := by rw [hw7]; exact ((HS6.out.drewN 0).drewN nq).pair
            have KRK1 : Hid (∀ q, Calls Tryd.prog 16 #[(.pointer (some ⟨P, 0, none⟩)), .int .i64 (k : Int)] (w7.drewN q) fun e w' => e = .returned (.int .i64 rk) ∧ ∃ m, w' = (w7.drewN q).drewN m) := fun q => by
              rw [hw7, World.drewN_drewN, World.drewN_drewN]; exact HRK1.out _
            have KRK2 : Hid (∀ q, Calls Tryd.prog 17 #[(.pointer (some ⟨R, 0, none⟩)), .int .i64 (k : Int)] (w7.drewN q) fun e w' => e = .returned (.int .i64 rk) ∧ w' = w7.drewN q) := fun q => by
              rw [hw7, World.drewN_drewN, World.drewN_drewN]; exact HRK2.out _
            have KSE : Hid (∀ q, Calls Tryd.prog 18 #[(.pointer (some ⟨P, 0, none⟩)), .int .i64 (k : Int)] (w7.drewN q) fun e w' => e = .returned (.bool z6) ∧ w' = w7.drewN q) := fun q => by
              rw [hw7, World.drewN_drewN, World.drewN_drewN]; exact HSE.out _
            have KLN : Hid (∀ q, Calls Tryd.prog 19 #[(.pointer (some ⟨P, 0, none⟩))] (w7.drewN q) fun e w' => e = .returned (.int .i64 (L6.length : Int)) ∧ w' = w7.drewN q) := fun q => by
              rw [hw7, World.drewN_drewN, World.drewN_drewN]; exact HLN.out _
            have KCN : Hid (∀ q, Calls Tryd.prog 20 #[(.pointer (some ⟨P, 0, none⟩))] (w7.drewN q) fun e w' => e = .returned (.int .i64 xc) ∧ w' = w7.drewN q) := fun q => by
              rw [hw7, World.drewN_drewN, World.drewN_drewN]; exact HCN.out _
            have KRC : Hid (∀ q, Calls Tryd.prog 17 #[(.pointer (some ⟨R, 0, none⟩)), .int .i64 (L6.length : Int)] (w7.drewN q) fun e w' => e = .returned (.int .i64 xc) ∧ w' = w7.drewN q) := fun q => by
              rw [hw7, World.drewN_drewN, World.drewN_drewN]; exact HRC.out _
            have d0 : w7.cell? ⟨S, 0, none⟩ = some (.int .i64 (k : Int)) := by rw [hw7]; exact b0
            have d1 : w7.cell? ⟨R, 0, none⟩ = some (.slice (some ⟨gb6, off6, none⟩) L6.length cp) := by rw [hw7]; exact c0
            rw [← hw7]
            clear hw7 HRK1 HRK2 HSE HLN HCN HRC HSL1 HSL2 b0 c0 HS6
            go_upto_region 18 with fail
            go_quiet (first | (go_at_call 16; with_reducible exact Calls.quiet_of (KRK1.out _)) | (go_at_call 17; first | with_reducible exact Calls.quiet_of_same (KRK2.out _) | with_reducible exact Calls.quiet_of_same (KRC.out _)) | (go_at_call 18; with_reducible exact Calls.quiet_of_same (KSE.out _)) | (go_at_call 19; with_reducible exact Calls.quiet_of_same (KLN.out _)) | (go_at_call 20; with_reducible exact Calls.quiet_of_same (KCN.out _)))
            go_wp2_with fail
            go_roundw
            case rel => exact ⟨i + 1, L6, by rw [Int.natCast_add]; rfl, HX.out.1, HLE6.out, HS7.out.drewN _⟩
            case measure => have := HX.out; simp [intOf]; omega
          · have h1' : decide (x < (L6.length : Int)) = false := by simpa using h1
            have hzz := HZ.out.2 (fun h => h1 h.2)
            rw [hzz] at HSE
            clear hzz h0 h1 HZ HR6
            go_quiet (fail)
            obtain ⟨w7, hw7⟩ : ∃ w7, w7 = (w6.drewN 0).drewN nq := ⟨_, rfl⟩
            have HS7 : Hid (PlR w w7 P R L6 L6) := by rw [hw7]; exact ((HS6.out.drewN 0).drewN nq).pair
            have KRK1 : Hid (∀ q, Calls Tryd.prog 16 #[(.pointer (some ⟨P, 0, none⟩)), .int .i64 x] (w7.drewN q) fun e w' => e = .returned (.int .i64 rk) ∧ ∃ m, w' = (w7.drewN q).drewN m) := fun q => by
              rw [hw7, World.drewN_drewN, World.drewN_drewN]; exact HRK1.out _
            have KRK2 : Hid (∀ q, Calls Tryd.prog 17 #[(.pointer (some ⟨R, 0, none⟩)), .int .i64 x] (w7.drewN q) fun e w' => e = .returned (.int .i64 rk) ∧ w' = w7.drewN q) := fun q => by
              rw [hw7, World.drewN_drewN, World.drewN_drewN]; exact HRK2.out _
            have KSE : Hid (∀ q, Calls Tryd.prog 18 #[(.pointer (some ⟨P, 0, none⟩)), .int .i64 x] (w7.drewN q) fun e w' => e = .returned (.bool false) ∧ w' = w7.drewN q) := fun q => by
              rw [hw7, World.drewN_drewN, World.drewN_drewN]; exact HSE.out _
            have KLN : Hid (∀ q, Calls Tryd.prog 19 #[(.pointer (some ⟨P, 0, none⟩))] (w7.drewN q) fun e w' => e = .returned (.int .i64 (L6.length : Int)) ∧ w' = w7.drewN q) := fun q => by
              rw [hw7, World.drewN_drewN, World.drewN_drewN]; exact HLN.out _
            have KCN : Hid (∀ q, Calls Tryd.prog 20 #[(.pointer (some ⟨P, 0, none⟩))] (w7.drewN q) fun e w' => e = .returned (.int .i64 xc) ∧ w' = w7.drewN q) := fun q => by
              rw [hw7, World.drewN_drewN, World.drewN_drewN]; exact HCN.out _
            have KRC : Hid (∀ q, Calls Tryd.prog 17 #[(.pointer (some ⟨R, 0, none⟩)), .int .i64 (L6.length : Int)] (w7.drewN q) fun e w' => e = .returned (.int .i64 xc) ∧ w' = w7.drewN q) := fun q => by
              rw [hw7, World.drewN_drewN, World.drewN_drewN]; exact HRC.out _
            have d0 : w7.cell? ⟨S, 0, none⟩ = some (.int .i64 x) := by rw [hw7]; exact b0
            have d1 : w7.cell? ⟨R, 0, none⟩ = some (.slice sa L6.length cp) := by rw [hw7]; exact c0
            rw [← hw7]
            clear hw7 HRK1 HRK2 HSE HLN HCN HRC HSL1 HSL2 b0 c0 HS6
            go_upto_region 18 with fail
            go_quiet (first | (go_at_call 16; with_reducible exact Calls.quiet_of (KRK1.out _)) | (go_at_call 17; first | with_reducible exact Calls.quiet_of_same (KRK2.out _) | with_reducible exact Calls.quiet_of_same (KRC.out _)) | (go_at_call 18; with_reducible exact Calls.quiet_of_same (KSE.out _)) | (go_at_call 19; with_reducible exact Calls.quiet_of_same (KLN.out _)) | (go_at_call 20; with_reducible exact Calls.quiet_of_same (KCN.out _)))
            go_wp2_with fail
            go_roundw
            case rel => exact ⟨i + 1, L6, by rw [Int.natCast_add]; rfl, HX.out.1, HLE6.out, HS7.out.drewN _⟩
            case measure => have := HX.out; simp [intOf]; omega
        · have h0' : decide (0 ≤ x) = false := by simpa using h0
          have hzz := HZ.out.2 (fun h => h0 h.1)
          rw [hzz] at HSE
          clear hzz h0 HZ HR6
          go_quiet (fail)
          obtain ⟨w7, hw7⟩ : ∃ w7, w7 = (w6.drewN 0).drewN nq := ⟨_, rfl⟩
          have HS7 : Hid (PlR w w7 P R L6 L6) := by rw [hw7]; exact ((HS6.out.drewN 0).drewN nq).pair
          have KRK1 : Hid (∀ q, Calls Tryd.prog 16 #[(.pointer (some ⟨P, 0, none⟩)), .int .i64 x] (w7.drewN q) fun e w' => e = .returned (.int .i64 rk) ∧ ∃ m, w' = (w7.drewN q).drewN m) := fun q => by
            rw [hw7, World.drewN_drewN, World.drewN_drewN]; exact HRK1.out _
          have KRK2 : Hid (∀ q, Calls Tryd.prog 17 #[(.pointer (some ⟨R, 0, none⟩)), .int .i64 x] (w7.drewN q) fun e w' => e = .returned (.int .i64 rk) ∧ w' = w7.drewN q) := fun q => by
            rw [hw7, World.drewN_drewN, World.drewN_drewN]; exact HRK2.out _
          have KSE : Hid (∀ q, Calls Tryd.prog 18 #[(.pointer (some ⟨P, 0, none⟩)), .int .i64 x] (w7.drewN q) fun e w' => e = .returned (.bool false) ∧ w' = w7.drewN q) := fun q => by
            rw [hw7, World.drewN_drewN, World.drewN_drewN]; exact HSE.out _
          have KLN : Hid (∀ q, Calls Tryd.prog 19 #[(.pointer (some ⟨P, 0, none⟩))] (w7.drewN q) fun e w' => e = .returned (.int .i64 (L6.length : Int)) ∧ w' = w7.drewN q) := fun q => by
            rw [hw7, World.drewN_drewN, World.drewN_drewN]; exact HLN.out _
          have KCN : Hid (∀ q, Calls Tryd.prog 20 #[(.pointer (some ⟨P, 0, none⟩))] (w7.drewN q) fun e w' => e = .returned (.int .i64 xc) ∧ w' = w7.drewN q) := fun q => by
            rw [hw7, World.drewN_drewN, World.drewN_drewN]; exact HCN.out _
          have KRC : Hid (∀ q, Calls Tryd.prog 17 #[(.pointer (some ⟨R, 0, none⟩)), .int .i64 (L6.length : Int)] (w7.drewN q) fun e w' => e = .returned (.int .i64 xc) ∧ w' = w7.drewN q) := fun q => by
            rw [hw7, World.drewN_drewN, World.drewN_drewN]; exact HRC.out _
          have d0 : w7.cell? ⟨S, 0, none⟩ = some (.int .i64 x) := by rw [hw7]; exact b0
          have d1 : w7.cell? ⟨R, 0, none⟩ = some (.slice sa L6.length cp) := by rw [hw7]; exact c0
          rw [← hw7]
          clear hw7 HRK1 HRK2 HSE HLN HCN HRC HSL1 HSL2 b0 c0 HS6
          go_upto_region 18 with fail
          go_quiet (first | (go_at_call 16; with_reducible exact Calls.quiet_of (KRK1.out _)) | (go_at_call 17; first | with_reducible exact Calls.quiet_of_same (KRK2.out _) | with_reducible exact Calls.quiet_of_same (KRC.out _)) | (go_at_call 18; with_reducible exact Calls.quiet_of_same (KSE.out _)) | (go_at_call 19; with_reducible exact Calls.quiet_of_same (KLN.out _)) | (go_at_call 20; with_reducible exact Calls.quiet_of_same (KCN.out _)))
          go_wp2_with fail
          go_roundw
          case rel => exact ⟨i + 1, L6, by rw [Int.natCast_add]; rfl, HX.out.1, HLE6.out, HS7.out.drewN _⟩
          case measure => have := HX.out; simp [intOf]; omega
    · have hcase : (decide ((i : Int) < (len : Int)) = true ∧ decide (i < len) = true ∧ decide ((i : Int) < 500) = false ∧ decide (i < 500) = false) ∨ (decide ((i : Int) < (len : Int)) = false ∧ decide (i < len) = false) := by
        by_cases h1 : i < len
        · exact .inl ⟨by apply decide_eq_true; omega, by apply decide_eq_true; omega, by apply decide_eq_false; omega, by apply decide_eq_false; omega⟩
        · exact .inr ⟨by apply decide_eq_false; omega, by apply decide_eq_false; omega⟩
      clear hlt HD
      rcases hcase with ⟨hd1, hd2, hd3, hd4⟩ | ⟨hd1, hd2⟩
      all_goals
        go_upto_region 20 with fail
        go_wp2_with fail
        go_loopw [13] (fun x13 wr => ∃ k : Nat, x13 = .int .i64 (k : Int) ∧ k ≤ L.length + 1 ∧ PlR w wr P R L L) (fun x13 _ => L.length + 1 - (intOf x13).toNat)
        case atStart => exact ⟨0, rfl, by omega, HS.out⟩
        case round =>
          obtain ⟨k, hx, hki, hs⟩ := hrel
          subst hx
          have HS8 : Hid (PlR w wr P R L L) := hs
          clear hs HS
          have hl5 := HLI.out
          obtain ⟨u, hu⟩ := HS8.out.rf
          obtain ⟨c0, _⟩ := hu.cells
          obtain ⟨sa, cp, rfl, _, _, _⟩ := rdT_own hu.2.1
          by_cases hk : k ≤ L.length
          · have hk1 : decide ((k : Int) ≤ (L.length : Int)) = true := by apply decide_eq_true; omega
            have hk2 : decide (k ≤ L.length) = true := by apply decide_eq_true; omega
            have QSL : Hid (Calls Tryd.prog 14 #[(.pointer (some ⟨P, 0, none⟩)), .int .i64 (k : Int)] wr fun e w' => e = .returned (.tuple #[.int .i64 (selI L (k : Int)), .bool (selB L (k : Int))]) ∧ w' = wr) := s_select HS8.out.ix HT.out (k : Int) (by omega) (by omega)
            have QRL : Hid (Calls Tryd.prog 15 #[(.pointer (some ⟨R, 0, none⟩)), .int .i64 (k : Int)] wr fun e w' => e = .returned (.tuple #[.int .i64 (selI L (k : Int)), .bool (selB L (k : Int))]) ∧ w' = wr) := refSelect_any R _ _ L (k : Int) wr hu (by omega) (by omega) (by omega)
            have QRK : Hid (Calls Tryd.prog 16 #[(.pointer (some ⟨P, 0, none⟩)), .int .i64 (k : Int)] wr fun e w' => e = .returned (.int .i64 (rnk L (k : Int) : Int)) ∧ PlR w w' P R L L) := (s_rank HS8.out.ix (k : Int) (by omega) (by omega)).mono fun e w' ⟨q1, q, q2⟩ => ⟨q1, q2 ▸ HS8.out.drewN q⟩
            have QRR : Hid (∀ W, PlR w W P R L L → Calls Tryd.prog 17 #[(.pointer (some ⟨R, 0, none⟩)), .int .i64 (k : Int)] W fun e w' => e = .returned (.int .i64 (rnk L (k : Int) : Int)) ∧ w' = W) := fun W hW => by
              obtain ⟨u', hu'⟩ := hW.rf
              exact refRank_any R _ u' L (k : Int) W hu' (by omega)
            have hk0 : (0 : Int) ≤ (k : Int) := by omega
            have hk5 : (k : Int) + 1 ≤ 502 := by omega
            have HX : Hid (k + 1 ≤ L.length + 1) := by show _ ≤ _; omega
            clear hu hk hki hl5 HS8
            generalize selI L (k : Int) = sp at QSL QRL
            generalize selB L (k : Int) = sb at QSL QRL
            generalize (rnk L (k : Int) : Int) = rk at QRK QRR
            have e1 : (sp != sp) = false := by simp
            have e2 : (sb != sb) = false := by simp
            have e3 : (rk != rk) = false := by simp
            go_wp2_with (first | (go_at_call 14; refine QSL.out.mono ?_; rintro e w' ⟨rfl, hw⟩; have hw := hw.symm; subst hw) | (go_at_call 15; refine QRL.out.mono ?_; rintro e w' ⟨rfl, hw⟩; have hw := hw.symm; subst hw) | (go_at_call 16; refine QRK.out.mono ?_; rintro e w9 ⟨rfl, hs⟩; have HS9 : Hid (PlR w w9 P R L L) := hs; clear hs) | (go_at_call 17; refine (QRR.out _ HS9.out).mono ?_; rintro e w' ⟨rfl, hw⟩; have hw := hw.symm; subst hw))
            go_roundw
            case rel => exact ⟨k + 1, by rw [Int.natCast_add]; rfl, HX.out, HS9.out⟩
            case measure => have := HX.out; simp [intOf]; omega
          · have hk1 : decide ((k : Int) ≤ (L.length : Int)) = false := by apply decide_eq_false; omega
            have hk2 : decide (k ≤ L.length) = false := by apply decide_eq_false; omega
            clear hu hk hki hl5
            go_wp2_with fail
            go_ret
            exact ⟨rfl, HS8.out.ix.below⟩
end Go.Proofs.YtpahbofccloeaaaDoor
