/- The walk of HoldDrops: what is dropped is gone, and may come again. -/
import Derived.Test.YtcmgmoacpkikdaaHoldDropsR
namespace Go.Proofs.Ytcmgmoacpkikdaa
open Go.RowKit Go.Sort
set_option linter.unusedVariables false
set_option linter.unusedSimpArgs false

set_option maxRecDepth 100000 in
set_option maxHeartbeats 16000000 in
theorem holdDrops_walk (xs : List Opn) (a : Option Addr) (len cap : Nat) (au : Int) (w : World) (hrd : RdP w a len xs) (lo : -9223372036854775808 ≤ au) (hi : au ≤ 9223372036854775807) :
    Calls Try.prog 8 #[.slice a len cap, .int .i64 au] w fun e w' => e = .returned (.bool true) ∧ Below w.heap.size w w' := by
  have mixed : Try.prog.follows .mixedOrders = true := by kernel_rfl
  have HLX : Hid (xs.length = len) := hrd.1
  have HX : Hid (∀ w', Below w.heap.size w w' → RdP w' a len xs) := fun w' h => hrd.later h
  obtain ⟨W0, hW0⟩ : ∃ W0, W0 = w.alloc (bxI au) := ⟨_, rfl⟩
  obtain ⟨N, hN⟩ : ∃ N, N = w.heap.size := ⟨_, rfl⟩
  have hb0 : Below w.heap.size w W0 := by rw [hW0]; exact (Below.refl _ w).alloc (Nat.le_refl _) _
  have hx0 : W0.heap[N]? = some (bxI au) := by rw [hW0, hN]; exact heap_alloc_new w _
  have HSH : Hid (Calls Try.prog 9 #[] W0 fun e w' => e = .returned (.bool true) ∧ Below w.heap.size w w' ∧ w'.heap[N]? = some (bxI au)) := (shown16_any W0).mono (by
    rintro e w' ⟨rfl, hb⟩
    exact ⟨rfl, hb0.trans (hb.mono hb0.size), bel_heap hb hx0⟩)
  have HNW : Hid (∀ w1, Below w.heap.size w w1 ∧ w1.heap[N]? = some (bxI au) → Calls Try.prog 10 #[.int .i64 40] w1 fun e w' => ∃ P, e = .returned (.pointer (some ⟨P, 0, none⟩)) ∧ DrS w w' P 40 N au (adsK 40 (xs.take 0)) (.slice none 0 0) 0 []) := fun w1 hb => (h_new hb.1 40 (by omega) (fun k => k = N ∨ (Value.slice none 0 0).ownBlock = some k) (fun k h => by
      rcases h with rfl | h
      · exact (Array.getElem?_eq_some_iff.1 hb.2).1
      · cases h)).mono (by
    rintro e w' ⟨P, rfl, q, hb2, _⟩
    exact ⟨P, rfl, q, bel_heap hb2 hb.2, World.ownsRow_nil _ _ _ _⟩)
  clear hrd hb0 hx0 lo hi
  go_enter Try.func8, Try.ntmps8
  go_upto_region 1 with fail
  rw [← hN, ← hW0]
  clear hN hW0
  go_upto_region 5 with (first
    | (go_at_call 9; refine HSH.out.mono ?_; rintro e w1 ⟨rfl, hb⟩; have HB1 : Hid (Below w.heap.size w w1 ∧ w1.heap[N]? = some (bxI au)) := hb; clear hb)
    | (go_at_call 10; refine (HNW.out _ HB1.out).mono ?_; rintro e w2 ⟨P, rfl, hs⟩; have HS0 : Hid (DrS w w2 P 40 N au (adsK 40 (xs.take 0)) (.slice none 0 0) 0 []) := hs; clear hs))
  clear HSH HNW HB1
  go_wp2
  go_loopw [7] (fun x7 wr => ∃ i : Nat, x7 = .int .i64 (i : Int) ∧ i ≤ len ∧ i ≤ 40 ∧ DrS w wr P 40 N au (adsK 40 (xs.take i)) (.slice none 0 0) 0 []) (fun x7 _ => 40 - (RowKit.intOf x7).toNat)
  case atStart => exact ⟨0, rfl, by omega, by omega, HS0.out⟩
  case round =>
    obtain ⟨i, h7, hil, hi40, hs⟩ := hrel
    subst h7
    have HS : Hid (DrS w wr P 40 N au (adsK 40 (xs.take i)) (.slice none 0 0) 0 []) := hs
    clear hs HS0
    by_cases hlt : i < len ∧ i < 40
    · obtain ⟨hlt, h40⟩ := hlt
      have hd1 : decide ((i : Int) < (len : Int)) = true := by simpa using hlt
      have hd2 : decide ((i : Int) < 40) = true := decide_eq_true (by omega)
      obtain ⟨b1, o1, hab, c0, c1, c2, c3, c4, c5, c6⟩ := (HX.out wr HS.out.below).at i hlt
      subst hab
      obtain ⟨p, hp⟩ : ∃ p, p = xs.getD i op0 := ⟨_, rfl⟩
      rw [← hp] at c0 c1 c2 c3 c4 c5 c6
      have HADD : Hid (Calls Try.prog 20 #[.pointer (some ⟨P, 0, none⟩), p.val] wr fun e w' => ∃ z : Int, e = .returned (.int .i64 z) ∧ DrS w w' P 40 N au (adsK 40 (xs.take (i + 1))) (.slice none 0 0) 0 []) := (d_add HS.out p (by have := HS.out.len; omega)).mono (by
        rintro e w' ⟨rfl, q⟩
        rw [adsK_snoc 40 xs i (by rw [HLX.out]; exact hlt), ← hp]
        exact ⟨_, rfl, q⟩)
      clear hp HX HS
      obtain ⟨pc, pa, ps, pi, prc, pra, pch⟩ := p
      simp only [Opn.val] at HADD c0 c1 c2 c3 c4 c5 c6
      go_wp2_with (go_at_call 20; refine HADD.out.mono ?_; rintro e w3 ⟨z, rfl, h3⟩; have HS3 : Hid (DrS w w3 P 40 N au (adsK 40 (xs.take (i + 1))) (.slice none 0 0) 0 []) := h3; clear h3)
      go_roundw
      case rel => exact ⟨i + 1, by go_num, by omega, by omega, HS3.out⟩
      case measure => simp [RowKit.intOf]; omega
    · have HMM : Hid (i ≤ 40) := hi40
      have hcs : ((¬ i < len) ∧ decide ((i : Int) < (len : Int)) = false) ∨ (i < len ∧ decide ((i : Int) < (len : Int)) = true ∧ (¬ i < 40) ∧ decide ((i : Int) < 40) = false) := by
        rcases Nat.lt_or_ge i len with q | q
        · exact .inr ⟨q, by simpa using q, by omega, by simp; omega⟩
        · exact .inl ⟨by omega, by simp; omega⟩
      obtain ⟨L, hL⟩ : ∃ L, L = adsK 40 (xs.take i) := ⟨_, rfl⟩
      have HSL : Hid (DrS w wr P 40 N au L (.slice none 0 0) 0 []) := by rw [hL]; exact HS.out
      have HLN : Hid (L.length ≤ 40) := by
        have := adsK_len 40 xs i
        rw [← hL] at this
        show L.length ≤ 40
        omega
      have HAA : Hid (AscK L) := HSL.out.len.2.2
      clear hL HS HX HLX hlt hil hi40
      rcases hcs with ⟨hn1, hd1⟩ | ⟨hn1, hd1, hn2, hd2⟩
      all_goals
        go_upto_region 10 with (go_at_call 22; refine (d_all HSL.out).mono ?_; rintro e w3 ⟨a2, c2, rfl, -, -, h3⟩; have HS3 : Hid (DrS w w3 P 40 N au L (.slice a2 L.length c2) L.length L) := h3; clear h3)
        clear HSL hd1
        have HDN : Hid (∀ V, DrS w V P 40 N au L (.slice a2 L.length c2) L.length L → Calls Try.prog 16 #[.pointer (some ⟨P, 0, none⟩), .func (.func 31) #[] #[]] V fun e w' => e = .returned (.int .i64 0) ∧ DrS w w' P 40 N au L (.slice a2 L.length c2) L.length L) := fun V h => (d_drop h _ _ _ (ask_no V)).mono (by
          rintro e w' ⟨rfl, q⟩
          have e1 : (L.filter fun x => !false) = L := by simp
          rw [e1] at q ⊢
          exact ⟨by rw [Int.sub_self], q⟩)
        obtain ⟨n, hn⟩ : ∃ n, n = L.length := ⟨_, rfl⟩
        have HNL : Hid (n = L.length) := hn
        have hn40 : n ≤ 40 := by have := HLN.out; omega
        have HDI : Hid (∀ V, DrS w V P 40 N au L (.slice a2 L.length c2) L.length L → Calls Try.prog 16 #[.pointer (some ⟨P, 0, none⟩), .func (.func 32) #[] #[.pointer (some ⟨N, 0, none⟩)]] V fun e w' => e = .returned (.int .i64 ((n : Int) - ((L.filter fun x => !(x.a == au)).length : Int))) ∧ DrS w w' P 40 N au (L.filter fun x => !(x.a == au)) (.slice a2 L.length c2) L.length L) := fun V h => by
          rw [hn]
          exact d_drop h _ _ _ (ask_is N au V h.2.1)
        rw [← hn] at HS3 HDN HDI ⊢
        clear hn
        go_upto_region 11 with (go_at_call 16; refine (HDN.out _ HS3.out).mono ?_; rintro e w4 ⟨rfl, h4⟩; have HS4 : Hid (DrS w w4 P 40 N au L (.slice a2 n c2) n L) := h4; clear h4)
        clear HS3 HDN
        go_upto_region 13 with (first
          | (go_at_call 22; refine (d_all HS4.out).mono ?_; rintro e w9 ⟨b9, c9, rfl, h1, h2, -⟩; have HS5 : Hid (RdP w9 b9 (L).length L ∧ DrS w w9 P 40 N au L (.slice a2 n c2) n L) := ⟨h1, h2⟩; clear h1 h2)
          | (go_at_call 23; refine (d_same HS5.out.2 L _ HS5.out.1 (by have := HS5.out.2.len; omega) true (by simp)).mono ?_; rintro e w10 ⟨rfl, h1⟩; have HS5b : Hid (DrS w w10 P 40 N au L (.slice a2 n c2) n L) := h1; clear h1))
        clear HS4 HS5
        obtain ⟨L1, hL1⟩ : ∃ L1, L1 = L.filter fun x => !(x.a == au) := ⟨_, rfl⟩
        rw [← hL1] at HDI
        have HFL : Hid (L1 = L.filter fun x => !(x.a == au)) := hL1
        obtain ⟨m, hm⟩ : ∃ m, m = L1.length := ⟨_, rfl⟩
        have HMM : Hid (m = L1.length) := hm
        have hmn : m ≤ n := by rw [hm, HNL.out, hL1]; exact List.length_filter_le _ _
        rw [← hm] at HDI
        clear hm hL1
        go_upto_region 14 with (go_at_call 16; refine (HDI.out _ HS5b.out).mono ?_; rintro e w6 ⟨rfl, h6⟩; have HS6 : Hid (DrS w w6 P 40 N au L1 (.slice a2 n c2) n L) := h6; clear h6)
        clear HS5b HDI
        go_upto_region 15 with (go_at_call 22; refine (d_all HS6.out).mono ?_; rintro e w7 ⟨a7, c7, rfl, h1, h2, -⟩; have HS7 : Hid (RdP w7 a7 m L1 ∧ DrS w w7 P 40 N au L1 (.slice a2 n c2) n L) := (by rw [HMM.out]; exact ⟨h1, h2⟩); clear h1 h2; rw [← HMM.out])
        clear HS6
        go_wp2
        go_loopw [12] (fun x12 wr => ∃ j : Nat, x12 = .int .i64 (j : Int) ∧ j ≤ m ∧ RdP wr a7 m L1 ∧ DrS w wr P 40 N au L1 (.slice a2 n c2) n L) (fun x12 _ => 40 - (RowKit.intOf x12).toNat)
        case atStart => exact ⟨0, rfl, by omega, HS7.out.1, HS7.out.2⟩
        case round =>
          obtain ⟨j, h12, hjm, hrj, hsj⟩ := hrel
          subst h12
          have HSJ : Hid (RdP wr a7 m L1 ∧ DrS w wr P 40 N au L1 (.slice a2 n c2) n L) := ⟨hrj, hsj⟩
          clear hrj hsj HS7
          by_cases hjt : j < m
          · obtain ⟨b1, o1, hab, c0, c1, c2', c3, c4, c5, c6⟩ := HSJ.out.1.at j hjt
            subst hab
            have cN := HSJ.out.2.rd.2
            have hjd : decide ((j : Int) < (m : Int)) = true := by simpa using hjt
            have hk0 : (0 : Int) ≤ (j : Int) := by omega
            have hk1 : (j : Int) < (m : Int) := by omega
            have hne : (L1.getD j op0).a ≠ au := by
              have h1 := op_getD L1 j (by rw [← HMM.out]; exact hjt)
              have h2 : L1.getD j op0 ∈ L.filter fun x => !(x.a == au) := by rw [← HFL.out]; exact h1
              have := (List.mem_filter.1 h2).2
              simpa using this
            generalize L1.getD j op0 = E at c0 c1 c2' c3 c4 c5 c6 hne
            have hnb : (E.a == au) = false := by simpa using hne
            clear hne
            go_upto_region 18 with fail
            go_quiet (fail)
            go_wp2
            go_roundw
            case rel => exact ⟨j + 1, by go_num, by omega, HSJ.out.1.later (bel_drewK (Below.refl _ _) _), HSJ.out.2.low (bel_drewK (Below.refl _ _) _)⟩
            case measure => simp [RowKit.intOf]; omega
          · obtain rfl : j = m := by omega
            have hjd : decide ((j : Int) < (j : Int)) = false := by simp
            have hs0 : IntKind.i64.wrap ((n : Int) - (j : Int)) = (n : Int) - (j : Int) := by rw [IntKind.wrap_i64]; omega
            have hs1 : IntKind.i64.wrap ((j : Int) + ((n : Int) - (j : Int))) = (n : Int) := by rw [IntKind.wrap_i64]; omega
            have hs2 : wrap64 ((j : Int) + ((n : Int) - (j : Int))) = (n : Int) := by unfold wrap64; omega
            have HS8 : Hid (DrS w wr P 40 N au L1 (.slice a2 n c2) n L) := HSJ.out.2
            clear HSJ
            go_upto_region 23 with fail
            go_loopw [13] (fun x13 wr => ∃ k : Nat, x13 = .int .i64 (k : Int) ∧ k ≤ n ∧ DrS w wr P 40 N au L1 (.slice a2 n c2) n L) (fun x13 _ => 40 - (RowKit.intOf x13).toNat)
            case atStart => exact ⟨0, rfl, by omega, HS8.out⟩
            case round =>
              obtain ⟨k, h13, hkn, hsk⟩ := hrel
              subst h13
              have HSK : Hid (DrS w wr P 40 N au L1 (.slice a2 n c2) n L) := hsk
              clear hsk HS8
              by_cases hkt : k < n
              · obtain ⟨b1, o1, hab, -⟩ := HSK.out.rd.1.at k hkt
                subst hab
                have hkd : decide ((k : Int) < (n : Int)) = true := by simpa using hkt
                obtain ⟨p, hp⟩ : ∃ p, p = L.getD k op0 := ⟨_, rfl⟩
                have HXC : Hid (∀ V, DrS w V P 40 N au L1 (.slice (some ⟨b1, o1, none⟩) n c2) n L → (V.cell? ⟨b1, o1 + k * 7, none⟩ = some (.int .i64 p.c) ∧ V.cell? ⟨b1, o1 + k * 7 + 1, none⟩ = some (.int .i64 p.a) ∧ V.cell? ⟨b1, o1 + k * 7 + 2, none⟩ = some (.int .i64 p.s) ∧ V.cell? ⟨b1, o1 + k * 7 + 3, none⟩ = some (.bool p.ins) ∧ V.cell? ⟨b1, o1 + k * 7 + 4, none⟩ = some (.int .i64 p.rc) ∧ V.cell? ⟨b1, o1 + k * 7 + 5, none⟩ = some (.int .i64 p.ra) ∧ V.cell? ⟨b1, o1 + k * 7 + 6, none⟩ = some (.int .i32 p.ch)) ∧ V.cell? ⟨N, 0, none⟩ = some (.int .i64 au)) := fun V hV => by
                  obtain ⟨b9, o9, h9, c9⟩ := hV.rd.1.at k hkt
                  cases h9
                  rw [hp]
                  exact ⟨c9, hV.rd.2⟩
                obtain ⟨z, hz⟩ : ∃ z, z = !(p.a == au) := ⟨_, rfl⟩
                have hzz : (p.a != au) = z := by rw [hz]; rfl
                have HHP : Hid (∀ V, DrS w V P 40 N au L1 (.slice (some ⟨b1, o1, none⟩) n c2) n L → Calls Try.prog 18 #[.pointer (some ⟨P, 0, none⟩), .int .i64 p.a, .int .i64 p.s] V fun e w' => e = .returned (.bool z) ∧ DrS w w' P 40 N au L1 (.slice (some ⟨b1, o1, none⟩) n c2) n L) := fun V hV => by
                  have h1 := d_has hV p.a p.s
                  have h2 := has_left HAA.out au (x := p) (by rw [hp]; exact op_getD L k (by rw [← HNL.out]; exact hkt))
                  rw [← HFL.out, ← hz] at h2
                  rw [h2] at h1
                  exact h1
                have HSK1 : Hid (DrS w wr.drew P 40 N au L1 (.slice (some ⟨b1, o1, none⟩) n c2) n L) := HSK.out.low (Below.refl _ _).drew
                clear hp hz HSK
                obtain ⟨pc, pa, ps, pi, prc, pra, pch⟩ := p
                simp only at HXC HHP hzz
                have HXX : Hid (type_of% HXC.out) := HXC.out
                have HHZ : Hid (type_of% HHP.out) := HHP.out
                clear HXC HHP
                go_upto_region 25 with fail
                refine wp_region_noPanic ?_
                refine wp_region_held_drew (S := (fun w' => (w'.cell? ⟨b1, o1 + k * 7, none⟩ = some (.int .i64 pc) ∧ w'.cell? ⟨b1, o1 + k * 7 + 1, none⟩ = some (.int .i64 pa) ∧ w'.cell? ⟨b1, o1 + k * 7 + 2, none⟩ = some (.int .i64 ps) ∧ w'.cell? ⟨b1, o1 + k * 7 + 3, none⟩ = some (.bool pi) ∧ w'.cell? ⟨b1, o1 + k * 7 + 4, none⟩ = some (.int .i64 prc) ∧ w'.cell? ⟨b1, o1 + k * 7 + 5, none⟩ = some (.int .i64 pra) ∧ w'.cell? ⟨b1, o1 + k * 7 + 6, none⟩ = some (.int .i32 pch)) ∧ w'.cell? ⟨N, 0, none⟩ = some (.int .i64 au))) (by kernel_rfl) (HXX.out _ HSK1.out) (fun hHeld => ?_)
                refine wpAnyH_take (i := 0) (v := ?_) rfl (by kernel_rfl) (by kernel_rfl) (by kernel_rfl) (fun _ _ _ h => h) (Or.inl ⟨by rfl, ?_⟩) (by assumption) ?_
                rotate_left
                · intro W' hSw; obtain ⟨⟨s0, s1, s2, s3, s4, s5, s6⟩, s7⟩ := hSw; go_simp; try with_reducible rfl
                try simp only [Act.put, List.getElem_toArray, List.getElem_cons_succ, List.getElem_cons_zero, List.setIfInBounds_toArray, List.set_cons_zero, List.set_cons_succ]
                refine wpAnyH_take (i := 1) (v := ?_) rfl (by kernel_rfl) (by kernel_rfl) (by kernel_rfl) (fun _ _ _ h => h) (Or.inl ⟨by rfl, ?_⟩) (by assumption) ?_
                rotate_left
                · intro W' hSw; obtain ⟨⟨s0, s1, s2, s3, s4, s5, s6⟩, s7⟩ := hSw; go_simp; try with_reducible rfl
                try simp only [Act.put, List.getElem_toArray, List.getElem_cons_succ, List.getElem_cons_zero, List.setIfInBounds_toArray, List.set_cons_zero, List.set_cons_succ]
                refine wpAnyH_take (i := 2) (v := ?_) rfl (by kernel_rfl) (by kernel_rfl) (by kernel_rfl) (fun _ _ _ h => h) (Or.inl ⟨by rfl, ?_⟩) (by assumption) ?_
                rotate_left
                · intro W' hSw; obtain ⟨⟨s0, s1, s2, s3, s4, s5, s6⟩, s7⟩ := hSw; go_simp; try with_reducible rfl
                try simp only [Act.put, List.getElem_toArray, List.getElem_cons_succ, List.getElem_cons_zero, List.setIfInBounds_toArray, List.set_cons_zero, List.set_cons_succ]
                refine wpAnyH_take (i := 3) (v := ?_) rfl (by kernel_rfl) (by kernel_rfl) (by kernel_rfl) (fun _ _ _ h => h) (Or.inl ⟨by rfl, ?_⟩) (by assumption) ?_
                rotate_left
                · intro W' hSw; obtain ⟨⟨s0, s1, s2, s3, s4, s5, s6⟩, s7⟩ := hSw; go_simp; try with_reducible rfl
                try simp only [Act.put, List.getElem_toArray, List.getElem_cons_succ, List.getElem_cons_zero, List.setIfInBounds_toArray, List.set_cons_zero, List.set_cons_succ]
                refine wpAnyH_take (i := 4) (v := ?_) rfl (by kernel_rfl) (by kernel_rfl) (by kernel_rfl) (fun _ _ _ h => h) (Or.inl ⟨by rfl, ?_⟩) (by assumption) ?_
                rotate_left
                · intro W' hSw; obtain ⟨⟨s0, s1, s2, s3, s4, s5, s6⟩, s7⟩ := hSw; go_simp; try with_reducible rfl
                try simp only [Act.put, List.getElem_toArray, List.getElem_cons_succ, List.getElem_cons_zero, List.setIfInBounds_toArray, List.set_cons_zero, List.set_cons_succ]
                refine wpAnyH_take (i := 5) (v := ?_) rfl (by kernel_rfl) (by kernel_rfl) (by kernel_rfl) (fun _ _ _ h => h) (Or.inl ⟨by rfl, ?_⟩) (by assumption) ?_
                rotate_left
                · intro W' hSw; obtain ⟨⟨s0, s1, s2, s3, s4, s5, s6⟩, s7⟩ := hSw; go_simp; try with_reducible rfl
                try simp only [Act.put, List.getElem_toArray, List.getElem_cons_succ, List.getElem_cons_zero, List.setIfInBounds_toArray, List.set_cons_zero, List.set_cons_succ]
                refine wpAnyH_take (i := 6) (v := ?_) rfl (by kernel_rfl) (by kernel_rfl) (by kernel_rfl) (fun _ _ _ h => h) (Or.inl ⟨by rfl, ?_⟩) (by assumption) ?_
                rotate_left
                · intro W' hSw; obtain ⟨⟨s0, s1, s2, s3, s4, s5, s6⟩, s7⟩ := hSw; go_simp; try with_reducible rfl
                try simp only [Act.put, List.getElem_toArray, List.getElem_cons_succ, List.getElem_cons_zero, List.setIfInBounds_toArray, List.set_cons_zero, List.set_cons_succ]
                refine wpAnyH_take (i := 7) (v := ?_) rfl (by kernel_rfl) (by kernel_rfl) (by kernel_rfl) (fun _ _ _ h => h) (Or.inl ⟨by rfl, ?_⟩) (by assumption) ?_
                rotate_left
                · intro W' hSw; obtain ⟨⟨s0, s1, s2, s3, s4, s5, s6⟩, s7⟩ := hSw; go_simp; try with_reducible rfl
                try simp only [Act.put, List.getElem_toArray, List.getElem_cons_succ, List.getElem_cons_zero, List.setIfInBounds_toArray, List.set_cons_zero, List.set_cons_succ]
                refine wpAnyH_take (i := 8) (v := ?_) rfl (by kernel_rfl) (by kernel_rfl) (by kernel_rfl) (fun _ _ _ h => h) (Or.inl ⟨by rfl, ?_⟩) (by assumption) ?_
                rotate_left
                · intro W' hSw; obtain ⟨⟨s0, s1, s2, s3, s4, s5, s6⟩, s7⟩ := hSw; go_simp; try with_reducible rfl
                try simp only [Act.put, List.getElem_toArray, List.getElem_cons_succ, List.getElem_cons_zero, List.setIfInBounds_toArray, List.set_cons_zero, List.set_cons_succ]
                refine wpAnyH_take (i := 9) (v := ?_) rfl (by kernel_rfl) (by kernel_rfl) (by kernel_rfl) (fun _ _ _ h => h) (Or.inl ⟨by rfl, ?_⟩) (by assumption) ?_
                rotate_left
                · intro W' hSw; obtain ⟨⟨s0, s1, s2, s3, s4, s5, s6⟩, s7⟩ := hSw; go_simp; try with_reducible rfl
                try simp only [Act.put, List.getElem_toArray, List.getElem_cons_succ, List.getElem_cons_zero, List.setIfInBounds_toArray, List.set_cons_zero, List.set_cons_succ]
                refine wpAnyH_take (i := 10) (v := ?_) rfl (by kernel_rfl) (by kernel_rfl) (by kernel_rfl) (fun _ _ _ h => h) (Or.inl ⟨by rfl, ?_⟩) (by assumption) ?_
                rotate_left
                · intro W' hSw; obtain ⟨⟨s0, s1, s2, s3, s4, s5, s6⟩, s7⟩ := hSw; go_simp; try with_reducible rfl
                try simp only [Act.put, List.getElem_toArray, List.getElem_cons_succ, List.getElem_cons_zero, List.setIfInBounds_toArray, List.set_cons_zero, List.set_cons_succ]
                refine wpAnyH_take (i := 11) (v := ?_) rfl (by kernel_rfl) (by kernel_rfl) (by kernel_rfl) (fun _ _ _ h => h) (Or.inl ⟨by rfl, ?_⟩) (by assumption) ?_
                rotate_left
                · intro W' hSw; obtain ⟨⟨s0, s1, s2, s3, s4, s5, s6⟩, s7⟩ := hSw; go_simp; try with_reducible rfl
                try simp only [Act.put, List.getElem_toArray, List.getElem_cons_succ, List.getElem_cons_zero, List.setIfInBounds_toArray, List.set_cons_zero, List.set_cons_succ]
                refine wpAnyH_take (i := 13) (v := ?_) rfl (by kernel_rfl) (by kernel_rfl) (by kernel_rfl) (fun _ _ _ h => h) (Or.inl ⟨by rfl, ?_⟩) (by assumption) ?_
                rotate_left
                · intro W' hSw; obtain ⟨⟨s0, s1, s2, s3, s4, s5, s6⟩, s7⟩ := hSw; go_simp; try with_reducible rfl
                try simp only [Act.put, List.getElem_toArray, List.getElem_cons_succ, List.getElem_cons_zero, List.setIfInBounds_toArray, List.set_cons_zero, List.set_cons_succ]
                refine wpAnyH_take (i := 14) (v := ?_) rfl (by kernel_rfl) (by kernel_rfl) (by kernel_rfl) (fun _ _ _ h => h) (Or.inl ⟨by rfl, ?_⟩) (by assumption) ?_
                rotate_left
                · intro W' hSw; obtain ⟨⟨s0, s1, s2, s3, s4, s5, s6⟩, s7⟩ := hSw; go_simp; try with_reducible rfl
                try simp only [Act.put, List.getElem_toArray, List.getElem_cons_succ, List.getElem_cons_zero, List.setIfInBounds_toArray, List.set_cons_zero, List.set_cons_succ]
                refine wpAnyH_take (i := 15) (v := ?_) rfl (by kernel_rfl) (by kernel_rfl) (by kernel_rfl) (fun _ _ _ h => h) (Or.inl ⟨by rfl, ?_⟩) (by assumption) ?_
                rotate_left
                · intro W' hSw; obtain ⟨⟨s0, s1, s2, s3, s4, s5, s6⟩, s7⟩ := hSw; go_simp; try with_reducible rfl
                try simp only [Act.put, List.getElem_toArray, List.getElem_cons_succ, List.getElem_cons_zero, List.setIfInBounds_toArray, List.set_cons_zero, List.set_cons_succ]
                refine wpAnyH_take (i := 16) (v := ?_) rfl (by kernel_rfl) (by kernel_rfl) (by kernel_rfl) (fun _ _ _ h => h) (Or.inl ⟨by rfl, ?_⟩) (by assumption) ?_
                rotate_left
                · intro W' hSw; obtain ⟨⟨s0, s1, s2, s3, s4, s5, s6⟩, s7⟩ := hSw; go_simp; try with_reducible rfl
                try simp only [Act.put, List.getElem_toArray, List.getElem_cons_succ, List.getElem_cons_zero, List.setIfInBounds_toArray, List.set_cons_zero, List.set_cons_succ]
                refine wpAnyH_take (i := 17) (v := ?_) rfl (by kernel_rfl) (by kernel_rfl) (by kernel_rfl) (fun _ _ _ h => h) (Or.inl ⟨by rfl, ?_⟩) (by assumption) ?_
                rotate_left
                · intro W' hSw; obtain ⟨⟨s0, s1, s2, s3, s4, s5, s6⟩, s7⟩ := hSw; go_simp; try with_reducible rfl
                try simp only [Act.put, List.getElem_toArray, List.getElem_cons_succ, List.getElem_cons_zero, List.setIfInBounds_toArray, List.set_cons_zero, List.set_cons_succ]
                refine wpAnyH_take (i := 18) (v := ?_) rfl (by kernel_rfl) (by kernel_rfl) (by kernel_rfl) (fun _ _ _ h => h) (Or.inl ⟨by rfl, ?_⟩) (by assumption) ?_
                rotate_left
                · intro W' hSw; obtain ⟨⟨s0, s1, s2, s3, s4, s5, s6⟩, s7⟩ := hSw; go_simp; try with_reducible rfl
                try simp only [Act.put, List.getElem_toArray, List.getElem_cons_succ, List.getElem_cons_zero, List.setIfInBounds_toArray, List.set_cons_zero, List.set_cons_succ]
                refine wpAnyH_take (i := 19) (v := ?_) rfl (by kernel_rfl) (by kernel_rfl) (by kernel_rfl) (fun _ _ _ h => h) (Or.inl ⟨by rfl, ?_⟩) (by assumption) ?_
                rotate_left
                · intro W' hSw; obtain ⟨⟨s0, s1, s2, s3, s4, s5, s6⟩, s7⟩ := hSw; go_simp; try with_reducible rfl
                try simp only [Act.put, List.getElem_toArray, List.getElem_cons_succ, List.getElem_cons_zero, List.setIfInBounds_toArray, List.set_cons_zero, List.set_cons_succ]
                refine wpAnyH_take (i := 20) (v := ?_) rfl (by kernel_rfl) (by kernel_rfl) (by kernel_rfl) (fun _ _ _ h => h) (Or.inl ⟨by rfl, ?_⟩) (by assumption) ?_
                rotate_left
                · intro W' hSw; obtain ⟨⟨s0, s1, s2, s3, s4, s5, s6⟩, s7⟩ := hSw; go_simp; try with_reducible rfl
                try simp only [Act.put, List.getElem_toArray, List.getElem_cons_succ, List.getElem_cons_zero, List.setIfInBounds_toArray, List.set_cons_zero, List.set_cons_succ]
                refine wpAnyH_ready (rs := [12]) (by kernel_rfl) (by simp) ?_
                refine AllReadyH.cons rfl (fun KK hK => ?_) AllReadyH.nil
                go_simp
                refine (HHZ.out _ HSK1.out).mono ?_
                rintro e w9 ⟨rfl, h3⟩
                have HS9 : Hid (DrS w w9 P 40 N au L1 (.slice (some ⟨b1, o1, none⟩) n c2) n L) := h3
                clear h3
                refine hK.out _ _ (HXX.out _ HS9.out) (fun hHeld => ?_)
                clear hK KK
                try simp only [Act.put, List.getElem_toArray, List.getElem_cons_succ, List.getElem_cons_zero, List.setIfInBounds_toArray, List.set_cons_zero, List.set_cons_succ]
                refine wpAnyH_take (i := 21) (v := ?_) rfl (by kernel_rfl) (by kernel_rfl) (by kernel_rfl) (fun _ _ _ h => h) (Or.inl ⟨by rfl, ?_⟩) (by assumption) ?_
                rotate_left
                · intro W' hSw; obtain ⟨⟨s0, s1, s2, s3, s4, s5, s6⟩, s7⟩ := hSw; go_simp; try with_reducible rfl
                try simp only [Act.put, List.getElem_toArray, List.getElem_cons_succ, List.getElem_cons_zero, List.setIfInBounds_toArray, List.set_cons_zero, List.set_cons_succ]
                refine wpAnyH_done (by kernel_rfl) ?_ _
                refine NoPanic.normal ?_
                clear hHeld
                go_wp2
                go_roundw
                case rel => exact ⟨k + 1, by go_num, by omega, HS9.out⟩
                case measure => simp [RowKit.intOf]; omega
              · obtain rfl : k = n := by omega
                have hkd : decide ((k : Int) < (k : Int)) = false := by simp
                go_upto_region 28 with fail
                have hin4 : ∀ x ∈ L1, x ∈ L := fun x hx => by rw [HFL.out] at hx; exact (List.mem_filter.1 hx).1
                have HIN : Hid (AscK L1 ∧ ∀ x ∈ L1, x ∈ L) := ⟨HSK.out.len.2.2, hin4⟩
                clear hin4
                go_loopw [14] (fun x14 wr => ∃ (t : Nat) (A : List Opn), x14 = .int .i64 (t : Int) ∧ t ≤ k ∧ AscK A ∧ (∀ x ∈ A, x ∈ L) ∧ (∀ j, j < t → L.getD j op0 ∈ A) ∧ DrS w wr P 40 N au A (.slice a2 k c2) k L) (fun x14 _ => 40 - (RowKit.intOf x14).toNat)
                case atStart => exact ⟨0, L1, rfl, by omega, HIN.out.1, HIN.out.2, fun j hj => absurd hj (by omega), HSK.out⟩
                case round =>
                  obtain ⟨t, A, h14, htk, hAA, hAL, hAt, hst⟩ := hrel
                  subst h14
                  have HST : Hid (AscK A ∧ (∀ x ∈ A, x ∈ L) ∧ (∀ j, j < t → L.getD j op0 ∈ A) ∧ DrS w wr P 40 N au A (.slice a2 k c2) k L) := ⟨hAA, hAL, hAt, hst⟩
                  clear hAA hAL hAt hst HSK HIN
                  by_cases htt : t < k
                  · obtain ⟨b1, o1, hab, c0, c1, c2', c3, c4, c5, c6⟩ := HST.out.2.2.2.rd.1.at t htt
                    subst hab
                    have htd : decide ((t : Int) < (k : Int)) = true := by simpa using htt
                    obtain ⟨p, hp⟩ : ∃ p, p = L.getD t op0 := ⟨_, rfl⟩
                    rw [← hp] at c0 c1 c2' c3 c4 c5 c6
                    have HADD : Hid (Calls Try.prog 20 #[.pointer (some ⟨P, 0, none⟩), p.val] wr fun e w' => e = .returned (.int .i64 0) ∧ ∃ A2, AscK A2 ∧ (∀ x ∈ A2, x ∈ L) ∧ (∀ j, j < t + 1 → L.getD j op0 ∈ A2) ∧ DrS w w' P 40 N au A2 (.slice (some ⟨b1, o1, none⟩) k c2) k L) := by
                      obtain ⟨q1, q2, q3, q4⟩ := HST.out
                      have hx : p ∈ L := by rw [hp]; exact op_getD L t (by rw [← HNL.out]; exact htt)
                      obtain ⟨z1, z2, z3, z4, z5, z6⟩ := add_back (r := 40) q1 HAA.out q2 hx HLN.out
                      refine (d_add q4 p (by have := q4.len; omega)).mono ?_
                      rintro e w' ⟨rfl, q⟩
                      refine ⟨by rw [z5], _, z1, z2, fun j hj => ?_, q⟩
                      rcases Nat.lt_or_ge j t with h | h
                      · exact z4 _ (q3 j h)
                      · rw [show j = t by omega, ← hp]; exact z3
                    clear hp HST
                    obtain ⟨pc, pa, ps, pi, prc, pra, pch⟩ := p
                    simp only [Opn.val] at HADD c0 c1 c2' c3 c4 c5 c6
                    go_wp2_with (go_at_call 20; refine HADD.out.mono ?_; rintro e w3 ⟨rfl, h3⟩; have HS3 : Hid (∃ A2, AscK A2 ∧ (∀ x ∈ A2, x ∈ L) ∧ (∀ j, j < t + 1 → L.getD j op0 ∈ A2) ∧ DrS w w3 P 40 N au A2 (.slice (some ⟨b1, o1, none⟩) k c2) k L) := h3; clear h3)
                    go_roundw
                    case rel =>
                      obtain ⟨A2, e1, e2, e3, e4⟩ := HS3.out
                      exact ⟨t + 1, A2, by go_num, by omega, e1, e2, e3, e4⟩
                    case measure => simp [RowKit.intOf]; omega
                  · obtain rfl : t = k := by omega
                    have htd : decide ((t : Int) < (t : Int)) = false := by simp
                    have HSF : Hid (DrS w wr P 40 N au L (.slice a2 t c2) t L) := by
                      obtain ⟨q1, q2, q3, q4⟩ := HST.out
                      have : A = L := asc_ext A L q1 HAA.out fun x => ⟨q2 x, fun hx => by
                        obtain ⟨j, hj, rfl⟩ := List.mem_iff_getElem.1 hx
                        have := q3 j (by rw [HNL.out]; exact hj)
                        simpa [hj] using this⟩
                      rw [this] at q4
                      exact q4
                    clear HST
                    go_wp2_with (first
                      | (go_at_call 22; refine (d_all HSF.out).mono ?_; rintro e w9 ⟨b9, c9, rfl, h1, h2, -⟩; have HS9 : Hid (RdP w9 b9 L.length L ∧ DrS w w9 P 40 N au L (.slice a2 t c2) t L) := ⟨h1, h2⟩; clear h1 h2)
                      | (go_at_call 23; refine (d_same HS9.out.2 L _ HS9.out.1 (by have := HS9.out.2.len; omega) true (by simp)).mono ?_; rintro e w10 ⟨rfl, h1⟩; have HS10 : Hid (DrS w w10 P 40 N au L (.slice a2 t c2) t L) := h1; clear h1))
                    go_ret
                    exact ⟨rfl, HS10.out.below⟩
end Go.Proofs.Ytcmgmoacpkikdaa
