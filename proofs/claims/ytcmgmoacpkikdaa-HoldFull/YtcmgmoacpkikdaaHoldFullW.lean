/- The walk of HoldFull: who is full takes nothing but what it has, and has room again for as many as went. -/
import Derived.Test.YtcmgmoacpkikdaaHoldDropsR
namespace Go.Proofs.Ytcmgmoacpkikdaa
open Go.RowKit Go.Sort
set_option linter.unusedVariables false
set_option linter.unusedSimpArgs false

/-- Two parts of a row. -/
theorem filter_two (l : List Opn) (Q : Opn → Bool) : (l.filter Q).length + (l.filter fun x => !Q x).length = l.length := by
  induction l with
  | nil => rfl
  | cons x l ih =>
    cases h : Q x
    · rw [List.filter_cons_of_neg (by simp [h]), List.filter_cons_of_pos (by simp [h])]
      simp only [List.length_cons]
      omega
    · rw [List.filter_cons_of_pos h, List.filter_cons_of_neg (by simp [h])]
      simp only [List.length_cons]
      omega
theorem DrS.lose {w V : World} {P r N : Nat} {au : Int} {l L : List Opn} {wv : Value} {n : Nat} (h : DrS w V P r N au l wv n L) : DrS w V P r N au l (.slice none 0 0) 0 [] :=
  ⟨h.1.more (Below.refl _ _) (fun k hk => .inl (by
    rcases hk with hk | hk
    · exact .inl hk
    · cases hk)), h.2.1, World.ownsRow_nil _ _ _ _⟩
theorem keptK_more (l : List Opn) (Q : Opn → Bool) (k : Nat) (h : k < l.length) : (keptK l Q (k + 1)).length = (keptK l Q k).length + (if Q (l.getD k op0) = true then 1 else 0) := by
  rw [keptK_snoc l Q k h, List.length_append]
  split <;> rfl
set_option maxRecDepth 100000 in
set_option maxHeartbeats 16000000 in
theorem holdFull_walk (room : Int) (xs : List Opn) (a : Option Addr) (len cap : Nat) (nn : Int) (w : World) (lo0 : -9223372036854775808 ≤ room) (hi0 : room ≤ 9223372036854775807) (hrd : RdP w a len xs) (lo : -9223372036854775808 ≤ nn) (hi : nn ≤ 9223372036854775807) :
    Calls Try.prog 5 #[.int .i64 room, .slice a len cap, .int .i64 nn] w fun e w' => e = .returned (.bool true) ∧ Below w.heap.size w w' := by
  have mixed : Try.prog.follows .mixedOrders = true := by kernel_rfl
  obtain ⟨r, hr⟩ : ∃ r : Nat, bits .and .i64 room 65535 = (r : Int) := ⟨(room % 2 ^ 16).toNat, by rw [and_low room 65535 16 (by omega) (by decide)]; omega⟩
  obtain ⟨R, hR⟩ : ∃ R, R = r % 31 := ⟨_, rfl⟩
  have hR31 : R ≤ 30 := by omega
  have q1 : (r : Int).tmod 31 = (R : Int) := by rw [Int.tmod_eq_emod_of_nonneg (by omega)]; omega
  have q2 : (r : Int) % 31 = (R : Int) := by omega
  have HX : Hid (∀ w', Below w.heap.size w w' → RdP w' a len xs) := fun w' h => hrd.later h
  obtain ⟨W0, hW0⟩ : ∃ W0, W0 = w.alloc (bxI nn) := ⟨_, rfl⟩
  obtain ⟨N, hN⟩ : ∃ N, N = w.heap.size := ⟨_, rfl⟩
  have hb0 : Below w.heap.size w W0 := by rw [hW0]; exact (Below.refl _ w).alloc (Nat.le_refl _) _
  have hx0 : W0.heap[N]? = some (bxI nn) := by rw [hW0, hN]; exact heap_alloc_new w _
  have HSH : Hid (Calls Try.prog 9 #[] W0 fun e w' => e = .returned (.bool true) ∧ Below w.heap.size w w' ∧ w'.heap[N]? = some (bxI nn)) := (shown16_any W0).mono (by
    rintro e w' ⟨rfl, hb⟩
    exact ⟨rfl, hb0.trans (hb.mono hb0.size), bel_heap hb hx0⟩)
  have HNW : Hid (∀ w1, Below w.heap.size w w1 ∧ w1.heap[N]? = some (bxI nn) → Calls Try.prog 10 #[.int .i64 (R : Int)] w1 fun e w' => ∃ P, e = .returned (.pointer (some ⟨P, 0, none⟩)) ∧ DrS w w' P R N nn [] (.slice none 0 0) 0 []) := fun w1 hb => (h_new hb.1 (R : Int) (by omega) (fun k => k = N ∨ (Value.slice none 0 0).ownBlock = some k) (fun k h => by
      rcases h with rfl | h
      · exact (Array.getElem?_eq_some_iff.1 hb.2).1
      · cases h)).mono (by
    rintro e w' ⟨P, rfl, q, hb2, _⟩
    exact ⟨P, rfl, q, bel_heap hb2 hb.2, World.ownsRow_nil _ _ _ _⟩)
  clear hrd hb0 hx0 lo hi lo0 hi0 hR
  go_enter Try.func5, Try.ntmps5
  go_upto_region 1 with fail
  rw [← hN, ← hW0]
  clear hN hW0
  go_upto_region 6 with (first
    | (go_at_call 9; refine HSH.out.mono ?_; rintro e w1 ⟨rfl, hb⟩; have HB1 : Hid (Below w.heap.size w w1 ∧ w1.heap[N]? = some (bxI nn)) := hb; clear hb)
    | (go_at_call 10; refine (HNW.out _ HB1.out).mono ?_; rintro e w2 ⟨P, rfl, hs⟩; have HS0 : Hid (DrS w w2 P R N nn [] (.slice none 0 0) 0 []) := hs; clear hs))
  clear HSH HNW HB1 hr q1 q2
  have HLE : Hid (∀ V l wv n L, DrS w V P R N nn l wv n L → Calls Try.prog 25 #[.pointer (some ⟨P, 0, none⟩)] V fun e w' => e = .returned (.int .i64 (l.length : Int)) ∧ w' = V) := fun V l wv n L h => h_len h.1
  have HRO : Hid (∀ V l wv n L, DrS w V P R N nn l wv n L → Calls Try.prog 26 #[.pointer (some ⟨P, 0, none⟩)] V fun e w' => e = .returned (.int .i64 ((R : Int) - (l.length : Int))) ∧ w' = V.drew) := fun V l wv n L h => h_room h.1
  go_wp2
  go_loopw [9] (fun x9 wr => ∃ (t : Nat) (l : List Opn), x9 = .int .i64 (t : Int) ∧ t ≤ 2 ∧ DrS w wr P R N nn l (.slice none 0 0) 0 []) (fun x9 _ => 2 - (RowKit.intOf x9).toNat)
  case atStart => exact ⟨0, [], rfl, by omega, HS0.out⟩
  case round =>
    obtain ⟨t, l0, h9, ht2, hs⟩ := hrel
    subst h9
    have HS : Hid (DrS w wr P R N nn l0 (.slice none 0 0) 0 []) := hs
    clear hs HS0
    by_cases htt : t < 2
    · have htd : decide ((t : Int) < 2) = true := decide_eq_true (by omega)
      go_upto_region 10 with fail
      go_loopw [10] (fun x10 wr => ∃ (i : Nat) (l : List Opn), x10 = .int .i64 (i : Int) ∧ i ≤ len ∧ i ≤ 60 ∧ DrS w wr P R N nn l (.slice none 0 0) 0 []) (fun x10 _ => 60 - (RowKit.intOf x10).toNat)
      case atStart => exact ⟨0, l0, rfl, by omega, by omega, HS.out⟩
      case round =>
        obtain ⟨i, l, h10, hil, hi60, hs⟩ := hrel
        subst h10
        have HSB : Hid (DrS w wr P R N nn l (.slice none 0 0) 0 []) := hs
        clear hs HS
        by_cases hlt : i < len ∧ i < 60
        · obtain ⟨hlt, h60⟩ := hlt
          have hd1 : decide ((i : Int) < (len : Int)) = true := by simpa using hlt
          have hd2 : decide ((i : Int) < 60) = true := decide_eq_true (by omega)
          obtain ⟨b1, o1, hab, -⟩ := (HX.out wr HSB.out.below).at i hlt
          subst hab
          obtain ⟨p, hp⟩ : ∃ p, p = xs.getD i op0 := ⟨_, rfl⟩
          have HXC : Hid (∀ V, Below w.heap.size w V → V.cell? ⟨b1, o1 + i * 7, none⟩ = some (.int .i64 p.c) ∧ V.cell? ⟨b1, o1 + i * 7 + 1, none⟩ = some (.int .i64 p.a) ∧ V.cell? ⟨b1, o1 + i * 7 + 2, none⟩ = some (.int .i64 p.s) ∧ V.cell? ⟨b1, o1 + i * 7 + 3, none⟩ = some (.bool p.ins) ∧ V.cell? ⟨b1, o1 + i * 7 + 4, none⟩ = some (.int .i64 p.rc) ∧ V.cell? ⟨b1, o1 + i * 7 + 5, none⟩ = some (.int .i64 p.ra) ∧ V.cell? ⟨b1, o1 + i * 7 + 6, none⟩ = some (.int .i32 p.ch)) := fun V hV => by
            obtain ⟨b9, o9, h9, c9⟩ := (HX.out V hV).at i hlt
            cases h9
            rw [hp]
            exact c9
          obtain ⟨q, hq⟩ : ∃ q, q = l.length := ⟨_, rfl⟩
          have hqr : q ≤ R := by have := HSB.out.len.1; omega
          have HLE1 : Hid (Calls Try.prog 25 #[.pointer (some ⟨P, 0, none⟩)] wr fun e w' => e = .returned (.int .i64 (q : Int)) ∧ w' = wr) := by rw [hq]; exact HLE.out wr l _ _ _ HSB.out
          obtain ⟨z, hz⟩ : ∃ z, z = hasK l p.a p.s := ⟨_, rfl⟩
          have HHP : Hid (∀ V, DrS w V P R N nn l (.slice none 0 0) 0 [] → Calls Try.prog 18 #[.pointer (some ⟨P, 0, none⟩), .int .i64 p.a, .int .i64 p.s] V fun e w' => e = .returned (.bool z) ∧ DrS w w' P R N nn l (.slice none 0 0) 0 []) := fun V hV => by rw [hz]; exact d_has hV _ _
          obtain ⟨l2, hl2⟩ : ∃ l2, l2 = addK l R p := ⟨_, rfl⟩
          obtain ⟨E, hE⟩ : ∃ E, E = addE l R p := ⟨_, rfl⟩
          have HADp : Hid (∀ V, DrS w V P R N nn l (.slice none 0 0) 0 [] → Calls Try.prog 20 #[.pointer (some ⟨P, 0, none⟩), p.val] V fun e w' => e = .returned (.int .i64 E) ∧ DrS w w' P R N nn l2 (.slice none 0 0) 0 []) := fun V hV => by rw [hl2, hE]; exact d_add hV p (by have := hV.len; omega)
          have hcs : (z = true ∧ E = 0 ∧ l2.length = q) ∨ (z = false ∧ q < R ∧ E = 0 ∧ l2.length = q + 1) ∨ (z = false ∧ ¬ q < R ∧ E = 8 ∧ l2.length = q) := by
            cases hh : hasK l p.a p.s
            · rcases Nat.lt_or_ge l.length R with h1 | h1
              · obtain ⟨e1, e2⟩ := addK_new hh h1
                exact .inr (.inl ⟨by rw [hz, hh], by omega, by rw [hE, e2], by rw [hl2, e1, putK_len, hq]⟩)
              · obtain ⟨e1, e2⟩ := addK_full hh (Nat.not_lt.2 h1)
                exact .inr (.inr ⟨by rw [hz, hh], by omega, by rw [hE, e2], by rw [hl2, e1, hq]⟩)
            · obtain ⟨e1, e2⟩ := addK_has (r := R) hh
              exact .inl ⟨by rw [hz, hh], by rw [hE, e2], by rw [hl2, e1, hq]⟩
          have HSD : Hid (DrS w wr.drew P R N nn l (.slice none 0 0) 0 []) := HSB.out.low (Below.refl _ _).drew
          clear hz hl2 hE hq hp HX HSB
          obtain ⟨pc, pa, ps, pi, prc, pra, pch⟩ := p
          simp only [Opn.val] at HXC HHP HADp
          have HXX : Hid (type_of% HXC.out) := HXC.out
          have HHZ : Hid (type_of% HHP.out) := HHP.out
          have HAD : Hid (type_of% HADp.out) := HADp.out
          clear HXC HHP HADp
          obtain ⟨m, hm⟩ : ∃ m, m = l2.length := ⟨_, rfl⟩
          have HM : Hid (m = l2.length) := hm
          rw [← hm] at hcs
          clear hm
          rcases hcs with ⟨rfl, rfl, hm3⟩ | ⟨rfl, hqR, rfl, hm3⟩ | ⟨rfl, hqR, rfl, hm3⟩
          · have HM2 : Hid (q = l2.length) := by
              have := HM.out
              show q = l2.length
              omega
            clear hm3 HM
            have hs1 : IntKind.i64.wrap ((R : Int) - (q : Int)) = (R : Int) - (q : Int) := by rw [IntKind.wrap_i64]; omega
            have hs2 : wrap64 ((R : Int) - (q : Int)) = (R : Int) - (q : Int) := by unfold wrap64; omega
            go_upto_region 13 with (go_at_call 25; refine HLE1.out.mono ?_; rintro e w8 ⟨rfl, h1⟩; have h1 := h1.symm; subst h1)
            clear HLE1
            refine wp_region_noPanic ?_
            refine wp_region_held_drew (S := (fun w' => w'.cell? ⟨b1, o1 + i * 7, none⟩ = some (.int .i64 pc) ∧ w'.cell? ⟨b1, o1 + i * 7 + 1, none⟩ = some (.int .i64 pa) ∧ w'.cell? ⟨b1, o1 + i * 7 + 2, none⟩ = some (.int .i64 ps) ∧ w'.cell? ⟨b1, o1 + i * 7 + 3, none⟩ = some (.bool pi) ∧ w'.cell? ⟨b1, o1 + i * 7 + 4, none⟩ = some (.int .i64 prc) ∧ w'.cell? ⟨b1, o1 + i * 7 + 5, none⟩ = some (.int .i64 pra) ∧ w'.cell? ⟨b1, o1 + i * 7 + 6, none⟩ = some (.int .i32 pch))) (by kernel_rfl) (HXX.out _ HSD.out.below) (fun hHeld => ?_)
            refine wpAnyH_take (i := 0) (v := ?_) rfl (by kernel_rfl) (by kernel_rfl) (by kernel_rfl) (fun _ _ _ h => h) (Or.inl ⟨by rfl, ?_⟩) (by assumption) ?_
            rotate_left
            · intro W' hSw; obtain ⟨s0, s1, s2, s3, s4, s5, s6⟩ := hSw; go_simp; try with_reducible rfl
            try simp only [Act.put, List.getElem_toArray, List.getElem_cons_succ, List.getElem_cons_zero, List.setIfInBounds_toArray, List.set_cons_zero, List.set_cons_succ]
            refine wpAnyH_take (i := 1) (v := ?_) rfl (by kernel_rfl) (by kernel_rfl) (by kernel_rfl) (fun _ _ _ h => h) (Or.inl ⟨by rfl, ?_⟩) (by assumption) ?_
            rotate_left
            · intro W' hSw; obtain ⟨s0, s1, s2, s3, s4, s5, s6⟩ := hSw; go_simp; try with_reducible rfl
            try simp only [Act.put, List.getElem_toArray, List.getElem_cons_succ, List.getElem_cons_zero, List.setIfInBounds_toArray, List.set_cons_zero, List.set_cons_succ]
            refine wpAnyH_take (i := 2) (v := ?_) rfl (by kernel_rfl) (by kernel_rfl) (by kernel_rfl) (fun _ _ _ h => h) (Or.inl ⟨by rfl, ?_⟩) (by assumption) ?_
            rotate_left
            · intro W' hSw; obtain ⟨s0, s1, s2, s3, s4, s5, s6⟩ := hSw; go_simp; try with_reducible rfl
            try simp only [Act.put, List.getElem_toArray, List.getElem_cons_succ, List.getElem_cons_zero, List.setIfInBounds_toArray, List.set_cons_zero, List.set_cons_succ]
            refine wpAnyH_take (i := 3) (v := ?_) rfl (by kernel_rfl) (by kernel_rfl) (by kernel_rfl) (fun _ _ _ h => h) (Or.inl ⟨by rfl, ?_⟩) (by assumption) ?_
            rotate_left
            · intro W' hSw; obtain ⟨s0, s1, s2, s3, s4, s5, s6⟩ := hSw; go_simp; try with_reducible rfl
            try simp only [Act.put, List.getElem_toArray, List.getElem_cons_succ, List.getElem_cons_zero, List.setIfInBounds_toArray, List.set_cons_zero, List.set_cons_succ]
            refine wpAnyH_take (i := 4) (v := ?_) rfl (by kernel_rfl) (by kernel_rfl) (by kernel_rfl) (fun _ _ _ h => h) (Or.inl ⟨by rfl, ?_⟩) (by assumption) ?_
            rotate_left
            · intro W' hSw; obtain ⟨s0, s1, s2, s3, s4, s5, s6⟩ := hSw; go_simp; try with_reducible rfl
            try simp only [Act.put, List.getElem_toArray, List.getElem_cons_succ, List.getElem_cons_zero, List.setIfInBounds_toArray, List.set_cons_zero, List.set_cons_succ]
            refine wpAnyH_take (i := 5) (v := ?_) rfl (by kernel_rfl) (by kernel_rfl) (by kernel_rfl) (fun _ _ _ h => h) (Or.inl ⟨by rfl, ?_⟩) (by assumption) ?_
            rotate_left
            · intro W' hSw; obtain ⟨s0, s1, s2, s3, s4, s5, s6⟩ := hSw; go_simp; try with_reducible rfl
            try simp only [Act.put, List.getElem_toArray, List.getElem_cons_succ, List.getElem_cons_zero, List.setIfInBounds_toArray, List.set_cons_zero, List.set_cons_succ]
            refine wpAnyH_take (i := 6) (v := ?_) rfl (by kernel_rfl) (by kernel_rfl) (by kernel_rfl) (fun _ _ _ h => h) (Or.inl ⟨by rfl, ?_⟩) (by assumption) ?_
            rotate_left
            · intro W' hSw; obtain ⟨s0, s1, s2, s3, s4, s5, s6⟩ := hSw; go_simp; try with_reducible rfl
            try simp only [Act.put, List.getElem_toArray, List.getElem_cons_succ, List.getElem_cons_zero, List.setIfInBounds_toArray, List.set_cons_zero, List.set_cons_succ]
            refine wpAnyH_take (i := 7) (v := ?_) rfl (by kernel_rfl) (by kernel_rfl) (by kernel_rfl) (fun _ _ _ h => h) (Or.inl ⟨by rfl, ?_⟩) (by assumption) ?_
            rotate_left
            · intro W' hSw; obtain ⟨s0, s1, s2, s3, s4, s5, s6⟩ := hSw; go_simp; try with_reducible rfl
            try simp only [Act.put, List.getElem_toArray, List.getElem_cons_succ, List.getElem_cons_zero, List.setIfInBounds_toArray, List.set_cons_zero, List.set_cons_succ]
            refine wpAnyH_take (i := 8) (v := ?_) rfl (by kernel_rfl) (by kernel_rfl) (by kernel_rfl) (fun _ _ _ h => h) (Or.inl ⟨by rfl, ?_⟩) (by assumption) ?_
            rotate_left
            · intro W' hSw; obtain ⟨s0, s1, s2, s3, s4, s5, s6⟩ := hSw; go_simp; try with_reducible rfl
            try simp only [Act.put, List.getElem_toArray, List.getElem_cons_succ, List.getElem_cons_zero, List.setIfInBounds_toArray, List.set_cons_zero, List.set_cons_succ]
            refine wpAnyH_take (i := 9) (v := ?_) rfl (by kernel_rfl) (by kernel_rfl) (by kernel_rfl) (fun _ _ _ h => h) (Or.inl ⟨by rfl, ?_⟩) (by assumption) ?_
            rotate_left
            · intro W' hSw; obtain ⟨s0, s1, s2, s3, s4, s5, s6⟩ := hSw; go_simp; try with_reducible rfl
            try simp only [Act.put, List.getElem_toArray, List.getElem_cons_succ, List.getElem_cons_zero, List.setIfInBounds_toArray, List.set_cons_zero, List.set_cons_succ]
            refine wpAnyH_take (i := 10) (v := ?_) rfl (by kernel_rfl) (by kernel_rfl) (by kernel_rfl) (fun _ _ _ h => h) (Or.inl ⟨by rfl, ?_⟩) (by assumption) ?_
            rotate_left
            · intro W' hSw; obtain ⟨s0, s1, s2, s3, s4, s5, s6⟩ := hSw; go_simp; try with_reducible rfl
            try simp only [Act.put, List.getElem_toArray, List.getElem_cons_succ, List.getElem_cons_zero, List.setIfInBounds_toArray, List.set_cons_zero, List.set_cons_succ]
            refine wpAnyH_take (i := 11) (v := ?_) rfl (by kernel_rfl) (by kernel_rfl) (by kernel_rfl) (fun _ _ _ h => h) (Or.inl ⟨by rfl, ?_⟩) (by assumption) ?_
            rotate_left
            · intro W' hSw; obtain ⟨s0, s1, s2, s3, s4, s5, s6⟩ := hSw; go_simp; try with_reducible rfl
            try simp only [Act.put, List.getElem_toArray, List.getElem_cons_succ, List.getElem_cons_zero, List.setIfInBounds_toArray, List.set_cons_zero, List.set_cons_succ]
            refine wpAnyH_ready (rs := [12]) (by kernel_rfl) (by simp) ?_
            refine AllReadyH.cons rfl (fun KK hK => ?_) AllReadyH.nil
            go_simp
            refine (HHZ.out _ HSD.out).mono ?_
            rintro e w3 ⟨rfl, h3⟩
            have HS3 : Hid (DrS w w3 P R N nn l (.slice none 0 0) 0 []) := h3
            clear h3
            refine hK.out _ _ (HXX.out _ HS3.out.below) (fun hHeld => ?_)
            clear hK KK
            try simp only [Act.put, List.getElem_toArray, List.getElem_cons_succ, List.getElem_cons_zero, List.setIfInBounds_toArray, List.set_cons_zero, List.set_cons_succ]
            refine wpAnyH_take (i := 13) (v := ?_) rfl (by kernel_rfl) (by kernel_rfl) (by kernel_rfl) (fun _ _ _ h => h) (Or.inl ⟨by rfl, ?_⟩) (by assumption) ?_
            rotate_left
            · intro W' hSw; obtain ⟨s0, s1, s2, s3, s4, s5, s6⟩ := hSw; go_simp; try with_reducible rfl
            try simp only [Act.put, List.getElem_toArray, List.getElem_cons_succ, List.getElem_cons_zero, List.setIfInBounds_toArray, List.set_cons_zero, List.set_cons_succ]
            refine wpAnyH_done (by kernel_rfl) ?_ _
            refine NoPanic.normal ?_
            clear hHeld
            obtain ⟨c0, c1, c2, c3, c4, c5, c6⟩ := HXX.out w3 HS3.out.below
            go_upto_region 21 with (go_at_call 20; refine (HAD.out _ HS3.out).mono ?_; rintro e w4 ⟨rfl, h3⟩; have HS4 : Hid (DrS w w4 P R N nn l2 (.slice none 0 0) 0 []) := h3; clear h3)
            have HLE2 : Hid (Calls Try.prog 25 #[.pointer (some ⟨P, 0, none⟩)] w4 fun e w' => e = .returned (.int .i64 (q : Int)) ∧ w' = w4) := by
              have := HLE.out w4 l2 _ _ _ HS4.out
              rw [← HM2.out] at this
              exact this
            have HRO2 : Hid (Calls Try.prog 26 #[.pointer (some ⟨P, 0, none⟩)] w4 fun e w' => e = .returned (.int .i64 ((R : Int) - (q : Int))) ∧ w' = w4.drew) := by
              have := HRO.out w4 l2 _ _ _ HS4.out
              rw [← HM2.out] at this
              exact this
            go_wp2_with (first
              | (go_at_call 26; refine HRO2.out.mono ?_; rintro e w8 ⟨rfl, h1⟩; have h1 := h1.symm; subst h1)
              | (go_at_call 25; refine HLE2.out.mono ?_; rintro e w8 ⟨rfl, h1⟩; have h1 := h1.symm; subst h1))
            go_roundw
            case rel => exact ⟨i + 1, l2, by go_num, by omega, by omega, HS4.out.low (Below.refl _ _).drew⟩
            case measure => simp [RowKit.intOf]; omega
          · have hqd : decide ((q : Int) < (R : Int)) = true := by simpa using hqR
            have hqg : decide ((R : Int) ≤ (q : Int)) = false := by simp; omega
            have hqe : decide (R ≤ q) = false := by simp; omega
            have hw1 : IntKind.i64.wrap ((q : Int) + 1) = ((q + 1 : Nat) : Int) := by rw [IntKind.wrap_i64]; omega
            have hw2 : wrap64 ((q : Int) + 1) = ((q + 1 : Nat) : Int) := by unfold wrap64; omega
            have HM2 : Hid ((q + 1 : Nat) = l2.length) := by
              have := HM.out
              show (q + 1 : Nat) = l2.length
              omega
            clear hm3 HM
            have hs1 : IntKind.i64.wrap ((R : Int) - ((q + 1 : Nat) : Int)) = (R : Int) - ((q + 1 : Nat) : Int) := by rw [IntKind.wrap_i64]; omega
            have hs2 : wrap64 ((R : Int) - ((q + 1 : Nat) : Int)) = (R : Int) - ((q + 1 : Nat) : Int) := by unfold wrap64; omega
            go_upto_region 13 with (go_at_call 25; refine HLE1.out.mono ?_; rintro e w8 ⟨rfl, h1⟩; have h1 := h1.symm; subst h1)
            clear HLE1
            refine wp_region_noPanic ?_
            refine wp_region_held_drew (S := (fun w' => w'.cell? ⟨b1, o1 + i * 7, none⟩ = some (.int .i64 pc) ∧ w'.cell? ⟨b1, o1 + i * 7 + 1, none⟩ = some (.int .i64 pa) ∧ w'.cell? ⟨b1, o1 + i * 7 + 2, none⟩ = some (.int .i64 ps) ∧ w'.cell? ⟨b1, o1 + i * 7 + 3, none⟩ = some (.bool pi) ∧ w'.cell? ⟨b1, o1 + i * 7 + 4, none⟩ = some (.int .i64 prc) ∧ w'.cell? ⟨b1, o1 + i * 7 + 5, none⟩ = some (.int .i64 pra) ∧ w'.cell? ⟨b1, o1 + i * 7 + 6, none⟩ = some (.int .i32 pch))) (by kernel_rfl) (HXX.out _ HSD.out.below) (fun hHeld => ?_)
            refine wpAnyH_take (i := 0) (v := ?_) rfl (by kernel_rfl) (by kernel_rfl) (by kernel_rfl) (fun _ _ _ h => h) (Or.inl ⟨by rfl, ?_⟩) (by assumption) ?_
            rotate_left
            · intro W' hSw; obtain ⟨s0, s1, s2, s3, s4, s5, s6⟩ := hSw; go_simp; try with_reducible rfl
            try simp only [Act.put, List.getElem_toArray, List.getElem_cons_succ, List.getElem_cons_zero, List.setIfInBounds_toArray, List.set_cons_zero, List.set_cons_succ]
            refine wpAnyH_take (i := 1) (v := ?_) rfl (by kernel_rfl) (by kernel_rfl) (by kernel_rfl) (fun _ _ _ h => h) (Or.inl ⟨by rfl, ?_⟩) (by assumption) ?_
            rotate_left
            · intro W' hSw; obtain ⟨s0, s1, s2, s3, s4, s5, s6⟩ := hSw; go_simp; try with_reducible rfl
            try simp only [Act.put, List.getElem_toArray, List.getElem_cons_succ, List.getElem_cons_zero, List.setIfInBounds_toArray, List.set_cons_zero, List.set_cons_succ]
            refine wpAnyH_take (i := 2) (v := ?_) rfl (by kernel_rfl) (by kernel_rfl) (by kernel_rfl) (fun _ _ _ h => h) (Or.inl ⟨by rfl, ?_⟩) (by assumption) ?_
            rotate_left
            · intro W' hSw; obtain ⟨s0, s1, s2, s3, s4, s5, s6⟩ := hSw; go_simp; try with_reducible rfl
            try simp only [Act.put, List.getElem_toArray, List.getElem_cons_succ, List.getElem_cons_zero, List.setIfInBounds_toArray, List.set_cons_zero, List.set_cons_succ]
            refine wpAnyH_take (i := 3) (v := ?_) rfl (by kernel_rfl) (by kernel_rfl) (by kernel_rfl) (fun _ _ _ h => h) (Or.inl ⟨by rfl, ?_⟩) (by assumption) ?_
            rotate_left
            · intro W' hSw; obtain ⟨s0, s1, s2, s3, s4, s5, s6⟩ := hSw; go_simp; try with_reducible rfl
            try simp only [Act.put, List.getElem_toArray, List.getElem_cons_succ, List.getElem_cons_zero, List.setIfInBounds_toArray, List.set_cons_zero, List.set_cons_succ]
            refine wpAnyH_take (i := 4) (v := ?_) rfl (by kernel_rfl) (by kernel_rfl) (by kernel_rfl) (fun _ _ _ h => h) (Or.inl ⟨by rfl, ?_⟩) (by assumption) ?_
            rotate_left
            · intro W' hSw; obtain ⟨s0, s1, s2, s3, s4, s5, s6⟩ := hSw; go_simp; try with_reducible rfl
            try simp only [Act.put, List.getElem_toArray, List.getElem_cons_succ, List.getElem_cons_zero, List.setIfInBounds_toArray, List.set_cons_zero, List.set_cons_succ]
            refine wpAnyH_take (i := 5) (v := ?_) rfl (by kernel_rfl) (by kernel_rfl) (by kernel_rfl) (fun _ _ _ h => h) (Or.inl ⟨by rfl, ?_⟩) (by assumption) ?_
            rotate_left
            · intro W' hSw; obtain ⟨s0, s1, s2, s3, s4, s5, s6⟩ := hSw; go_simp; try with_reducible rfl
            try simp only [Act.put, List.getElem_toArray, List.getElem_cons_succ, List.getElem_cons_zero, List.setIfInBounds_toArray, List.set_cons_zero, List.set_cons_succ]
            refine wpAnyH_take (i := 6) (v := ?_) rfl (by kernel_rfl) (by kernel_rfl) (by kernel_rfl) (fun _ _ _ h => h) (Or.inl ⟨by rfl, ?_⟩) (by assumption) ?_
            rotate_left
            · intro W' hSw; obtain ⟨s0, s1, s2, s3, s4, s5, s6⟩ := hSw; go_simp; try with_reducible rfl
            try simp only [Act.put, List.getElem_toArray, List.getElem_cons_succ, List.getElem_cons_zero, List.setIfInBounds_toArray, List.set_cons_zero, List.set_cons_succ]
            refine wpAnyH_take (i := 7) (v := ?_) rfl (by kernel_rfl) (by kernel_rfl) (by kernel_rfl) (fun _ _ _ h => h) (Or.inl ⟨by rfl, ?_⟩) (by assumption) ?_
            rotate_left
            · intro W' hSw; obtain ⟨s0, s1, s2, s3, s4, s5, s6⟩ := hSw; go_simp; try with_reducible rfl
            try simp only [Act.put, List.getElem_toArray, List.getElem_cons_succ, List.getElem_cons_zero, List.setIfInBounds_toArray, List.set_cons_zero, List.set_cons_succ]
            refine wpAnyH_take (i := 8) (v := ?_) rfl (by kernel_rfl) (by kernel_rfl) (by kernel_rfl) (fun _ _ _ h => h) (Or.inl ⟨by rfl, ?_⟩) (by assumption) ?_
            rotate_left
            · intro W' hSw; obtain ⟨s0, s1, s2, s3, s4, s5, s6⟩ := hSw; go_simp; try with_reducible rfl
            try simp only [Act.put, List.getElem_toArray, List.getElem_cons_succ, List.getElem_cons_zero, List.setIfInBounds_toArray, List.set_cons_zero, List.set_cons_succ]
            refine wpAnyH_take (i := 9) (v := ?_) rfl (by kernel_rfl) (by kernel_rfl) (by kernel_rfl) (fun _ _ _ h => h) (Or.inl ⟨by rfl, ?_⟩) (by assumption) ?_
            rotate_left
            · intro W' hSw; obtain ⟨s0, s1, s2, s3, s4, s5, s6⟩ := hSw; go_simp; try with_reducible rfl
            try simp only [Act.put, List.getElem_toArray, List.getElem_cons_succ, List.getElem_cons_zero, List.setIfInBounds_toArray, List.set_cons_zero, List.set_cons_succ]
            refine wpAnyH_take (i := 10) (v := ?_) rfl (by kernel_rfl) (by kernel_rfl) (by kernel_rfl) (fun _ _ _ h => h) (Or.inl ⟨by rfl, ?_⟩) (by assumption) ?_
            rotate_left
            · intro W' hSw; obtain ⟨s0, s1, s2, s3, s4, s5, s6⟩ := hSw; go_simp; try with_reducible rfl
            try simp only [Act.put, List.getElem_toArray, List.getElem_cons_succ, List.getElem_cons_zero, List.setIfInBounds_toArray, List.set_cons_zero, List.set_cons_succ]
            refine wpAnyH_take (i := 11) (v := ?_) rfl (by kernel_rfl) (by kernel_rfl) (by kernel_rfl) (fun _ _ _ h => h) (Or.inl ⟨by rfl, ?_⟩) (by assumption) ?_
            rotate_left
            · intro W' hSw; obtain ⟨s0, s1, s2, s3, s4, s5, s6⟩ := hSw; go_simp; try with_reducible rfl
            try simp only [Act.put, List.getElem_toArray, List.getElem_cons_succ, List.getElem_cons_zero, List.setIfInBounds_toArray, List.set_cons_zero, List.set_cons_succ]
            refine wpAnyH_ready (rs := [12]) (by kernel_rfl) (by simp) ?_
            refine AllReadyH.cons rfl (fun KK hK => ?_) AllReadyH.nil
            go_simp
            refine (HHZ.out _ HSD.out).mono ?_
            rintro e w3 ⟨rfl, h3⟩
            have HS3 : Hid (DrS w w3 P R N nn l (.slice none 0 0) 0 []) := h3
            clear h3
            refine hK.out _ _ (HXX.out _ HS3.out.below) (fun hHeld => ?_)
            clear hK KK
            try simp only [Act.put, List.getElem_toArray, List.getElem_cons_succ, List.getElem_cons_zero, List.setIfInBounds_toArray, List.set_cons_zero, List.set_cons_succ]
            refine wpAnyH_take (i := 13) (v := ?_) rfl (by kernel_rfl) (by kernel_rfl) (by kernel_rfl) (fun _ _ _ h => h) (Or.inl ⟨by rfl, ?_⟩) (by assumption) ?_
            rotate_left
            · intro W' hSw; obtain ⟨s0, s1, s2, s3, s4, s5, s6⟩ := hSw; go_simp; try with_reducible rfl
            try simp only [Act.put, List.getElem_toArray, List.getElem_cons_succ, List.getElem_cons_zero, List.setIfInBounds_toArray, List.set_cons_zero, List.set_cons_succ]
            refine wpAnyH_done (by kernel_rfl) ?_ _
            refine NoPanic.normal ?_
            clear hHeld
            obtain ⟨c0, c1, c2, c3, c4, c5, c6⟩ := HXX.out w3 HS3.out.below
            go_upto_region 21 with (go_at_call 20; refine (HAD.out _ HS3.out).mono ?_; rintro e w4 ⟨rfl, h3⟩; have HS4 : Hid (DrS w w4 P R N nn l2 (.slice none 0 0) 0 []) := h3; clear h3)
            have HLE2 : Hid (Calls Try.prog 25 #[.pointer (some ⟨P, 0, none⟩)] w4 fun e w' => e = .returned (.int .i64 ((q + 1 : Nat) : Int)) ∧ w' = w4) := by
              have := HLE.out w4 l2 _ _ _ HS4.out
              rw [← HM2.out] at this
              exact this
            have HRO2 : Hid (Calls Try.prog 26 #[.pointer (some ⟨P, 0, none⟩)] w4 fun e w' => e = .returned (.int .i64 ((R : Int) - ((q + 1 : Nat) : Int))) ∧ w' = w4.drew) := by
              have := HRO.out w4 l2 _ _ _ HS4.out
              rw [← HM2.out] at this
              exact this
            go_wp2_with (first
              | (go_at_call 26; refine HRO2.out.mono ?_; rintro e w8 ⟨rfl, h1⟩; have h1 := h1.symm; subst h1)
              | (go_at_call 25; refine HLE2.out.mono ?_; rintro e w8 ⟨rfl, h1⟩; have h1 := h1.symm; subst h1))
            go_roundw
            case rel => exact ⟨i + 1, l2, by go_num, by omega, by omega, HS4.out.low (Below.refl _ _).drew⟩
            case measure => simp [RowKit.intOf]; omega
          · have hqd : decide ((q : Int) < (R : Int)) = false := by simp; omega
            have hqg : decide ((R : Int) ≤ (q : Int)) = true := by simp; omega
            have hqe : R ≤ q := by omega
            have HM2 : Hid (q = l2.length) := by
              have := HM.out
              show q = l2.length
              omega
            clear hm3 HM
            have hs1 : IntKind.i64.wrap ((R : Int) - (q : Int)) = (R : Int) - (q : Int) := by rw [IntKind.wrap_i64]; omega
            have hs2 : wrap64 ((R : Int) - (q : Int)) = (R : Int) - (q : Int) := by unfold wrap64; omega
            go_upto_region 13 with (go_at_call 25; refine HLE1.out.mono ?_; rintro e w8 ⟨rfl, h1⟩; have h1 := h1.symm; subst h1)
            clear HLE1
            refine wp_region_noPanic ?_
            refine wp_region_held_drew (S := (fun w' => w'.cell? ⟨b1, o1 + i * 7, none⟩ = some (.int .i64 pc) ∧ w'.cell? ⟨b1, o1 + i * 7 + 1, none⟩ = some (.int .i64 pa) ∧ w'.cell? ⟨b1, o1 + i * 7 + 2, none⟩ = some (.int .i64 ps) ∧ w'.cell? ⟨b1, o1 + i * 7 + 3, none⟩ = some (.bool pi) ∧ w'.cell? ⟨b1, o1 + i * 7 + 4, none⟩ = some (.int .i64 prc) ∧ w'.cell? ⟨b1, o1 + i * 7 + 5, none⟩ = some (.int .i64 pra) ∧ w'.cell? ⟨b1, o1 + i * 7 + 6, none⟩ = some (.int .i32 pch))) (by kernel_rfl) (HXX.out _ HSD.out.below) (fun hHeld => ?_)
            refine wpAnyH_take (i := 0) (v := ?_) rfl (by kernel_rfl) (by kernel_rfl) (by kernel_rfl) (fun _ _ _ h => h) (Or.inl ⟨by rfl, ?_⟩) (by assumption) ?_
            rotate_left
            · intro W' hSw; obtain ⟨s0, s1, s2, s3, s4, s5, s6⟩ := hSw; go_simp; try with_reducible rfl
            try simp only [Act.put, List.getElem_toArray, List.getElem_cons_succ, List.getElem_cons_zero, List.setIfInBounds_toArray, List.set_cons_zero, List.set_cons_succ]
            refine wpAnyH_take (i := 1) (v := ?_) rfl (by kernel_rfl) (by kernel_rfl) (by kernel_rfl) (fun _ _ _ h => h) (Or.inl ⟨by rfl, ?_⟩) (by assumption) ?_
            rotate_left
            · intro W' hSw; obtain ⟨s0, s1, s2, s3, s4, s5, s6⟩ := hSw; go_simp; try with_reducible rfl
            try simp only [Act.put, List.getElem_toArray, List.getElem_cons_succ, List.getElem_cons_zero, List.setIfInBounds_toArray, List.set_cons_zero, List.set_cons_succ]
            refine wpAnyH_take (i := 2) (v := ?_) rfl (by kernel_rfl) (by kernel_rfl) (by kernel_rfl) (fun _ _ _ h => h) (Or.inl ⟨by rfl, ?_⟩) (by assumption) ?_
            rotate_left
            · intro W' hSw; obtain ⟨s0, s1, s2, s3, s4, s5, s6⟩ := hSw; go_simp; try with_reducible rfl
            try simp only [Act.put, List.getElem_toArray, List.getElem_cons_succ, List.getElem_cons_zero, List.setIfInBounds_toArray, List.set_cons_zero, List.set_cons_succ]
            refine wpAnyH_take (i := 3) (v := ?_) rfl (by kernel_rfl) (by kernel_rfl) (by kernel_rfl) (fun _ _ _ h => h) (Or.inl ⟨by rfl, ?_⟩) (by assumption) ?_
            rotate_left
            · intro W' hSw; obtain ⟨s0, s1, s2, s3, s4, s5, s6⟩ := hSw; go_simp; try with_reducible rfl
            try simp only [Act.put, List.getElem_toArray, List.getElem_cons_succ, List.getElem_cons_zero, List.setIfInBounds_toArray, List.set_cons_zero, List.set_cons_succ]
            refine wpAnyH_take (i := 4) (v := ?_) rfl (by kernel_rfl) (by kernel_rfl) (by kernel_rfl) (fun _ _ _ h => h) (Or.inl ⟨by rfl, ?_⟩) (by assumption) ?_
            rotate_left
            · intro W' hSw; obtain ⟨s0, s1, s2, s3, s4, s5, s6⟩ := hSw; go_simp; try with_reducible rfl
            try simp only [Act.put, List.getElem_toArray, List.getElem_cons_succ, List.getElem_cons_zero, List.setIfInBounds_toArray, List.set_cons_zero, List.set_cons_succ]
            refine wpAnyH_take (i := 5) (v := ?_) rfl (by kernel_rfl) (by kernel_rfl) (by kernel_rfl) (fun _ _ _ h => h) (Or.inl ⟨by rfl, ?_⟩) (by assumption) ?_
            rotate_left
            · intro W' hSw; obtain ⟨s0, s1, s2, s3, s4, s5, s6⟩ := hSw; go_simp; try with_reducible rfl
            try simp only [Act.put, List.getElem_toArray, List.getElem_cons_succ, List.getElem_cons_zero, List.setIfInBounds_toArray, List.set_cons_zero, List.set_cons_succ]
            refine wpAnyH_take (i := 6) (v := ?_) rfl (by kernel_rfl) (by kernel_rfl) (by kernel_rfl) (fun _ _ _ h => h) (Or.inl ⟨by rfl, ?_⟩) (by assumption) ?_
            rotate_left
            · intro W' hSw; obtain ⟨s0, s1, s2, s3, s4, s5, s6⟩ := hSw; go_simp; try with_reducible rfl
            try simp only [Act.put, List.getElem_toArray, List.getElem_cons_succ, List.getElem_cons_zero, List.setIfInBounds_toArray, List.set_cons_zero, List.set_cons_succ]
            refine wpAnyH_take (i := 7) (v := ?_) rfl (by kernel_rfl) (by kernel_rfl) (by kernel_rfl) (fun _ _ _ h => h) (Or.inl ⟨by rfl, ?_⟩) (by assumption) ?_
            rotate_left
            · intro W' hSw; obtain ⟨s0, s1, s2, s3, s4, s5, s6⟩ := hSw; go_simp; try with_reducible rfl
            try simp only [Act.put, List.getElem_toArray, List.getElem_cons_succ, List.getElem_cons_zero, List.setIfInBounds_toArray, List.set_cons_zero, List.set_cons_succ]
            refine wpAnyH_take (i := 8) (v := ?_) rfl (by kernel_rfl) (by kernel_rfl) (by kernel_rfl) (fun _ _ _ h => h) (Or.inl ⟨by rfl, ?_⟩) (by assumption) ?_
            rotate_left
            · intro W' hSw; obtain ⟨s0, s1, s2, s3, s4, s5, s6⟩ := hSw; go_simp; try with_reducible rfl
            try simp only [Act.put, List.getElem_toArray, List.getElem_cons_succ, List.getElem_cons_zero, List.setIfInBounds_toArray, List.set_cons_zero, List.set_cons_succ]
            refine wpAnyH_take (i := 9) (v := ?_) rfl (by kernel_rfl) (by kernel_rfl) (by kernel_rfl) (fun _ _ _ h => h) (Or.inl ⟨by rfl, ?_⟩) (by assumption) ?_
            rotate_left
            · intro W' hSw; obtain ⟨s0, s1, s2, s3, s4, s5, s6⟩ := hSw; go_simp; try with_reducible rfl
            try simp only [Act.put, List.getElem_toArray, List.getElem_cons_succ, List.getElem_cons_zero, List.setIfInBounds_toArray, List.set_cons_zero, List.set_cons_succ]
            refine wpAnyH_take (i := 10) (v := ?_) rfl (by kernel_rfl) (by kernel_rfl) (by kernel_rfl) (fun _ _ _ h => h) (Or.inl ⟨by rfl, ?_⟩) (by assumption) ?_
            rotate_left
            · intro W' hSw; obtain ⟨s0, s1, s2, s3, s4, s5, s6⟩ := hSw; go_simp; try with_reducible rfl
            try simp only [Act.put, List.getElem_toArray, List.getElem_cons_succ, List.getElem_cons_zero, List.setIfInBounds_toArray, List.set_cons_zero, List.set_cons_succ]
            refine wpAnyH_take (i := 11) (v := ?_) rfl (by kernel_rfl) (by kernel_rfl) (by kernel_rfl) (fun _ _ _ h => h) (Or.inl ⟨by rfl, ?_⟩) (by assumption) ?_
            rotate_left
            · intro W' hSw; obtain ⟨s0, s1, s2, s3, s4, s5, s6⟩ := hSw; go_simp; try with_reducible rfl
            try simp only [Act.put, List.getElem_toArray, List.getElem_cons_succ, List.getElem_cons_zero, List.setIfInBounds_toArray, List.set_cons_zero, List.set_cons_succ]
            refine wpAnyH_ready (rs := [12]) (by kernel_rfl) (by simp) ?_
            refine AllReadyH.cons rfl (fun KK hK => ?_) AllReadyH.nil
            go_simp
            refine (HHZ.out _ HSD.out).mono ?_
            rintro e w3 ⟨rfl, h3⟩
            have HS3 : Hid (DrS w w3 P R N nn l (.slice none 0 0) 0 []) := h3
            clear h3
            refine hK.out _ _ (HXX.out _ HS3.out.below) (fun hHeld => ?_)
            clear hK KK
            try simp only [Act.put, List.getElem_toArray, List.getElem_cons_succ, List.getElem_cons_zero, List.setIfInBounds_toArray, List.set_cons_zero, List.set_cons_succ]
            refine wpAnyH_take (i := 13) (v := ?_) rfl (by kernel_rfl) (by kernel_rfl) (by kernel_rfl) (fun _ _ _ h => h) (Or.inl ⟨by rfl, ?_⟩) (by assumption) ?_
            rotate_left
            · intro W' hSw; obtain ⟨s0, s1, s2, s3, s4, s5, s6⟩ := hSw; go_simp; try with_reducible rfl
            try simp only [Act.put, List.getElem_toArray, List.getElem_cons_succ, List.getElem_cons_zero, List.setIfInBounds_toArray, List.set_cons_zero, List.set_cons_succ]
            refine wpAnyH_done (by kernel_rfl) ?_ _
            refine NoPanic.normal ?_
            clear hHeld
            obtain ⟨c0, c1, c2, c3, c4, c5, c6⟩ := HXX.out w3 HS3.out.below
            go_upto_region 21 with (go_at_call 20; refine (HAD.out _ HS3.out).mono ?_; rintro e w4 ⟨rfl, h3⟩; have HS4 : Hid (DrS w w4 P R N nn l2 (.slice none 0 0) 0 []) := h3; clear h3)
            have HLE2 : Hid (Calls Try.prog 25 #[.pointer (some ⟨P, 0, none⟩)] w4 fun e w' => e = .returned (.int .i64 (q : Int)) ∧ w' = w4) := by
              have := HLE.out w4 l2 _ _ _ HS4.out
              rw [← HM2.out] at this
              exact this
            have HRO2 : Hid (Calls Try.prog 26 #[.pointer (some ⟨P, 0, none⟩)] w4 fun e w' => e = .returned (.int .i64 ((R : Int) - (q : Int))) ∧ w' = w4.drew) := by
              have := HRO.out w4 l2 _ _ _ HS4.out
              rw [← HM2.out] at this
              exact this
            go_wp2_with (first
              | (go_at_call 26; refine HRO2.out.mono ?_; rintro e w8 ⟨rfl, h1⟩; have h1 := h1.symm; subst h1)
              | (go_at_call 25; refine HLE2.out.mono ?_; rintro e w8 ⟨rfl, h1⟩; have h1 := h1.symm; subst h1))
            go_roundw
            case rel => exact ⟨i + 1, l2, by go_num, by omega, by omega, HS4.out.low (Below.refl _ _).drew⟩
            case measure => simp [RowKit.intOf]; omega
        · have HMM : Hid (i ≤ 60) := hi60
          have hcs : ((¬ i < len) ∧ decide ((i : Int) < (len : Int)) = false) ∨ (i < len ∧ decide ((i : Int) < (len : Int)) = true ∧ (¬ i < 60) ∧ decide ((i : Int) < 60) = false) := by
            rcases Nat.lt_or_ge i len with q | q
            · exact .inr ⟨q, by simpa using q, by omega, by simp; omega⟩
            · exact .inl ⟨by omega, by simp; omega⟩
          have HSE : Hid (DrS w wr P R N nn l (.slice none 0 0) 0 []) := HSB.out
          clear HSB hlt hil hi60
          rcases hcs with ⟨hn1, hd1⟩ | ⟨hn1, hd1, hn2, hd2⟩
          all_goals
            go_upto_region 24 with (go_at_call 22; refine (d_all HSE.out).mono ?_; rintro e w3 ⟨a2, c2, rfl, -, -, h3⟩; have HS3 : Hid (DrS w w3 P R N nn l (.slice a2 l.length c2) l.length l) := h3; clear h3)
            clear HSE hd1
            obtain ⟨m, hm⟩ : ∃ m, m = l.length := ⟨_, rfl⟩
            have HM : Hid (m = l.length) := hm
            have hm30 : m ≤ 30 := by have := HS3.out.len.1; omega
            rw [← hm] at HS3 ⊢
            clear hm
            go_upto_region 26 with fail
            go_loopw [17, 18] (fun x17 x18 wr => ∃ (k c : Nat), x18 = .int .i64 (k : Int) ∧ x17 = .int .i64 (c : Int) ∧ k ≤ m ∧ c = (keptK l (fun o : Opn => bits .and .i64 o.s nn != 0) k).length ∧ DrS w wr P R N nn l (.slice a2 m c2) m l) (fun _ x18 _ => 60 - (RowKit.intOf x18).toNat)
            case atStart => exact ⟨0, 0, rfl, rfl, by omega, rfl, HS3.out⟩
            case round =>
              obtain ⟨k, c, h18, h17, hkm, hc, hsk⟩ := hrel
              subst h18 h17
              have HSK : Hid (DrS w wr P R N nn l (.slice a2 m c2) m l ∧ c = (keptK l (fun o : Opn => bits .and .i64 o.s nn != 0) k).length) := ⟨hsk, hc⟩
              have hcm : c ≤ 30 := by have := keptK_len l (fun o : Opn => bits .and .i64 o.s nn != 0) k; omega
              clear hsk hc HS3
              by_cases hkt : k < m
              · obtain ⟨b1, o1, hab, c0, c1, cc2, c3, c4, c5, c6⟩ := HSK.out.1.rd.1.at k hkt
                have cN := HSK.out.1.rd.2
                subst hab
                have hkd : decide ((k : Int) < (m : Int)) = true := by simpa using hkt
                have hk0 : (0 : Int) ≤ (k : Int) := by omega
                have hk1 : (k : Int) < (m : Int) := by omega
                have hmore := keptK_more l (fun o : Opn => bits .and .i64 o.s nn != 0) k (by rw [← HM.out]; exact hkt)
                rw [← HSK.out.2] at hmore
                generalize l.getD k op0 = E at c0 c1 cc2 c3 c4 c5 c6 hmore
                cases hbz : (bits .and .i64 E.s nn != 0)
                · have HC2 : Hid (c = (keptK l (fun o : Opn => bits .and .i64 o.s nn != 0) (k + 1)).length) := by
                    simp only [hbz] at hmore
                    show c = _
                    simpa using hmore.symm
                  clear hmore
                  go_upto_region 28 with fail
                  go_quiet (fail)
                  go_wp2
                  go_roundw
                  case rel => exact ⟨k + 1, c, by go_num, rfl, by omega, HC2.out, HSK.out.1.low (bel_drewK (Below.refl _ _) _)⟩
                  case measure => simp [RowKit.intOf]; omega
                · have HC2 : Hid (c + 1 = (keptK l (fun o : Opn => bits .and .i64 o.s nn != 0) (k + 1)).length) := by
                    simp only [hbz] at hmore
                    show c + 1 = _
                    simpa using hmore.symm
                  clear hmore
                  go_upto_region 28 with fail
                  go_quiet (fail)
                  go_wp2
                  go_roundw
                  case rel => exact ⟨k + 1, c + 1, by go_num, by go_num, by omega, HC2.out, HSK.out.1.low (bel_drewK (Below.refl _ _) _)⟩
                  case measure => simp [RowKit.intOf]; omega
              · obtain rfl : k = m := by omega
                have hkd : decide ((k : Int) < (k : Int)) = false := by simp
                obtain ⟨l3, hl3⟩ : ∃ l3, l3 = l.filter fun x => !(bits .and .i64 x.s nn != 0) := ⟨_, rfl⟩
                have hct : c + l3.length = k := by
                  have h1 := filter_two l (fun o : Opn => bits .and .i64 o.s nn != 0)
                  have h2 := HSK.out.2
                  rw [HM.out, keptK_all] at h2
                  rw [hl3]
                  have := HM.out
                  omega
                have HDB : Hid (Calls Try.prog 16 #[.pointer (some ⟨P, 0, none⟩), .func (.func 28) #[] #[.pointer (some ⟨N, 0, none⟩)]] wr fun e w' => e = .returned (.int .i64 (c : Int)) ∧ DrS w w' P R N nn l3 (.slice a2 k c2) k l) := (d_drop HSK.out.1 _ _ _ (ask_bit N nn wr HSK.out.1.2.1)).mono (by
                  rintro e w' ⟨rfl, h⟩
                  rw [← hl3] at h ⊢
                  refine ⟨?_, h⟩
                  have := HM.out
                  congr 2
                  omega)
                obtain ⟨m3, hm3⟩ : ∃ m3, m3 = l3.length := ⟨_, rfl⟩
                have HM3 : Hid (m3 = l3.length) := hm3
                rw [← hm3] at hct
                have hs1 : IntKind.i64.wrap ((k : Int) - (c : Int)) = (m3 : Int) := by rw [IntKind.wrap_i64]; omega
                have hs2 : wrap64 ((k : Int) - (c : Int)) = (m3 : Int) := by unfold wrap64; omega
                clear hl3 hm3 hct HSK
                go_upto_region 31 with (go_at_call 16; refine HDB.out.mono ?_; rintro e w6 ⟨rfl, h1⟩; have HS6 : Hid (DrS w w6 P R N nn l3 (.slice a2 k c2) k l) := h1; clear h1)
                have HLE3 : Hid (Calls Try.prog 25 #[.pointer (some ⟨P, 0, none⟩)] w6 fun e w' => e = .returned (.int .i64 (m3 : Int)) ∧ w' = w6) := by
                  rw [HM3.out]
                  exact HLE.out w6 l3 _ _ _ HS6.out
                go_wp2_with (go_at_call 25; refine HLE3.out.mono ?_; rintro e w8 ⟨rfl, h1⟩; have h1 := h1.symm; subst h1)
                go_roundw
                case rel => exact ⟨t + 1, l3, by go_num, by omega, HS6.out.lose⟩
                case measure => simp [RowKit.intOf]; omega
    · obtain rfl : t = 2 := by omega
      have HDA : Hid (∀ V l, DrS w V P R N nn l (.slice none 0 0) 0 [] → Calls Try.prog 16 #[.pointer (some ⟨P, 0, none⟩), .func (.func 27) #[] #[]] V fun e w' => e = .returned (.int .i64 (l.length : Int)) ∧ DrS w w' P R N nn [] (.slice none 0 0) 0 []) := fun V l h => (d_drop h _ _ _ (ask_all V)).mono (by
        rintro e w' ⟨rfl, q⟩
        have e1 : (l.filter fun x => !true) = [] := by simp
        rw [e1] at q ⊢
        exact ⟨by simp, q⟩)
      have HL2 : Hid (Calls Try.prog 25 #[.pointer (some ⟨P, 0, none⟩)] wr fun e w' => e = .returned (.int .i64 (l0.length : Int)) ∧ w' = wr) := HLE.out wr l0 _ _ _ HS.out
      have HDA1 : Hid (type_of% (HDA.out wr l0 HS.out)) := HDA.out wr l0 HS.out
      clear HX HDA
      go_upto_region 34 with (go_at_call 25; refine HL2.out.mono ?_; rintro e w8 ⟨rfl, h1⟩; have h1 := h1.symm; subst h1)
      clear HL2
      go_wp2_with (first
        | (go_at_call 26; refine (HRO.out _ _ _ _ _ HS9.out).mono ?_; rintro e w8 ⟨rfl, h1⟩; have h1 := h1.symm; subst h1)
        | (go_at_call 25; refine (HLE.out _ _ _ _ _ HS9.out).mono ?_; rintro e w8 ⟨rfl, h1⟩; have h1 := h1.symm; subst h1)
        | (go_at_call 16; refine HDA1.out.mono ?_; rintro e w9 ⟨rfl, h1⟩; have HS9 : Hid (DrS w w9 P R N nn [] (.slice none 0 0) 0 []) := h1; clear h1))
      go_ret
      exact ⟨rfl, HS9.out.below.drew⟩
end Go.Proofs.Ytcmgmoacpkikdaa
