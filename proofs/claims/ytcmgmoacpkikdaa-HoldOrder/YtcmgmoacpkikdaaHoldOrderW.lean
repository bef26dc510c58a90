/- The walk of HoldOrder: in which order operations come does not matter. -/
import Derived.Test.YtcmgmoacpkikdaaHoldOrderR
namespace Go.Proofs.Ytcmgmoacpkikdaa
open Go.RowKit Go.Sort
set_option linter.unusedVariables false
set_option linter.unusedSimpArgs false

set_option maxRecDepth 100000 in
set_option maxHeartbeats 16000000 in
theorem holdOrder_walk (xs : List Opn) (a : Option Addr) (len cap : Nat) (au : Int) (w : World) (hrd : RdP w a len xs) (lo : -9223372036854775808 ≤ au) (hi : au ≤ 9223372036854775807) :
    Calls Try.prog 6 #[.slice a len cap, .int .i64 au] w fun e w' => e = .returned (.bool true) ∧ Below w.heap.size w w' := by
  have mixed : Try.prog.follows .mixedOrders = true := by kernel_rfl
  obtain ⟨i0, ji, jz0, jz1, jz2⟩ := info_parts info_P
  have HJ : Hid (Try.prog.info? 31 = some i0 ∧ i0.zero = some op0.val ∧ i0.size = 7 ∧ i0.bytes = 56) := ⟨ji, jz0, jz1, jz2⟩
  have HX : Hid (∀ w', Below w.heap.size w w' → RdP w' a len xs) := fun w' h => hrd.later h
  obtain ⟨W0, hW0⟩ : ∃ W0, W0 = w.alloc (bxI au) := ⟨_, rfl⟩
  obtain ⟨N, hN⟩ : ∃ N, N = w.heap.size := ⟨_, rfl⟩
  have hb0 : Below w.heap.size w W0 := by rw [hW0]; exact (Below.refl _ w).alloc (Nat.le_refl _) _
  have hx0 : W0.heap[N]? = some (bxI au) := by rw [hW0, hN]; exact heap_alloc_new w _
  have HSH : Hid (Calls Try.prog 9 #[] W0 fun e w' => e = .returned (.bool true) ∧ Below w.heap.size w w' ∧ w'.heap[N]? = some (bxI au)) := (shown16_any W0).mono (by
    rintro e w' ⟨rfl, hb⟩
    exact ⟨rfl, hb0.trans (hb.mono hb0.size), bel_heap hb hx0⟩)
  have HNA : Hid (∀ w1, Below w.heap.size w w1 ∧ w1.heap[N]? = some (bxI au) → Calls Try.prog 10 #[.int .i64 40] w1 fun e w' => ∃ A, e = .returned (.pointer (some ⟨A, 0, none⟩)) ∧ HoO w w' A 40 [] (fun k => k = N) ∧ w'.heap[N]? = some (bxI au)) := fun w1 hb => (h_new hb.1 40 (by omega) (fun k => k = N) (fun k h => by subst h; exact (Array.getElem?_eq_some_iff.1 hb.2).1)).mono (by
    rintro e w' ⟨A, rfl, q, hb2, _⟩
    exact ⟨A, rfl, q, bel_heap hb2 hb.2⟩)
  have HNB : Hid (∀ w1 A, HoO w w1 A 40 [] (fun k => k = N) ∧ w1.heap[N]? = some (bxI au) → Calls Try.prog 10 #[.int .i64 40] w1 fun e w' => ∃ B, e = .returned (.pointer (some ⟨B, 0, none⟩)) ∧ OrS w w' A B N au [] [] (.slice none 0 0) 0 []) := fun w1 A h => o_new h.1 h.2
  clear hrd hb0 hx0 lo hi ji jz0 jz1 jz2
  go_enter Try.func6, Try.ntmps6
  go_upto_region 1 with fail
  rw [← hN, ← hW0]
  clear hN hW0
  go_upto_region 6 with (first
    | (go_at_call 9; refine HSH.out.mono ?_; rintro e w1 ⟨rfl, hb⟩; have HB1 : Hid (Below w.heap.size w w1 ∧ w1.heap[N]? = some (bxI au)) := hb; clear hb)
    | (go_at_call 10; (first
        | (refine (HNB.out _ _ HB2.out).mono ?_; rintro e w3 ⟨B, rfl, hs⟩; have HS0 : Hid (OrS w w3 A B N au [] [] (.slice none 0 0) 0 []) := hs; clear hs)
        | (refine (HNA.out _ HB1.out).mono ?_; rintro e w2 ⟨A, rfl, hs⟩; have HB2 : Hid (HoO w w2 A 40 [] (fun k => k = N) ∧ w2.heap[N]? = some (bxI au)) := hs; clear hs))))
  clear HSH HNA HNB HB1 HB2
  go_wp2
  go_loopw [8, 9] (fun x8 x9 wr => ∃ (i m d : Nat) (b : Option Addr) (U la : List Opn), x9 = .int .i64 (i : Int) ∧ x8 = .slice b m d ∧ i ≤ len ∧ i ≤ 40 ∧ la.length ≤ i ∧ UnK la U ∧ OrS w wr A B N au la [] (.slice b m d) m U) (fun _ x9 _ => 40 - (RowKit.intOf x9).toNat)
  case atStart => exact ⟨0, 0, 0, none, [], [], rfl, rfl, by omega, by omega, by simp, ⟨List.Pairwise.nil, rfl, fun x => Iff.rfl⟩, HS0.out⟩
  case round =>
    obtain ⟨i, m, d, b, U, la, h9, h8, hil, hi40, hla, hun, hs⟩ := hrel
    subst h9 h8
    have HS : Hid (OrS w wr A B N au la [] (.slice b m d) m U) := hs
    have HUN : Hid (UnK la U) := hun
    clear hs hun HS0
    have hm40 : m ≤ 40 := by
      have h1 := HUN.out.2.1
      obtain ⟨_, _, _, _, h2⟩ := HS.out
      have := h2.1
      rw [flatP_len] at this
      omega
    by_cases hlt : i < len ∧ i < 40
    · obtain ⟨hlt, h40⟩ := hlt
      have hd1 : decide ((i : Int) < (len : Int)) = true := by simpa using hlt
      have hd2 : decide ((i : Int) < 40) = true := decide_eq_true (by omega)
      obtain ⟨b1, o1, hab, -⟩ := (HX.out wr HS.out.below).at i hlt
      subst hab
      obtain ⟨p, hp⟩ : ∃ p, p = xs.getD i op0 := ⟨_, rfl⟩
      have HXC : Hid (∀ V, Below w.heap.size w V → V.cell? ⟨b1, o1 + i * 7, none⟩ = some (.int .i64 p.c) ∧ V.cell? ⟨b1, o1 + i * 7 + 1, none⟩ = some (.int .i64 p.a) ∧ V.cell? ⟨b1, o1 + i * 7 + 2, none⟩ = some (.int .i64 p.s) ∧ V.cell? ⟨b1, o1 + i * 7 + 3, none⟩ = some (.bool p.ins) ∧ V.cell? ⟨b1, o1 + i * 7 + 4, none⟩ = some (.int .i64 p.rc) ∧ V.cell? ⟨b1, o1 + i * 7 + 5, none⟩ = some (.int .i64 p.ra) ∧ V.cell? ⟨b1, o1 + i * 7 + 6, none⟩ = some (.int .i32 p.ch)) := fun V hV => by
        obtain ⟨b9, o9, h9, c9⟩ := (HX.out V hV).at i hlt
        cases h9
        rw [hp]
        exact c9
      obtain ⟨l2, hl2⟩ : ∃ l2, l2 = addK la 40 p := ⟨_, rfl⟩
      have HL2 : Hid (l2.length ≤ i + 1) := by
        have := addK_len1 la 40 p
        show l2.length ≤ i + 1
        rw [hl2]; omega
      have HADp : Hid (∀ V U' m' d' b', OrS w V A B N au la [] (.slice b' m' d') m' U' → Calls Try.prog 20 #[.pointer (some ⟨A, 0, none⟩), p.val] V fun e w' => e = .returned (.int .i64 0) ∧ OrS w w' A B N au l2 [] (.slice b' m' d') m' U') := fun V U' m' d' b' h => (o_add h p).mono (by
        rintro e w' ⟨rfl, q⟩
        rw [hl2]
        exact ⟨by rw [(addK_room (by omega)).2], q⟩)
      have HSD : Hid (OrS w wr.drew A B N au la [] (.slice b m d) m U) := HS.out.low (Below.refl _ _).drew
      have HHP : Hid (∀ V, OrS w V A B N au la [] (.slice b m d) m U → Calls Try.prog 18 #[.pointer (some ⟨A, 0, none⟩), .int .i64 p.a, .int .i64 p.s] V fun e w' => e = .returned (.bool (hasK la p.a p.s)) ∧ OrS w w' A B N au la [] (.slice b m d) m U) := fun V h => o_has h _ _
      cases hz : hasK la p.a p.s
      · rw [hz] at HHP
        have HU2 : Hid (UnK l2 (U ++ [p])) := by rw [hl2]; exact unK_new HUN.out hz (by omega)
        clear hz hl2 hp HX HS
        obtain ⟨pv, hpv⟩ : ∃ pv, pv = p := ⟨_, rfl⟩
        rw [← hpv] at HU2
        have HPV : Hid (pv = p) := hpv
        clear hpv
        obtain ⟨pc, pa, ps, pi, prc, pra, pch⟩ := p
        simp only [Opn.val] at HXC HHP HADp
        have HXX : Hid (type_of% HXC.out) := HXC.out
        have HHZ : Hid (type_of% HHP.out) := HHP.out
        have HAD : Hid (type_of% HADp.out) := HADp.out
        clear HXC HHP HADp
        go_upto_region 10 with fail
        refine wp_region_noPanic ?_
        refine wp_region_held_drew (S := (fun w' => w'.cell? ⟨b1, o1 + i * 7, none⟩ = some (.int .i64 pc) ∧ w'.cell? ⟨b1, o1 + i * 7 + 1, none⟩ = some (.int .i64 pa) ∧ w'.cell? ⟨b1, o1 + i * 7 + 2, none⟩ = some (.int .i64 ps) ∧ w'.cell? ⟨b1, o1 + i * 7 + 3, none⟩ = some (.bool pi) ∧ w'.cell? ⟨b1, o1 + i * 7 + 4, none⟩ = some (.int .i64 prc) ∧ w'.cell? ⟨b1, o1 + i * 7 + 5, none⟩ = some (.int .i64 pra) ∧ w'.cell? ⟨b1, o1 + i * 7 + 6, none⟩ = some (.int .i32 pch))) (by kernel_rfl) (HXX.out _ HSD.out.below) (fun hHeld => ?_)
        refine wpAnyH_take (i := 0) (v := ?_) rfl (by kernel_rfl) (by kernel_rfl) (by kernel_rfl) (fun _ _ _ h => h) (Or.inl ⟨by rfl, ?_⟩) (by assumption) ?_
        rotate_left
        · intro W' hSw; obtain ⟨s0, s1, s2, s3, s4, s5, s6⟩ := hSw; go_simp; try with_reducible rfl
        try simp only [Act.put, List.getElem_toArray, List.getElem_cons_succ, List.getElem_cons_zero, List.setIfInBounds_toArray, List.set_cons_zero, List.set_cons_succ]
        refine wpAnyH_take (i := 1) (v := ?_) rfl (by kernel_rfl) (by kernel_rfl) (by kernel_rfl) (fun _ _ _ h => h) (Or.inl ⟨by rfl, ?_⟩) (by assumption) ?_
        rotate_left
        · intro W' hSw; obtain ⟨s0, s1, s2, s3, s4, s5, s6⟩ := hSw; go_simp; try with_reducible rfl
        try simp only [Act.put, List.getElem_toArray, List.getElem_cons_succ, List.getElem_cons_zero, List.setIfInBounds_toArray, List.set_cons_zero, List.set_cons_succ]
        refine wpAnyH_take (i := 2) (v := ?_) rfl (by kernel_rfl) (by kernel_rfl) (by kernel_rfl) (fun _ _ _ h => h) (Or.inl ⟨by rfl, ?_⟩) (by assumption) ?_
        rotate_left
        · intro W' hSw; obtain ⟨s0, s1, s2, s3, s4, s5, s6⟩ := hSw; go_simp; try with_reducible rfl
        try simp only [Act.put, List.getElem_toArray, List.getElem_cons_succ, List.getElem_cons_zero, List.setIfInBounds_toArray, List.set_cons_zero, List.set_cons_succ]
        refine wpAnyH_take (i := 3) (v := ?_) rfl (by kernel_rfl) (by kernel_rfl) (by kernel_rfl) (fun _ _ _ h => h) (Or.inl ⟨by rfl, ?_⟩) (by assumption) ?_
        rotate_left
        · intro W' hSw; obtain ⟨s0, s1, s2, s3, s4, s5, s6⟩ := hSw; go_simp; try with_reducible rfl
        try simp only [Act.put, List.getElem_toArray, List.getElem_cons_succ, List.getElem_cons_zero, List.setIfInBounds_toArray, List.set_cons_zero, List.set_cons_succ]
        refine wpAnyH_take (i := 4) (v := ?_) rfl (by kernel_rfl) (by kernel_rfl) (by kernel_rfl) (fun _ _ _ h => h) (Or.inl ⟨by rfl, ?_⟩) (by assumption) ?_
        rotate_left
        · intro W' hSw; obtain ⟨s0, s1, s2, s3, s4, s5, s6⟩ := hSw; go_simp; try with_reducible rfl
        try simp only [Act.put, List.getElem_toArray, List.getElem_cons_succ, List.getElem_cons_zero, List.setIfInBounds_toArray, List.set_cons_zero, List.set_cons_succ]
        refine wpAnyH_take (i := 5) (v := ?_) rfl (by kernel_rfl) (by kernel_rfl) (by kernel_rfl) (fun _ _ _ h => h) (Or.inl ⟨by rfl, ?_⟩) (by assumption) ?_
        rotate_left
        · intro W' hSw; obtain ⟨s0, s1, s2, s3, s4, s5, s6⟩ := hSw; go_simp; try with_reducible rfl
        try simp only [Act.put, List.getElem_toArray, List.getElem_cons_succ, List.getElem_cons_zero, List.setIfInBounds_toArray, List.set_cons_zero, List.set_cons_succ]
        refine wpAnyH_take (i := 6) (v := ?_) rfl (by kernel_rfl) (by kernel_rfl) (by kernel_rfl) (fun _ _ _ h => h) (Or.inl ⟨by rfl, ?_⟩) (by assumption) ?_
        rotate_left
        · intro W' hSw; obtain ⟨s0, s1, s2, s3, s4, s5, s6⟩ := hSw; go_simp; try with_reducible rfl
        try simp only [Act.put, List.getElem_toArray, List.getElem_cons_succ, List.getElem_cons_zero, List.setIfInBounds_toArray, List.set_cons_zero, List.set_cons_succ]
        refine wpAnyH_take (i := 7) (v := ?_) rfl (by kernel_rfl) (by kernel_rfl) (by kernel_rfl) (fun _ _ _ h => h) (Or.inl ⟨by rfl, ?_⟩) (by assumption) ?_
        rotate_left
        · intro W' hSw; obtain ⟨s0, s1, s2, s3, s4, s5, s6⟩ := hSw; go_simp; try with_reducible rfl
        try simp only [Act.put, List.getElem_toArray, List.getElem_cons_succ, List.getElem_cons_zero, List.setIfInBounds_toArray, List.set_cons_zero, List.set_cons_succ]
        refine wpAnyH_take (i := 8) (v := ?_) rfl (by kernel_rfl) (by kernel_rfl) (by kernel_rfl) (fun _ _ _ h => h) (Or.inl ⟨by rfl, ?_⟩) (by assumption) ?_
        rotate_left
        · intro W' hSw; obtain ⟨s0, s1, s2, s3, s4, s5, s6⟩ := hSw; go_simp; try with_reducible rfl
        try simp only [Act.put, List.getElem_toArray, List.getElem_cons_succ, List.getElem_cons_zero, List.setIfInBounds_toArray, List.set_cons_zero, List.set_cons_succ]
        refine wpAnyH_take (i := 9) (v := ?_) rfl (by kernel_rfl) (by kernel_rfl) (by kernel_rfl) (fun _ _ _ h => h) (Or.inl ⟨by rfl, ?_⟩) (by assumption) ?_
        rotate_left
        · intro W' hSw; obtain ⟨s0, s1, s2, s3, s4, s5, s6⟩ := hSw; go_simp; try with_reducible rfl
        try simp only [Act.put, List.getElem_toArray, List.getElem_cons_succ, List.getElem_cons_zero, List.setIfInBounds_toArray, List.set_cons_zero, List.set_cons_succ]
        refine wpAnyH_take (i := 10) (v := ?_) rfl (by kernel_rfl) (by kernel_rfl) (by kernel_rfl) (fun _ _ _ h => h) (Or.inl ⟨by rfl, ?_⟩) (by assumption) ?_
        rotate_left
        · intro W' hSw; obtain ⟨s0, s1, s2, s3, s4, s5, s6⟩ := hSw; go_simp; try with_reducible rfl
        try simp only [Act.put, List.getElem_toArray, List.getElem_cons_succ, List.getElem_cons_zero, List.setIfInBounds_toArray, List.set_cons_zero, List.set_cons_succ]
        refine wpAnyH_take (i := 11) (v := ?_) rfl (by kernel_rfl) (by kernel_rfl) (by kernel_rfl) (fun _ _ _ h => h) (Or.inl ⟨by rfl, ?_⟩) (by assumption) ?_
        rotate_left
        · intro W' hSw; obtain ⟨s0, s1, s2, s3, s4, s5, s6⟩ := hSw; go_simp; try with_reducible rfl
        try simp only [Act.put, List.getElem_toArray, List.getElem_cons_succ, List.getElem_cons_zero, List.setIfInBounds_toArray, List.set_cons_zero, List.set_cons_succ]
        refine wpAnyH_ready (rs := [12]) (by kernel_rfl) (by simp) ?_
        refine AllReadyH.cons rfl (fun KK hK => ?_) AllReadyH.nil
        go_simp
        refine (HHZ.out _ HSD.out).mono ?_
        rintro e w3 ⟨rfl, h3⟩
        have HS3 : Hid (OrS w w3 A B N au la [] (.slice b m d) m U) := h3
        clear h3
        refine hK.out _ _ (HXX.out _ HS3.out.below) (fun hHeld => ?_)
        clear hK KK
        try simp only [Act.put, List.getElem_toArray, List.getElem_cons_succ, List.getElem_cons_zero, List.setIfInBounds_toArray, List.set_cons_zero, List.set_cons_succ]
        refine wpAnyH_take (i := 13) (v := ?_) rfl (by kernel_rfl) (by kernel_rfl) (by kernel_rfl) (fun _ _ _ h => h) (Or.inl ⟨by rfl, ?_⟩) (by assumption) ?_
        rotate_left
        · intro W' hSw; obtain ⟨s0, s1, s2, s3, s4, s5, s6⟩ := hSw; go_simp; try with_reducible rfl
        try simp only [Act.put, List.getElem_toArray, List.getElem_cons_succ, List.getElem_cons_zero, List.setIfInBounds_toArray, List.set_cons_zero, List.set_cons_succ]
        refine wpAnyH_done (by kernel_rfl) ?_ _
        refine NoPanic.normal ?_
        clear hHeld
        obtain ⟨c0, c1, c2, c3, c4, c5, c6⟩ := HXX.out w3 HS3.out.below
        go_upto_region 12 with (at_builtin; refine wpList_append_lies _ rfl (.tmp 47) (.tmp 52) 43 rfl w.heap.size 31 i0 (op0.val) 7 56 Try.underlying43 HJ.out.1 HJ.out.2.1 HJ.out.2.2.1 HJ.out.2.2.2 rfl (by decide) _ _ _ rfl (HS3.out.2.2.2.2.alloc _) ⟨_, 0, none⟩ 1 1 [.int .i64 pc, .int .i64 pa, .int .i64 ps, .bool pi, .int .i64 prc, .int .i64 pra, .int .i32 pch] rfl rfl (news_preK (heap_alloc_new _ _) rfl) ?hone (by decide) ?h63 ?hby ?hbase _ rfl ?_)
        case hone => simp [Value.oneCell']
        case h63 => unfold maxLen; omega
        case hby => omega
        case hbase => have := HS3.out.below.size; simp; omega
        intro g cap2 w4 r1 r2 r3 _
        have HS4 : Hid (OrS w w4 A B N au la [] (.slice (some ⟨g, 0, none⟩) (m + 1) cap2) (m + 1) (U ++ [⟨pc, pa, ps, pi, prc, pra, pch⟩])) := HS3.out.grow ((Below.refl _ _).alloc (Nat.le_refl _) _) r1 r2 (by simpa using r3)
        clear r1 r2 r3 c0 c1 c2 c3 c4 c5 c6
        obtain ⟨c0, c1, c2, c3, c4, c5, c6⟩ := HXX.out w4 HS4.out.below
        go_wp2_with (go_at_call 20; refine (HAD.out _ _ _ _ _ HS4.out).mono ?_; rintro e w5 ⟨rfl, h1⟩; have HS5 : Hid (OrS w w5 A B N au l2 [] (.slice (some ⟨g, 0, none⟩) (m + 1) cap2) (m + 1) (U ++ [⟨pc, pa, ps, pi, prc, pra, pch⟩])) := h1; clear h1)
        go_roundw
        case rel => exact ⟨i + 1, m + 1, cap2, some ⟨g, 0, none⟩, U ++ [⟨pc, pa, ps, pi, prc, pra, pch⟩], l2, by go_num, rfl, by omega, by omega, HL2.out, by rw [← HPV.out]; exact HU2.out, HS5.out⟩
        case measure => simp [RowKit.intOf]; omega
      · rw [hz] at HHP
        have HU2 : Hid (UnK l2 U) := by rw [hl2]; exact unK_has HUN.out hz 40
        clear hz hl2 hp HX HS
        obtain ⟨pc, pa, ps, pi, prc, pra, pch⟩ := p
        simp only [Opn.val] at HXC HHP HADp
        have HXX : Hid (type_of% HXC.out) := HXC.out
        have HHZ : Hid (type_of% HHP.out) := HHP.out
        have HAD : Hid (type_of% HADp.out) := HADp.out
        clear HXC HHP HADp
        go_upto_region 10 with fail
        refine wp_region_noPanic ?_
        refine wp_region_held_drew (S := (fun w' => w'.cell? ⟨b1, o1 + i * 7, none⟩ = some (.int .i64 pc) ∧ w'.cell? ⟨b1, o1 + i * 7 + 1, none⟩ = some (.int .i64 pa) ∧ w'.cell? ⟨b1, o1 + i * 7 + 2, none⟩ = some (.int .i64 ps) ∧ w'.cell? ⟨b1, o1 + i * 7 + 3, none⟩ = some (.bool pi) ∧ w'.cell? ⟨b1, o1 + i * 7 + 4, none⟩ = some (.int .i64 prc) ∧ w'.cell? ⟨b1, o1 + i * 7 + 5, none⟩ = some (.int .i64 pra) ∧ w'.cell? ⟨b1, o1 + i * 7 + 6, none⟩ = some (.int .i32 pch))) (by kernel_rfl) (HXX.out _ HSD.out.below) (fun hHeld => ?_)
        refine wpAnyH_take (i := 0) (v := ?_) rfl (by kernel_rfl) (by kernel_rfl) (by kernel_rfl) (fun _ _ _ h => h) (Or.inl ⟨by rfl, ?_⟩) (by assumption) ?_
        rotate_left
        · intro W' hSw; obtain ⟨s0, s1, s2, s3, s4, s5, s6⟩ := hSw; go_simp; try with_reducible rfl
        try simp only [Act.put, List.getElem_toArray, List.getElem_cons_succ, List.getElem_cons_zero, List.setIfInBounds_toArray, List.set_cons_zero, List.set_cons_succ]
        refine wpAnyH_take (i := 1) (v := ?_) rfl (by kernel_rfl) (by kernel_rfl) (by kernel_rfl) (fun _ _ _ h => h) (Or.inl ⟨by rfl, ?_⟩) (by assumption) ?_
        rotate_left
        · intro W' hSw; obtain ⟨s0, s1, s2, s3, s4, s5, s6⟩ := hSw; go_simp; try with_reducible rfl
        try simp only [Act.put, List.getElem_toArray, List.getElem_cons_succ, List.getElem_cons_zero, List.setIfInBounds_toArray, List.set_cons_zero, List.set_cons_succ]
        refine wpAnyH_take (i := 2) (v := ?_) rfl (by kernel_rfl) (by kernel_rfl) (by kernel_rfl) (fun _ _ _ h => h) (Or.inl ⟨by rfl, ?_⟩) (by assumption) ?_
        rotate_left
        · intro W' hSw; obtain ⟨s0, s1, s2, s3, s4, s5, s6⟩ := hSw; go_simp; try with_reducible rfl
        try simp only [Act.put, List.getElem_toArray, List.getElem_cons_succ, List.getElem_cons_zero, List.setIfInBounds_toArray, List.set_cons_zero, List.set_cons_succ]
        refine wpAnyH_take (i := 3) (v := ?_) rfl (by kernel_rfl) (by kernel_rfl) (by kernel_rfl) (fun _ _ _ h => h) (Or.inl ⟨by rfl, ?_⟩) (by assumption) ?_
        rotate_left
        · intro W' hSw; obtain ⟨s0, s1, s2, s3, s4, s5, s6⟩ := hSw; go_simp; try with_reducible rfl
        try simp only [Act.put, List.getElem_toArray, List.getElem_cons_succ, List.getElem_cons_zero, List.setIfInBounds_toArray, List.set_cons_zero, List.set_cons_succ]
        refine wpAnyH_take (i := 4) (v := ?_) rfl (by kernel_rfl) (by kernel_rfl) (by kernel_rfl) (fun _ _ _ h => h) (Or.inl ⟨by rfl, ?_⟩) (by assumption) ?_
        rotate_left
        · intro W' hSw; obtain ⟨s0, s1, s2, s3, s4, s5, s6⟩ := hSw; go_simp; try with_reducible rfl
        try simp only [Act.put, List.getElem_toArray, List.getElem_cons_succ, List.getElem_cons_zero, List.setIfInBounds_toArray, List.set_cons_zero, List.set_cons_succ]
        refine wpAnyH_take (i := 5) (v := ?_) rfl (by kernel_rfl) (by kernel_rfl) (by kernel_rfl) (fun _ _ _ h => h) (Or.inl ⟨by rfl, ?_⟩) (by assumption) ?_
        rotate_left
        · intro W' hSw; obtain ⟨s0, s1, s2, s3, s4, s5, s6⟩ := hSw; go_simp; try with_reducible rfl
        try simp only [Act.put, List.getElem_toArray, List.getElem_cons_succ, List.getElem_cons_zero, List.setIfInBounds_toArray, List.set_cons_zero, List.set_cons_succ]
        refine wpAnyH_take (i := 6) (v := ?_) rfl (by kernel_rfl) (by kernel_rfl) (by kernel_rfl) (fun _ _ _ h => h) (Or.inl ⟨by rfl, ?_⟩) (by assumption) ?_
        rotate_left
        · intro W' hSw; obtain ⟨s0, s1, s2, s3, s4, s5, s6⟩ := hSw; go_simp; try with_reducible rfl
        try simp only [Act.put, List.getElem_toArray, List.getElem_cons_succ, List.getElem_cons_zero, List.setIfInBounds_toArray, List.set_cons_zero, List.set_cons_succ]
        refine wpAnyH_take (i := 7) (v := ?_) rfl (by kernel_rfl) (by kernel_rfl) (by kernel_rfl) (fun _ _ _ h => h) (Or.inl ⟨by rfl, ?_⟩) (by assumption) ?_
        rotate_left
        · intro W' hSw; obtain ⟨s0, s1, s2, s3, s4, s5, s6⟩ := hSw; go_simp; try with_reducible rfl
        try simp only [Act.put, List.getElem_toArray, List.getElem_cons_succ, List.getElem_cons_zero, List.setIfInBounds_toArray, List.set_cons_zero, List.set_cons_succ]
        refine wpAnyH_take (i := 8) (v := ?_) rfl (by kernel_rfl) (by kernel_rfl) (by kernel_rfl) (fun _ _ _ h => h) (Or.inl ⟨by rfl, ?_⟩) (by assumption) ?_
        rotate_left
        · intro W' hSw; obtain ⟨s0, s1, s2, s3, s4, s5, s6⟩ := hSw; go_simp; try with_reducible rfl
        try simp only [Act.put, List.getElem_toArray, List.getElem_cons_succ, List.getElem_cons_zero, List.setIfInBounds_toArray, List.set_cons_zero, List.set_cons_succ]
        refine wpAnyH_take (i := 9) (v := ?_) rfl (by kernel_rfl) (by kernel_rfl) (by kernel_rfl) (fun _ _ _ h => h) (Or.inl ⟨by rfl, ?_⟩) (by assumption) ?_
        rotate_left
        · intro W' hSw; obtain ⟨s0, s1, s2, s3, s4, s5, s6⟩ := hSw; go_simp; try with_reducible rfl
        try simp only [Act.put, List.getElem_toArray, List.getElem_cons_succ, List.getElem_cons_zero, List.setIfInBounds_toArray, List.set_cons_zero, List.set_cons_succ]
        refine wpAnyH_take (i := 10) (v := ?_) rfl (by kernel_rfl) (by kernel_rfl) (by kernel_rfl) (fun _ _ _ h => h) (Or.inl ⟨by rfl, ?_⟩) (by assumption) ?_
        rotate_left
        · intro W' hSw; obtain ⟨s0, s1, s2, s3, s4, s5, s6⟩ := hSw; go_simp; try with_reducible rfl
        try simp only [Act.put, List.getElem_toArray, List.getElem_cons_succ, List.getElem_cons_zero, List.setIfInBounds_toArray, List.set_cons_zero, List.set_cons_succ]
        refine wpAnyH_take (i := 11) (v := ?_) rfl (by kernel_rfl) (by kernel_rfl) (by kernel_rfl) (fun _ _ _ h => h) (Or.inl ⟨by rfl, ?_⟩) (by assumption) ?_
        rotate_left
        · intro W' hSw; obtain ⟨s0, s1, s2, s3, s4, s5, s6⟩ := hSw; go_simp; try with_reducible rfl
        try simp only [Act.put, List.getElem_toArray, List.getElem_cons_succ, List.getElem_cons_zero, List.setIfInBounds_toArray, List.set_cons_zero, List.set_cons_succ]
        refine wpAnyH_ready (rs := [12]) (by kernel_rfl) (by simp) ?_
        refine AllReadyH.cons rfl (fun KK hK => ?_) AllReadyH.nil
        go_simp
        refine (HHZ.out _ HSD.out).mono ?_
        rintro e w3 ⟨rfl, h3⟩
        have HS3 : Hid (OrS w w3 A B N au la [] (.slice b m d) m U) := h3
        clear h3
        refine hK.out _ _ (HXX.out _ HS3.out.below) (fun hHeld => ?_)
        clear hK KK
        try simp only [Act.put, List.getElem_toArray, List.getElem_cons_succ, List.getElem_cons_zero, List.setIfInBounds_toArray, List.set_cons_zero, List.set_cons_succ]
        refine wpAnyH_take (i := 13) (v := ?_) rfl (by kernel_rfl) (by kernel_rfl) (by kernel_rfl) (fun _ _ _ h => h) (Or.inl ⟨by rfl, ?_⟩) (by assumption) ?_
        rotate_left
        · intro W' hSw; obtain ⟨s0, s1, s2, s3, s4, s5, s6⟩ := hSw; go_simp; try with_reducible rfl
        try simp only [Act.put, List.getElem_toArray, List.getElem_cons_succ, List.getElem_cons_zero, List.setIfInBounds_toArray, List.set_cons_zero, List.set_cons_succ]
        refine wpAnyH_done (by kernel_rfl) ?_ _
        refine NoPanic.normal ?_
        clear hHeld
        obtain ⟨c0, c1, c2, c3, c4, c5, c6⟩ := HXX.out w3 HS3.out.below
        go_wp2_with (go_at_call 20; refine (HAD.out _ _ _ _ _ HS3.out).mono ?_; rintro e w5 ⟨rfl, h1⟩; have HS5 : Hid (OrS w w5 A B N au l2 [] (.slice b m d) m U) := h1; clear h1)
        go_roundw
        case rel => exact ⟨i + 1, m, d, b, U, l2, by go_num, rfl, by omega, by omega, HL2.out, HU2.out, HS5.out⟩
        case measure => simp [RowKit.intOf]; omega
    · have HMM : Hid (i ≤ 40) := hi40
      have hcs : ((¬ i < len) ∧ decide ((i : Int) < (len : Int)) = false) ∨ (i < len ∧ decide ((i : Int) < (len : Int)) = true ∧ (¬ i < 40) ∧ decide ((i : Int) < 40) = false) := by
        rcases Nat.lt_or_ge i len with q | q
        · exact .inr ⟨q, by simpa using q, by omega, by simp; omega⟩
        · exact .inl ⟨by omega, by simp; omega⟩
      have HMU : Hid (m = U.length) := by
        obtain ⟨_, _, _, _, h2⟩ := HS.out
        have := h2.1
        rw [flatP_len] at this
        show m = U.length
        omega
      have hw1 : IntKind.i64.wrap ((m : Int) - 1) = (m : Int) - 1 := by rw [IntKind.wrap_i64]; omega
      have hw2 : wrap64 ((m : Int) - 1) = (m : Int) - 1 := by unfold wrap64; omega
      clear HX hlt hil hi40 hla
      rcases hcs with ⟨hn1, hd1⟩ | ⟨hn1, hd1, hn2, hd2⟩
      all_goals
        go_upto_region 15 with fail
        clear hw1 hw2 hd1
        go_loopw [10] (fun x10 wr => ∃ (j : Nat) (lb : List Opn), x10 = .int .i64 ((j : Int) - 1) ∧ j ≤ m ∧ BkK la lb U j ∧ OrS w wr A B N au la lb (.slice b m d) m U) (fun x10 _ => (RowKit.intOf x10 + 1).toNat)
        case atStart => exact ⟨m, [], rfl, Nat.le_refl _, ⟨List.Pairwise.nil, fun x hx => (by cases hx), fun k h1 h2 => absurd h2 (by have := HMU.out; omega)⟩, HS.out⟩
        case round =>
          obtain ⟨j, lb, h10, hjm, hbk, hs⟩ := hrel
          subst h10
          have HBK : Hid (BkK la lb U j) := hbk
          have HSJ : Hid (OrS w wr A B N au la lb (.slice b m d) m U) := hs
          clear hbk hs HS
          by_cases hj0 : 0 < j
          · obtain ⟨k, rfl⟩ : ∃ k, j = k + 1 := ⟨j - 1, by omega⟩
            have hk1 : ((k + 1 : Nat) : Int) - 1 = (k : Int) := by omega
            rw [hk1]
            have hjd : decide ((0 : Int) ≤ (k : Int)) = true := decide_eq_true (by omega)
            have hkm : k < m := hjm
            have hkz : (0 : Int) ≤ (k : Int) := by omega
            have hkz2 : (k : Int) < (m : Int) := by omega
            have hw3 : IntKind.i64.wrap ((k : Int) - 1) = (k : Int) - 1 := by rw [IntKind.wrap_i64]; omega
            have hw4 : wrap64 ((k : Int) - 1) = (k : Int) - 1 := by unfold wrap64; omega
            obtain ⟨a', c', hv, _, _, hru, _⟩ := rdP_own HSJ.out.2.2.2.2
            cases hv
            obtain ⟨b1, o1, hab, c0, c1, c2, c3, c4, c5, c6⟩ := hru.at k hkm
            subst hab
            have hdn := bkK_down HUN.out HBK.out (by have := HMU.out; omega) HSJ.out.len.1
            obtain ⟨p, hp⟩ : ∃ p, p = U.getD k op0 := ⟨_, rfl⟩
            rw [← hp] at c0 c1 c2 c3 c4 c5 c6 hdn
            have HADD : Hid (Calls Try.prog 20 #[.pointer (some ⟨B, 0, none⟩), p.val] wr fun e w' => e = .returned (.int .i64 0) ∧ BkK la (addK lb 40 p) U k ∧ OrS w w' A B N au la (addK lb 40 p) (.slice (some ⟨b1, o1, none⟩) m d) m U) := (o_add HSJ.out.swap p).mono (by
              rintro e w' ⟨rfl, q⟩
              exact ⟨by rw [hdn.2], hdn.1, q.swap⟩)
            clear hdn hp HBK HSJ hru
            generalize addK lb 40 p = lb2 at HADD
            obtain ⟨pc, pa, ps, pi, prc, pra, pch⟩ := p
            simp only [Opn.val] at HADD c0 c1 c2 c3 c4 c5 c6
            go_wp2_with (go_at_call 20; refine HADD.out.mono ?_; rintro e w5 ⟨rfl, h1, h2⟩; have HS5 : Hid (BkK la lb2 U k ∧ OrS w w5 A B N au la lb2 (.slice (some ⟨b1, o1, none⟩) m d) m U) := ⟨h1, h2⟩; clear h1 h2)
            go_roundw
            case rel => exact ⟨k, lb2, rfl, by omega, HS5.out.1, HS5.out.2⟩
            case measure => simp [RowKit.intOf]
          · obtain rfl : j = 0 := by omega
            have hjd2 : ((0 : Nat) : Int) - 1 = -1 := by decide
            rw [hjd2]
            obtain rfl : lb = la := bkK_end HUN.out HBK.out
            obtain ⟨lf, hlf⟩ : ∃ lf, lf = lb.filter fun x => !decide (x.a ≤ au) := ⟨_, rfl⟩
            obtain ⟨q, hq⟩ : ∃ q, q = lf.length := ⟨_, rfl⟩
            have HQ : Hid (q = lf.length) := hq
            have hql : q ≤ m := by
              have h1 := HMU.out
              have h2 := HUN.out.2.1
              have h3 := List.length_filter_le (fun x : Opn => !decide (x.a ≤ au)) lb
              rw [hq, hlf]
              omega
            have HLM : Hid (lb.length = m) := by
              have h1 := HMU.out
              have h2 := HUN.out.2.1
              show lb.length = m
              omega
            have HDA : Hid (∀ V l2, OrS w V A B N au lb l2 (.slice b m d) m U → Calls Try.prog 16 #[.pointer (some ⟨A, 0, none⟩), .func (.func 29) #[] #[.pointer (some ⟨N, 0, none⟩)]] V fun z w' => z = .returned (.int .i64 ((m : Int) - (q : Int))) ∧ OrS w w' A B N au lf l2 (.slice b m d) m U) := fun V l2 h => by
              have := o_drop h
              rw [← hlf, ← hq, HLM.out] at this
              exact this
            have HDB : Hid (∀ V l2, OrS w V A B N au l2 lb (.slice b m d) m U → Calls Try.prog 16 #[.pointer (some ⟨B, 0, none⟩), .func (.func 29) #[] #[.pointer (some ⟨N, 0, none⟩)]] V fun z w' => z = .returned (.int .i64 ((m : Int) - (q : Int))) ∧ OrS w w' A B N au l2 lf (.slice b m d) m U) := fun V l2 h => by
              have := o_drop h.swap
              rw [← hlf, ← hq, HLM.out] at this
              exact this.mono (by rintro z w' ⟨h1, h2⟩; exact ⟨h1, h2.swap⟩)
            have hw5 : IntKind.i64.wrap ((m : Int) - ((m : Int) - (q : Int))) = (q : Int) := by rw [IntKind.wrap_i64]; omega
            have hw6 : wrap64 ((m : Int) - ((m : Int) - (q : Int))) = (q : Int) := by unfold wrap64; omega
            clear hlf hq HUN HBK
            go_upto_region 20 with (first
              | (go_at_call 23; refine (o_same HA2.out.2.2 lb lb _ _ _ _ _ _ HA2.out.1 HA2.out.2.1 (by have := HLM.out; omega) true (by simp)).mono ?_; rintro z w7 ⟨rfl, h1⟩; have HS7 : Hid (OrS w w7 A B N au lb lb (.slice b m d) m U) := h1; clear h1)
              | (go_at_call 22; (first
                  | (refine (o_all HA1.out.2.swap).mono ?_; rintro z w6 ⟨b6, c6, rfl, h1, h2, h3⟩; have HA2 : Hid (RdP w6 b5 lb.length lb ∧ RdP w6 b6 lb.length lb ∧ OrS w w6 A B N au lb lb (.slice b m d) m U) := ⟨HA1.out.1.later h3, h1, h2.swap⟩; clear h1 h2 h3)
                  | (refine (o_all HSJ.out).mono ?_; rintro z w5 ⟨b5, c5, rfl, h1, h2, h3⟩; have HA1 : Hid (RdP w5 b5 lb.length lb ∧ OrS w w5 A B N au lb lb (.slice b m d) m U) := ⟨h1, h2⟩; clear h1 h2 h3))))
            clear HA1 HA2 HSJ
            go_upto_region 22 with (go_at_call 16; refine (HDA.out _ _ HS7.out).mono ?_; rintro z w8 ⟨rfl, h1⟩; have HS8 : Hid (OrS w w8 A B N au lf lb (.slice b m d) m U) := h1; clear h1)
            have HLE : Hid (∀ V, OrS w V A B N au lf lf (.slice b m d) m U → Calls Try.prog 25 #[.pointer (some ⟨A, 0, none⟩)] V fun z w' => z = .returned (.int .i64 (q : Int)) ∧ w' = V) := fun V h => by rw [HQ.out]; exact o_len h
            clear HDA HS7
            go_wp2_with (first
              | (go_at_call 25; refine (HLE.out _ HS12.out).mono ?_; rintro e w13 ⟨rfl, h1⟩; have h1 := h1.symm; subst h1)
              | (go_at_call 23; refine (o_same HA4.out.2.2 lf lf _ _ _ _ _ _ HA4.out.1 HA4.out.2.1 (by have := HQ.out; omega) true (by simp)).mono ?_; rintro z w12 ⟨rfl, h1⟩; have HS12 : Hid (OrS w w12 A B N au lf lf (.slice b m d) m U) := h1; clear h1)
              | (go_at_call 22; (first
                  | (refine (o_all HA3.out.2.swap).mono ?_; rintro z w11 ⟨b11, c11, rfl, h1, h2, h3⟩; have HA4 : Hid (RdP w11 b10 lf.length lf ∧ RdP w11 b11 lf.length lf ∧ OrS w w11 A B N au lf lf (.slice b m d) m U) := ⟨HA3.out.1.later h3, h1, h2.swap⟩; clear h1 h2 h3)
                  | (refine (o_all HS9.out).mono ?_; rintro z w10 ⟨b10, c10, rfl, h1, h2, h3⟩; have HA3 : Hid (RdP w10 b10 lf.length lf ∧ OrS w w10 A B N au lf lf (.slice b m d) m U) := ⟨h1, h2⟩; clear h1 h2 h3)))
              | (go_at_call 16; refine (HDB.out _ _ HS8.out).mono ?_; rintro z w9 ⟨rfl, h1⟩; have HS9 : Hid (OrS w w9 A B N au lf lf (.slice b m d) m U) := h1; clear h1))
            go_ret
            exact ⟨rfl, HS12.out.below⟩
end Go.Proofs.Ytcmgmoacpkikdaa
