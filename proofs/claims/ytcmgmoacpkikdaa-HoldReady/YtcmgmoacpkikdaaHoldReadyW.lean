/- The walk of HoldReady: the first that may go goes, and nobody else. -/
import Derived.Test.YtcmgmoacpkikdaaHoldReadyR
namespace Go.Proofs.Ytcmgmoacpkikdaa
open Go.RowKit Go.Sort
set_option linter.unusedVariables false
set_option linter.unusedSimpArgs false

/-- How many are there, by the hold's box. -/
def lenW (P : Nat) (w : World) : Nat := match w.cell? ⟨P, 1, none⟩ with
  | some (.slice _ n _) => n
  | _ => 0
theorem RyS.lenW {w V : World} {P N M : Nat} {e rs : Int} {l L : List Opn} {wv : Value} {n : Nat} (h : RyS w V P N M e rs l wv n L) : lenW P V = l.length := by
  obtain ⟨⟨_, _, v, h1, _⟩, _⟩ := h
  obtain ⟨a, cap, rfl, _⟩ := h1.rd
  have := h1.cells.2.1
  unfold Go.Proofs.Ytcmgmoacpkikdaa.lenW
  rw [this]
/-- The first from j on of which P holds, or none. -/
def FstK (l : List Opn) (P : Opn → Bool) (n j : Nat) (z : Int) : Prop :=
  (z = -1 ∧ ∀ k, j ≤ k → k < n → P (l.getD k op0) = false) ∨ (∃ k : Nat, z = (k : Int) ∧ j ≤ k ∧ k < n ∧ P (l.getD k op0) = true ∧ ∀ q, j ≤ q → q < k → P (l.getD q op0) = false)
theorem fstK_up {l : List Opn} {P : Opn → Bool} {n j : Nat} {z : Int} (h : FstK l P n (j + 1) z) (hj : j < n) : FstK l P n j (if P (l.getD j op0) = true then (j : Int) else z) := by
  by_cases hp : P (l.getD j op0) = true
  · rw [if_pos hp]
    exact .inr ⟨j, rfl, Nat.le_refl _, hj, hp, fun q h1 h2 => by omega⟩
  · rw [if_neg hp]
    have hpf : P (l.getD j op0) = false := by simpa using hp
    rcases h with ⟨h1, h2⟩ | ⟨k, h1, h2, h3, h4, h5⟩
    · refine .inl ⟨h1, fun k q1 q2 => ?_⟩
      rcases Nat.eq_or_lt_of_le q1 with rfl | q1
      · exact hpf
      · exact h2 k q1 q2
    · refine .inr ⟨k, h1, by omega, h3, h4, fun q q1 q2 => ?_⟩
      rcases Nat.eq_or_lt_of_le q1 with rfl | q1
      · exact hpf
      · exact h5 q q1 q2
set_option maxRecDepth 100000 in
set_option maxHeartbeats 16000000 in
theorem holdReady_walk (xs : List Opn) (a : Option Addr) (len cap : Nat) (ev re : Int) (w : World) (hrd : RdP w a len xs) (lo0 : -9223372036854775808 ≤ ev) (hi0 : ev ≤ 9223372036854775807) (lo : -9223372036854775808 ≤ re) (hi : re ≤ 9223372036854775807) :
    Calls Try.prog 7 #[.slice a len cap, .int .i64 ev, .int .i64 re] w fun e w' => e = .returned (.bool true) ∧ Below w.heap.size w w' := by
  have mixed : Try.prog.follows .mixedOrders = true := by kernel_rfl
  obtain ⟨i0, ji, jz0, jz1, jz2⟩ := info_parts info_P
  have HJ : Hid (Try.prog.info? 31 = some i0 ∧ i0.zero = some op0.val ∧ i0.size = 7 ∧ i0.bytes = 56) := ⟨ji, jz0, jz1, jz2⟩
  obtain ⟨e7, he7⟩ : ∃ r : Nat, bits .and .i64 ev 7 = (r : Int) := ⟨(ev % 2 ^ 3).toNat, by rw [and_low ev 7 3 (by omega) (by decide)]; omega⟩
  have he78 : e7 ≤ 7 := by have := and_low ev 7 3 (by omega) (by decide); omega
  obtain ⟨e, hee⟩ : ∃ e : Int, e = 1 + (e7 : Int) := ⟨_, rfl⟩
  have he0 : e ≠ 0 := by omega
  have hw1 : IntKind.i64.wrap (1 + (e7 : Int)) = e := by rw [IntKind.wrap_i64]; omega
  have hw2 : wrap64 (1 + (e7 : Int)) = e := by unfold wrap64; omega
  obtain ⟨rs, hrs⟩ : ∃ rs : Int, rs = (bits .and .i64 re 7).tmod e := ⟨_, rfl⟩
  have HX : Hid (∀ w', Below w.heap.size w w' → RdP w' a len xs) := fun w' h => hrd.later h
  obtain ⟨W0, hW0⟩ : ∃ W0, W0 = (w.alloc (bxI ev)).alloc (bxI re) := ⟨_, rfl⟩
  obtain ⟨N, hN⟩ : ∃ N, N = w.heap.size := ⟨_, rfl⟩
  obtain ⟨M, hM⟩ : ∃ M, M = w.heap.size + 1 := ⟨_, rfl⟩
  have hb0 : Below w.heap.size w W0 := by rw [hW0]; exact ((Below.refl _ w).alloc (Nat.le_refl _) _).alloc (by simp) _
  have hx0 : W0.heap[N]? = some (bxI ev) := by
    rw [hW0, hN]
    exact (((Below.refl _ _).alloc (Nat.le_refl _) _).block w.heap.size (by simp)).trans (heap_alloc_new w _)
  have hy0 : W0.heap[M]? = some (bxI re) := by
    rw [hW0, hM]
    have := heap_alloc_new (w.alloc (bxI ev)) (bxI re)
    simpa using this
  have HNM : Hid (w.heap.size ≤ N ∧ w.heap.size ≤ M ∧ M ≠ N) := ⟨by omega, by omega, by omega⟩
  have HSH : Hid (Calls Try.prog 9 #[] W0 fun e w' => e = .returned (.bool true) ∧ Below w.heap.size w w' ∧ w'.heap[N]? = some (bxI ev) ∧ w'.heap[M]? = some (bxI re)) := (shown16_any W0).mono (by
    rintro e w' ⟨rfl, hb⟩
    exact ⟨rfl, hb0.trans (hb.mono hb0.size), bel_heap hb hx0, bel_heap hb hy0⟩)
  have HNW : Hid (∀ w1, Below w.heap.size w w1 ∧ w1.heap[N]? = some (bxI ev) ∧ w1.heap[M]? = some (bxI re) → Calls Try.prog 10 #[.int .i64 40] w1 fun e w' => ∃ P, e = .returned (.pointer (some ⟨P, 0, none⟩)) ∧ RyS w w' P N M ev re (adsK 40 (xs.take 0)) (.slice none 0 0) 0 []) := fun w1 hb => (h_new hb.1 40 (by omega) (fun k => (k = N ∨ k = M) ∨ (Value.slice none 0 0).ownBlock = some k) (fun k h => by
      rcases h with (rfl | rfl) | h
      · exact (Array.getElem?_eq_some_iff.1 hb.2.1).1
      · exact (Array.getElem?_eq_some_iff.1 hb.2.2).1
      · cases h)).mono (by
    rintro e w' ⟨P, rfl, q, hb2, _⟩
    exact ⟨P, rfl, q, bel_heap hb2 hb.2.1, bel_heap hb2 hb.2.2, World.ownsRow_nil _ _ _ _⟩)
  have HLX : Hid (xs.length = len) := hrd.1
  clear hrd hb0 hx0 hy0 lo hi lo0 hi0 ji jz0 jz1 jz2 hee
  go_enter Try.func7, Try.ntmps7
  go_upto_region 1 with fail
  rw [← hM, ← hN, ← hW0]
  clear hN hM hW0
  go_upto_region 5 with (first
    | (go_at_call 9; refine HSH.out.mono ?_; rintro e w1 ⟨rfl, hb⟩; have HB1 : Hid (Below w.heap.size w w1 ∧ w1.heap[N]? = some (bxI ev) ∧ w1.heap[M]? = some (bxI re)) := hb; clear hb)
    | (go_at_call 10; refine (HNW.out _ HB1.out).mono ?_; rintro e w2 ⟨P, rfl, hs⟩; have HS0 : Hid (RyS w w2 P N M ev re (adsK 40 (xs.take 0)) (.slice none 0 0) 0 []) := hs; clear hs))
  clear HSH HNW HB1
  go_wp2
  go_loopw [9] (fun x9 wr => ∃ i : Nat, x9 = .int .i64 (i : Int) ∧ i ≤ len ∧ i ≤ 40 ∧ RyS w wr P N M ev re (adsK 40 (xs.take i)) (.slice none 0 0) 0 []) (fun x9 _ => 40 - (RowKit.intOf x9).toNat)
  case atStart => exact ⟨0, rfl, by omega, by omega, HS0.out⟩
  case round =>
    obtain ⟨i, h9, hil, hi40, hs⟩ := hrel
    subst h9
    have HS : Hid (RyS w wr P N M ev re (adsK 40 (xs.take i)) (.slice none 0 0) 0 []) := hs
    clear hs HS0
    by_cases hlt : i < len ∧ i < 40
    · obtain ⟨hlt, h40⟩ := hlt
      have hd1 : decide ((i : Int) < (len : Int)) = true := by simpa using hlt
      have hd2 : decide ((i : Int) < 40) = true := decide_eq_true (by omega)
      obtain ⟨b1, o1, hab, c0, c1, c2, c3, c4, c5, c6⟩ := (HX.out wr HS.out.below).at i hlt
      subst hab
      obtain ⟨p, hp⟩ : ∃ p, p = xs.getD i op0 := ⟨_, rfl⟩
      rw [← hp] at c0 c1 c2 c3 c4 c5 c6
      have HADD : Hid (Calls Try.prog 20 #[.pointer (some ⟨P, 0, none⟩), p.val] wr fun e w' => ∃ z : Int, e = .returned (.int .i64 z) ∧ RyS w w' P N M ev re (adsK 40 (xs.take (i + 1))) (.slice none 0 0) 0 []) := (r_add HS.out p).mono (by
        rintro e w' ⟨rfl, q⟩
        rw [adsK_snoc 40 xs i (by rw [HLX.out]; exact hlt), ← hp]
        exact ⟨_, rfl, q⟩)
      clear hp HX HS hrs he7
      obtain ⟨pc, pa, ps, pi, prc, pra, pch⟩ := p
      simp only [Opn.val] at HADD c0 c1 c2 c3 c4 c5 c6
      go_wp2_with (go_at_call 20; refine HADD.out.mono ?_; rintro e w3 ⟨z, rfl, h3⟩; have HS3 : Hid (RyS w w3 P N M ev re (adsK 40 (xs.take (i + 1))) (.slice none 0 0) 0 []) := h3; clear h3)
      go_roundw
      case rel => exact ⟨i + 1, by go_num, by omega, by omega, HS3.out⟩
      case measure => simp [RowKit.intOf]; omega
    · have HMM : Hid (i ≤ 40) := hi40
      have hcs : ((¬ i < len) ∧ decide ((i : Int) < (len : Int)) = false) ∨ (i < len ∧ decide ((i : Int) < (len : Int)) = true ∧ (¬ i < 40) ∧ decide ((i : Int) < 40) = false) := by
        rcases Nat.lt_or_ge i len with q | q
        · exact .inr ⟨q, by simpa using q, by omega, by simp; omega⟩
        · exact .inl ⟨by omega, by simp; omega⟩
      obtain ⟨L0, hL⟩ : ∃ L0, L0 = adsK 40 (xs.take i) := ⟨_, rfl⟩
      have HSL : Hid (RyS w wr P N M ev re L0 (.slice none 0 0) 0 []) := by rw [hL]; exact HS.out
      obtain ⟨⟨g1, g2⟩, g3, g4⟩ := HSL.out.cells
      clear hL HS HX HLX hlt hil hi40
      have HSM : Hid (RyS w (wr.setCell ⟨N, 0, none⟩ (.int .i64 e)) P N M e re L0 (.slice none 0 0) 0 []) := HSL.out.setN HNM.out.1 HNM.out.2.2 e
      have hnm : N ≠ M := fun q => HNM.out.2.2 q.symm
      have hmn : M ≠ N := HNM.out.2.2
      rcases hcs with ⟨hn1, hd1⟩ | ⟨hn1, hd1, hn2, hd2⟩
      all_goals
        go_upto_region 10 with fail
        obtain ⟨W1, hW1⟩ : ∃ W1, W1 = wr.setCell ⟨N, 0, none⟩ (.int .i64 e) := ⟨_, rfl⟩
        rw [← hW1] at HSM ⊢
        clear hW1 g1 g2 g3 g4 HSL hd1
        obtain ⟨⟨g1, g2⟩, g3, g4⟩ := HSM.out.cells
        have HSN : Hid (RyS w (W1.setCell ⟨M, 0, none⟩ (.int .i64 rs)) P N M e rs L0 (.slice none 0 0) 0 []) := HSM.out.setM HNM.out.2.1 HNM.out.2.2 rs
        rw [hrs] at HSN
        go_upto_region 11 with fail
        rw [← hrs] at HSN ⊢
        obtain ⟨W2, hW2⟩ : ∃ W2, W2 = W1.setCell ⟨M, 0, none⟩ (.int .i64 rs) := ⟨_, rfl⟩
        rw [← hW2] at HSN ⊢
        clear hW2 g1 g2 g3 g4 HSM hrs he7 hw1 hw2 hnm hmn
        have HLE : Hid (∀ V l wv n L, RyS w V P N M e rs l wv n L → Calls Try.prog 25 #[.pointer (some ⟨P, 0, none⟩)] V fun z w' => z = .returned (.int .i64 (l.length : Int)) ∧ w' = V) := fun V l wv n L h => h_len h.1
        go_wp2
        go_loopw [12] (fun x12 wr => ∃ l : List Opn, RyS w wr P N M e rs l (.slice none 0 0) 0 []) (fun x12 wr => lenW P wr)
        case atStart => exact ⟨L0, HSN.out⟩
        case round =>
          obtain ⟨l, hs⟩ := hrel
          have HS : Hid (RyS w wr P N M e rs l (.slice none 0 0) 0 []) := hs
          clear hs HSN
          have hl40 := HS.out.len.1
          obtain ⟨n, hn⟩ : ∃ n, n = l.length := ⟨_, rfl⟩
          have HNL : Hid (n = l.length) := hn
          have HLE1 : Hid (Calls Try.prog 25 #[.pointer (some ⟨P, 0, none⟩)] wr fun z w' => z = .returned (.int .i64 (n : Int)) ∧ w' = wr) := by rw [hn]; exact HLE.out wr l _ _ _ HS.out
          have HMEA : Hid (lenW P wr = n) := by
            have := HS.out.lenW
            show _ = n
            omega
          have HALL : Hid (Calls Try.prog 22 #[.pointer (some ⟨P, 0, none⟩)] wr fun z w' => ∃ a2 c2, z = .returned (.slice a2 n c2) ∧ RyS w w' P N M e rs l (.slice a2 n c2) n l) := (r_all HS.out).mono (by
            rintro z w' ⟨a2, c2, rfl, -, -, q, -⟩
            rw [hn]
            exact ⟨a2, c2, rfl, q⟩)
          rw [← hn] at hl40
          clear hn
          by_cases hn0 : 0 < n
          · have hnd : decide ((0 : Int) < (n : Int)) = true := by simpa using hn0
            have hw1 : IntKind.i64.wrap ((n : Int) - 1) = (n : Int) - 1 := by rw [IntKind.wrap_i64]; omega
            have hw2 : wrap64 ((n : Int) - 1) = (n : Int) - 1 := by unfold wrap64; omega
            go_upto_region 16 with (first
              | (go_at_call 22; refine HALL.out.mono ?_; rintro z w3 ⟨a2, c2, rfl, h1⟩; have HS3 : Hid (RyS w w3 P N M e rs l (.slice a2 n c2) n l) := h1; clear h1)
              | (go_at_call 25; refine HLE1.out.mono ?_; rintro e w8 ⟨rfl, h1⟩; have h1 := h1.symm; subst h1))
            clear HALL HLE1 HS
            go_loopw [12, 13] (fun x12 x13 wr => ∃ (j : Nat) (z : Int), x12 = .int .i64 z ∧ x13 = .int .i64 ((j : Int) - 1) ∧ j ≤ n ∧ FstK l (modB e rs) n j z ∧ RyS w wr P N M e rs l (.slice a2 n c2) n l) (fun _ x13 _ => (RowKit.intOf x13 + 1).toNat)
            case atStart => exact ⟨n, -1, rfl, rfl, Nat.le_refl _, .inl ⟨rfl, fun k h1 h2 => by omega⟩, HS3.out⟩
            case round =>
              obtain ⟨j, z, h12, h13, hjn, hf, hs⟩ := hrel
              subst h12 h13
              have HF : Hid (FstK l (modB e rs) n j z) := hf
              have HSJ : Hid (RyS w wr P N M e rs l (.slice a2 n c2) n l) := hs
              clear hf hs HS3 hw1 hw2
              by_cases hj0 : 0 < j
              · obtain ⟨k, rfl⟩ : ∃ k, j = k + 1 := ⟨j - 1, by omega⟩
                have hk1 : ((k + 1 : Nat) : Int) - 1 = (k : Int) := by omega
                rw [hk1]
                have hjd : decide ((0 : Int) ≤ (k : Int)) = true := decide_eq_true (by omega)
                have hkn : k < n := hjn
                have hkz : (0 : Int) ≤ (k : Int) := by omega
                have hkz2 : (k : Int) < (n : Int) := by omega
                have hw3 : IntKind.i64.wrap ((k : Int) - 1) = (k : Int) - 1 := by rw [IntKind.wrap_i64]; omega
                have hw4 : wrap64 ((k : Int) - 1) = (k : Int) - 1 := by unfold wrap64; omega
                obtain ⟨b1, o1, hab, c0, c1, c2', c3, c4, c5, c6⟩ := HSJ.out.rd.1.at k hkn
                subst hab
                have hup := fstK_up HF.out hkn
                obtain ⟨p, hp⟩ : ∃ p, p = l.getD k op0 := ⟨_, rfl⟩
                rw [← hp] at c0 c1 c2' c3 c4 c5 c6 hup
                have HCL : Calls Try.prog 30 #[p.val, .pointer (some ⟨N, 0, none⟩), .pointer (some ⟨M, 0, none⟩)] wr fun y w' => y = .returned (.bool (modB e rs p)) ∧ RyS w w' P N M e rs l (.slice (some ⟨b1, o1, none⟩) n c2) n l := (cl_mod N M e rs he0 p wr HSJ.out.2.1 HSJ.out.2.2.1).mono (by
                  rintro y w' ⟨rfl, hb⟩
                  exact ⟨rfl, HSJ.out.low hb⟩)
                cases hz : modB e rs p
                · rw [hz] at HCL
                  rw [if_neg (by rw [hz]; decide)] at hup
                  have HUP : Hid (FstK l (modB e rs) n k z) := hup
                  clear hup hz hp HF HSJ
                  obtain ⟨pc, pa, ps, pi, prc, pra, pch⟩ := p
                  simp only [Opn.val] at HCL c0 c1 c2' c3 c4 c5 c6
                  have HCL2 : Hid (type_of% HCL) := HCL
                  clear HCL
                  go_wp2_with (go_at_call 30; refine HCL2.out.mono ?_; rintro y w5 ⟨rfl, h1⟩; have HS5 : Hid (RyS w w5 P N M e rs l (.slice (some ⟨b1, o1, none⟩) n c2) n l) := h1; clear h1)
                  go_roundw
                  case rel => exact ⟨k, z, rfl, rfl, by omega, HUP.out, HS5.out⟩
                  case measure => simp [RowKit.intOf]
                · rw [hz] at HCL
                  rw [if_pos hz] at hup
                  have HUP : Hid (FstK l (modB e rs) n k (k : Int)) := hup
                  clear hup hz hp HF HSJ
                  obtain ⟨pc, pa, ps, pi, prc, pra, pch⟩ := p
                  simp only [Opn.val] at HCL c0 c1 c2' c3 c4 c5 c6
                  have HCL2 : Hid (type_of% HCL) := HCL
                  clear HCL
                  go_wp2_with (go_at_call 30; refine HCL2.out.mono ?_; rintro y w5 ⟨rfl, h1⟩; have HS5 : Hid (RyS w w5 P N M e rs l (.slice (some ⟨b1, o1, none⟩) n c2) n l) := h1; clear h1)
                  go_roundw
                  case rel => exact ⟨k, (k : Int), rfl, rfl, by omega, HUP.out, HS5.out⟩
                  case measure => simp [RowKit.intOf]
              · obtain rfl : j = 0 := by omega
                have hjd : decide ((0 : Int) ≤ ((0 : Nat) : Int) - 1) = false := by decide
                have hjd2 : ((0 : Nat) : Int) - 1 = -1 := by decide
                rw [hjd2]
                rcases HF.out with ⟨rfl, hno⟩ | ⟨k, rfl, -, hkn, hpk, hno⟩
                · have HRD : Hid (Calls Try.prog 13 #[.pointer (some ⟨P, 0, none⟩), (.func (.func 30) #[] #[.pointer (some ⟨N, 0, none⟩), .pointer (some ⟨M, 0, none⟩)])] wr fun y w' => y = .returned (.tuple #[.agg #[.int .i64 0, .int .i64 0, .int .i64 0, .bool false, .int .i64 0, .int .i64 0, .int .i32 0], .bool false]) ∧ RyS w w' P N M e rs l (.slice a2 n c2) n l) := (r_ready HSJ.out he0).mono (by
                    have hfn : l.find? (modB e rs) = none := find_no fun j hj => hno j (by omega) (by have := HNL.out; omega)
                    rintro y w' (⟨o, h1, _⟩ | ⟨_, rfl, h2⟩)
                    · rw [hfn] at h1; cases h1
                    · exact ⟨rfl, h2⟩)
                  clear hno HF HSJ
                  go_upto_region 21 with (go_at_call 13; refine HRD.out.mono ?_; rintro y w5 ⟨rfl, h1⟩; have HS5 : Hid (RyS w w5 P N M e rs l (.slice a2 n c2) n l) := h1; clear h1)
                  obtain ⟨W6, hW6⟩ : ∃ W6, W6 = w5.alloc (.cells #[.int .i64 0, .int .i64 0, .int .i64 0, .bool false, .int .i64 0, .int .i64 0, .int .i32 0] 31) := ⟨_, rfl⟩
                  obtain ⟨X, hX⟩ : ∃ X, X = w5.heap.size := ⟨_, rfl⟩
                  have hb6 : Below w5.heap.size w5 W6 := by rw [hW6]; exact (Below.refl _ w5).alloc (Nat.le_refl _) _
                  have hx6 : W6.heap[X]? = some (bxP op0) := by rw [hW6, hX]; exact heap_alloc_new w5 _
                  have HS6 : Hid (RyS w W6 P N M e rs l (.slice a2 n c2) n l) := HS5.out.low hb6
                  obtain ⟨x0, x1, x2, x3, x4, x5, x6⟩ := opAt_box (o := op0) hx6
                  have hq := eql_opK op0 op0 true (by simp)
                  simp only [op0] at hq x0 x1 x2 x3 x4 x5 x6
                  rw [← hX, ← hW6]
                  clear hX hW6 hb6 hx6 HS5 HRD
                  go_wp2_with (first
                    | (go_at_call 22; refine (r_all HS6.out).mono ?_; rintro y w9 ⟨b9, c9, rfl, h1, h2, -⟩; have HS9 : Hid (RdP w9 b9 n l ∧ RyS w w9 P N M e rs l (.slice a2 n c2) n l) := (by rw [HNL.out]; rw [HNL.out] at h2; exact ⟨h1, h2⟩); clear h1 h2; rw [← HNL.out])
                    | (go_at_call 23; refine (r_same HS9.out.2 l l _ _ _ _ _ _ HS9.out.1 HS9.out.2.rd.1 (by omega) true (by simp)).mono ?_; rintro y w10 ⟨rfl, h1, -⟩; have HS10 : Hid (RyS w w10 P N M e rs l (.slice a2 n c2) n l) := h1; clear h1))
                  go_ret
                  exact ⟨rfl, HS10.out.below⟩
                · have HRD : Hid (∃ p, p = l.getD k op0 ∧ Calls Try.prog 13 #[.pointer (some ⟨P, 0, none⟩), (.func (.func 30) #[] #[.pointer (some ⟨N, 0, none⟩), .pointer (some ⟨M, 0, none⟩)])] wr fun y w' => y = .returned (.tuple #[p.val, .bool true]) ∧ RyS w w' P N M e rs (l.take k ++ l.drop (k + 1)) (.slice a2 n c2) n l) := ⟨_, rfl, (r_ready HSJ.out he0).mono (by
                    have hkl : k < l.length := by have := HNL.out; omega
                    have hfs : l.find? (modB e rs) = some (l.getD k op0) := find_at hkl (fun j hj => hno j (by omega) hj) hpk
                    rintro y w' (⟨o, h1, rfl, h2⟩ | ⟨h1, _⟩)
                    · rw [hfs] at h1
                      cases h1
                      rw [rem_at HSJ.out.len.2 k hkl] at h2
                      exact ⟨rfl, h2⟩
                    · rw [hfs] at h1; cases h1)⟩
                  clear hno hpk HF HSJ
                  obtain ⟨p, hp, HRP⟩ := HRD.out
                  have HPK : Hid (p = l.getD k op0) := hp
                  clear hp HRD
                  obtain ⟨pv, hpv⟩ : ∃ pv, pv = p := ⟨_, rfl⟩
                  rw [← hpv] at HPK
                  have HPV : Hid (pv = p) := hpv
                  clear hpv
                  obtain ⟨pc, pa, ps, pi, prc, pra, pch⟩ := p
                  simp only [Opn.val] at HRP
                  have HRP2 : Hid (type_of% HRP) := HRP
                  clear HRP
                  go_upto_region 21 with (go_at_call 13; refine HRP2.out.mono ?_; rintro y w5 ⟨rfl, h1⟩; have HS5 : Hid (RyS w w5 P N M e rs (l.take k ++ l.drop (k + 1)) (.slice a2 n c2) n l) := h1; clear h1)
                  obtain ⟨g, rfl⟩ := HS5.out.form hn0
                  obtain ⟨lst, hlst⟩ : ∃ lst, lst = l.take k ++ l.drop (k + 1) := ⟨_, rfl⟩
                  rw [← hlst] at HS5
                  have HLST : Hid (lst = l.take k ++ l.drop (k + 1)) := hlst
                  have HLL : Hid (lst.length = n - 1) := by
                    have := HNL.out
                    show lst.length = n - 1
                    rw [hlst, List.length_append, List.length_take, List.length_drop]
                    omega
                  clear hlst
                  obtain ⟨W6, hW6⟩ : ∃ W6, W6 = w5.alloc (.cells #[.int .i64 pc, .int .i64 pa, .int .i64 ps, .bool pi, .int .i64 prc, .int .i64 pra, .int .i32 pch] 31) := ⟨_, rfl⟩
                  obtain ⟨X, hX⟩ : ∃ X, X = w5.heap.size := ⟨_, rfl⟩
                  have hb6 : Below w5.heap.size w5 W6 := by rw [hW6]; exact (Below.refl _ w5).alloc (Nat.le_refl _) _
                  have hx6 : W6.heap[X]? = some (bxP ⟨pc, pa, ps, pi, prc, pra, pch⟩) := by rw [hW6, hX]; exact heap_alloc_new w5 _
                  have HS6 : Hid (RyS w W6 P N M e rs lst (.slice (some ⟨g, 0, none⟩) n c2) n l) := HS5.out.low hb6
                  have HRD6 : Hid (∀ V, Below W6.heap.size W6 V → RdP V (some ⟨g, 0, none⟩) n l) := fun V hV => HS6.out.rd.1.later hV
                  have HL6 : Hid (∀ V, Below W6.heap.size W6 V → RyS w V P N M e rs lst (.slice (some ⟨g, 0, none⟩) n c2) n l) := fun V hV => HS6.out.low hV
                  have HXY : Hid (∀ w', Below W6.heap.size W6 w' → (w'.cell? ⟨X, 0, none⟩ = some (.int .i64 pc) ∧ w'.cell? ⟨X, 1, none⟩ = some (.int .i64 pa) ∧ w'.cell? ⟨X, 2, none⟩ = some (.int .i64 ps) ∧ w'.cell? ⟨X, 3, none⟩ = some (.bool pi) ∧ w'.cell? ⟨X, 4, none⟩ = some (.int .i64 prc) ∧ w'.cell? ⟨X, 5, none⟩ = some (.int .i64 pra) ∧ w'.cell? ⟨X, 6, none⟩ = some (.int .i32 pch)) ∧ w'.cell? ⟨g, k * 7, none⟩ = some (.int .i64 pc) ∧ w'.cell? ⟨g, k * 7 + 1, none⟩ = some (.int .i64 pa) ∧ w'.cell? ⟨g, k * 7 + 2, none⟩ = some (.int .i64 ps) ∧ w'.cell? ⟨g, k * 7 + 3, none⟩ = some (.bool pi) ∧ w'.cell? ⟨g, k * 7 + 4, none⟩ = some (.int .i64 prc) ∧ w'.cell? ⟨g, k * 7 + 5, none⟩ = some (.int .i64 pra) ∧ w'.cell? ⟨g, k * 7 + 6, none⟩ = some (.int .i32 pch)) := fun V hV => by
                    refine ⟨opAt_box (o := ⟨pc, pa, ps, pi, prc, pra, pch⟩) (bel_heap hV hx6), ?_⟩
                    obtain ⟨b9, o9, h9, c9⟩ := (HS6.out.rd.1.later hV).at k hkn
                    cases h9
                    have h2 := HPK.out
                    rw [HPV.out] at h2
                    rw [← h2] at c9
                    simpa using c9
                  have hnc : n ≤ c2 := HS6.out.rd.2.1
                  have hc9 : c2 ≤ 9223372036854775807 := HS6.out.rd.2.2
                  have HA0b : Hid (Below W6.heap.size W6 (W6.drew.alloc (.cells #[] 31))) := (Below.refl _ W6).drew.alloc (Nat.le_refl _) _
                  have HA0 : Hid ((W6.drew.alloc (.cells #[] 31)).ownsRow W6.drew.heap.size 31 7 (.slice (some ⟨W6.heap.size, 0, none⟩) 0 0) 0 []) := World.ownsRow_made W6.drew #[] 0 (Nat.le_refl _) (by simp [maxLen]) rfl
                  have HA0r : Hid (RdP (W6.drew.alloc (.cells #[] 31)) (some ⟨g, 0, none⟩) n l) := HRD6.out _ HA0b.out
                  obtain ⟨o1, ho1⟩ : ∃ o1, o1 = if c2 = k + 1 then 0 else (k + 1) * 7 := ⟨_, rfl⟩
                  have HO1 : Hid (o1 = if c2 = k + 1 then 0 else (k + 1) * 7) := ho1
                  have k1 : ∀ W, (Instr.slice 43 (.slice (some ⟨g, 0, none⟩) n c2) none (some (.int .i64 k)) none).run Try.prog W = .ok (.slice (some ⟨g, 0, none⟩) k c2) W := fun W => cutP_to _ n c2 k (by omega) W
                  have k2 : ∀ W, (Instr.slice 43 (.slice (some ⟨g, 0, none⟩) n c2) (some (.int .i64 ((k : Int) + 1))) none none).run Try.prog W = .ok (.slice (some ⟨g, o1, none⟩) (n - (k + 1)) (c2 - (k + 1))) W := fun W => by
                    have := cutP_from g n c2 (k + 1) (by omega) hnc W
                    rw [← ho1, Int.natCast_add] at this
                    exact this
                  have hw5 : IntKind.i64.wrap ((k : Int) + 1) = (k : Int) + 1 := by rw [IntKind.wrap_i64]; omega
                  have hkd : decide ((0 : Int) ≤ (k : Int)) = true := decide_eq_true (by omega)
                  have hkz : (0 : Int) ≤ (k : Int) := by omega
                  have hkz2 : (k : Int) < (n : Int) := by omega
                  have hq := neq_opK ⟨pc, pa, ps, pi, prc, pra, pch⟩ ⟨pc, pa, ps, pi, prc, pra, pch⟩ false (by simp)
                  simp only at hq
                  rw [← hX, ← hW6]
                  clear hX hW6 hb6 hx6 HS5 HRP2 ho1
                  go_upto_region 25 with fail
                  refine wp_region_any (by kernel_rfl) ?_
                  try (change wpAny _ _ _ _ _ _ _ (World.drew _))
                  refine wpAny_take (i := 1) (v := ?_) rfl (by kernel_rfl) (by kernel_rfl) (by kernel_rfl) (fun _ _ _ h => h) (Or.inl ⟨by rfl, ?_⟩) ?_
                  rotate_left
                  · intro w
                    go_simp
                    try with_reducible rfl
                  try simp only [Act.put, List.getElem_toArray, List.getElem_cons_succ, List.getElem_cons_zero, List.setIfInBounds_toArray, List.set_cons_zero, List.set_cons_succ]
                  refine wpAny_take (i := 2) (v := ?_) rfl (by kernel_rfl) (by kernel_rfl) (by kernel_rfl) (fun _ _ _ h => h) (Or.inl ⟨by rfl, ?_⟩) ?_
                  rotate_left
                  · intro w
                    go_simp
                    try with_reducible rfl
                  try simp only [Act.put, List.getElem_toArray, List.getElem_cons_succ, List.getElem_cons_zero, List.setIfInBounds_toArray, List.set_cons_zero, List.set_cons_succ]
                  refine wpAny_take (i := 3) (v := ?_) rfl (by kernel_rfl) (by kernel_rfl) (by kernel_rfl) (fun _ _ _ h => h) (Or.inl ⟨by rfl, ?_⟩) ?_
                  rotate_left
                  · intro w
                    go_simp
                    try with_reducible rfl
                  try simp only [Act.put, List.getElem_toArray, List.getElem_cons_succ, List.getElem_cons_zero, List.setIfInBounds_toArray, List.set_cons_zero, List.set_cons_succ]
                  refine wpAny_take (i := 5) (v := ?_) rfl (by kernel_rfl) (by kernel_rfl) (by kernel_rfl) (fun _ _ _ h => h) (Or.inl ⟨by rfl, ?_⟩) ?_
                  rotate_left
                  · intro w
                    go_simp
                    try with_reducible rfl
                  try simp only [Act.put, List.getElem_toArray, List.getElem_cons_succ, List.getElem_cons_zero, List.setIfInBounds_toArray, List.set_cons_zero, List.set_cons_succ]
                  refine wpAny_take (i := 6) (v := ?_) rfl (by kernel_rfl) (by kernel_rfl) (by kernel_rfl) (fun _ _ _ h => h) (Or.inl ⟨by rfl, ?_⟩) ?_
                  rotate_left
                  · intro w
                    go_simp
                    try with_reducible rfl
                  try simp only [Act.put, List.getElem_toArray, List.getElem_cons_succ, List.getElem_cons_zero, List.setIfInBounds_toArray, List.set_cons_zero, List.set_cons_succ]
                  refine wpAny_take (i := 7) (v := ?_) rfl (by kernel_rfl) (by kernel_rfl) (by kernel_rfl) (fun _ _ _ h => h) (Or.inl ⟨by rfl, ?_⟩) ?_
                  rotate_left
                  · intro w
                    go_simp
                    try with_reducible rfl
                  try simp only [Act.put, List.getElem_toArray, List.getElem_cons_succ, List.getElem_cons_zero, List.setIfInBounds_toArray, List.set_cons_zero, List.set_cons_succ]
                  refine wpAny_take (i := 8) (v := ?_) rfl (by kernel_rfl) (by kernel_rfl) (by kernel_rfl) (fun _ _ _ h => h) (Or.inl ⟨by rfl, ?_⟩) ?_
                  rotate_left
                  · intro w
                    go_simp
                    try with_reducible rfl
                  try simp only [Act.put, List.getElem_toArray, List.getElem_cons_succ, List.getElem_cons_zero, List.setIfInBounds_toArray, List.set_cons_zero, List.set_cons_succ]
                  refine wpAny_ready (rs := [0]) (by kernel_rfl) (by simp) ?_
                  refine AllReady.cons rfl (fun K hK => ?_) AllReady.nil
                  go_simp
                  refine hK _ _ ?_
                  clear hK K
                  try simp only [Act.put, List.getElem_toArray, List.getElem_cons_succ, List.getElem_cons_zero, List.setIfInBounds_toArray, List.set_cons_zero, List.set_cons_succ]
                  refine wpAny_ready (rs := [4]) (by kernel_rfl) (by simp) ?_
                  refine AllReady.cons rfl (fun K hK => ?_) AllReady.nil
                  refine step_append_src rfl (.tmp 88) (.tmp 91) 43 rfl W6.drew.heap.size 31 i0 op0.val 7 56 Try.underlying43 HJ.out.1 HJ.out.2.1 HJ.out.2.2.1 HJ.out.2.2.2 rfl (by decide) (.slice (some ⟨W6.heap.size, 0, none⟩) 0 0) 0 _ (by simp [Act.eval]) HA0.out (some ⟨g, 0, none⟩) k c2 (flatP (l.take k)) (by simp [Act.eval]) (srcP_take HA0r.out (by omega)) (by unfold maxLen; omega) (by omega) (by simp) (fun v2 W8 o2 g2 => ?_)
                  have HB8 : Hid (Below W6.heap.size W6 W8) := HA0b.out.grown g2 HA0b.out.size (fun j hj => by cases hj; exact Nat.le_refl _)
                  have HO2 : Hid (W8.ownsRow W6.heap.size 31 7 v2 k (flatP (l.take k))) := by
                    show World.ownsRow _ _ _ _ _ _ _
                    simpa using o2
                  clear o2 g2
                  refine hK _ _ ?_
                  clear hK K
                  try simp only [Act.put, List.getElem_toArray, List.getElem_cons_succ, List.getElem_cons_zero, List.setIfInBounds_toArray, List.set_cons_zero, List.set_cons_succ]
                  refine wpAny_ready (rs := [9]) (by kernel_rfl) (by simp) ?_
                  refine AllReady.cons rfl (fun K hK => ?_) AllReady.nil
                  refine step_append_src rfl (.tmp 92) (.tmp 96) 43 rfl W6.drew.heap.size 31 i0 op0.val 7 56 Try.underlying43 HJ.out.1 HJ.out.2.1 HJ.out.2.2.1 HJ.out.2.2.2 rfl (by decide) v2 k _ (by simp [Act.eval]) HO2.out (some ⟨g, o1, none⟩) (n - (k + 1)) (c2 - (k + 1)) (flatP (l.drop (k + 1))) (by simp [Act.eval]) (srcP_drop (HRD6.out _ HB8.out) hkn hnc HO1.out) (by unfold maxLen; omega) (by omega) HB8.out.size (fun v3 W9 o3 g3 => ?_)
                  have HB9 : Hid (Below W6.heap.size W6 W9) := HB8.out.grown g3 HB8.out.size (fun j hj => (HO2.out.lt j hj).1)
                  have ho3 : W9.ownsRow W6.heap.size 31 7 v3 (n - 1) (flatP lst) := by
                    rw [HLST.out, flatP_app, show n - 1 = k + (n - (k + 1)) by omega]
                    exact o3
                  obtain ⟨a3, c3, rfl, _, _, hr3, _⟩ := rdP_own ho3
                  have HR3 : Hid (RdP W9 a3 (n - 1) lst) := hr3
                  clear o3 g3 ho3 hr3
                  refine hK _ _ ?_
                  clear hK K
                  try simp only [Act.put, List.getElem_toArray, List.getElem_cons_succ, List.getElem_cons_zero, List.setIfInBounds_toArray, List.set_cons_zero, List.set_cons_succ]
                  refine wpAny_take (i := 10) (v := ?_) rfl (by kernel_rfl) (by kernel_rfl) (by kernel_rfl) (fun _ _ _ h => h) (Or.inl ⟨by rfl, ?_⟩) ?_
                  rotate_left
                  · intro w
                    go_simp
                    try with_reducible rfl
                  try simp only [Act.put, List.getElem_toArray, List.getElem_cons_succ, List.getElem_cons_zero, List.setIfInBounds_toArray, List.set_cons_zero, List.set_cons_succ]
                  refine wpAny_done (by kernel_rfl) ?_ _
                  go_upto_region 26 with fail
                  refine wp_region_noPanic ?_
                  refine wp_region_held_drew (S := (fun w' => (w'.cell? ⟨X, 0, none⟩ = some (.int .i64 pc) ∧ w'.cell? ⟨X, 1, none⟩ = some (.int .i64 pa) ∧ w'.cell? ⟨X, 2, none⟩ = some (.int .i64 ps) ∧ w'.cell? ⟨X, 3, none⟩ = some (.bool pi) ∧ w'.cell? ⟨X, 4, none⟩ = some (.int .i64 prc) ∧ w'.cell? ⟨X, 5, none⟩ = some (.int .i64 pra) ∧ w'.cell? ⟨X, 6, none⟩ = some (.int .i32 pch)) ∧ w'.cell? ⟨g, k * 7, none⟩ = some (.int .i64 pc) ∧ w'.cell? ⟨g, k * 7 + 1, none⟩ = some (.int .i64 pa) ∧ w'.cell? ⟨g, k * 7 + 2, none⟩ = some (.int .i64 ps) ∧ w'.cell? ⟨g, k * 7 + 3, none⟩ = some (.bool pi) ∧ w'.cell? ⟨g, k * 7 + 4, none⟩ = some (.int .i64 prc) ∧ w'.cell? ⟨g, k * 7 + 5, none⟩ = some (.int .i64 pra) ∧ w'.cell? ⟨g, k * 7 + 6, none⟩ = some (.int .i32 pch))) (by kernel_rfl) (HXY.out _ HB9.out.drew) (fun hHeld => ?_)
                  refine wpAnyH_take (i := 0) (v := ?_) rfl (by kernel_rfl) (by kernel_rfl) (by kernel_rfl) (fun _ _ _ h => h) (Or.inl ⟨by rfl, ?_⟩) (by assumption) ?_
                  rotate_left
                  · intro W' hSw; obtain ⟨⟨s0, s1, s2, s3, s4, s5, s6⟩, t0, t1, t2, t3, t4, t5, t6⟩ := hSw; go_simp; try with_reducible rfl
                  try simp only [Act.put, List.getElem_toArray, List.getElem_cons_succ, List.getElem_cons_zero, List.setIfInBounds_toArray, List.set_cons_zero, List.set_cons_succ]
                  refine wpAnyH_take (i := 1) (v := ?_) rfl (by kernel_rfl) (by kernel_rfl) (by kernel_rfl) (fun _ _ _ h => h) (Or.inl ⟨by rfl, ?_⟩) (by assumption) ?_
                  rotate_left
                  · intro W' hSw; obtain ⟨⟨s0, s1, s2, s3, s4, s5, s6⟩, t0, t1, t2, t3, t4, t5, t6⟩ := hSw; go_simp; try with_reducible rfl
                  try simp only [Act.put, List.getElem_toArray, List.getElem_cons_succ, List.getElem_cons_zero, List.setIfInBounds_toArray, List.set_cons_zero, List.set_cons_succ]
                  refine wpAnyH_take (i := 2) (v := ?_) rfl (by kernel_rfl) (by kernel_rfl) (by kernel_rfl) (fun _ _ _ h => h) (Or.inl ⟨by rfl, ?_⟩) (by assumption) ?_
                  rotate_left
                  · intro W' hSw; obtain ⟨⟨s0, s1, s2, s3, s4, s5, s6⟩, t0, t1, t2, t3, t4, t5, t6⟩ := hSw; go_simp; try with_reducible rfl
                  try simp only [Act.put, List.getElem_toArray, List.getElem_cons_succ, List.getElem_cons_zero, List.setIfInBounds_toArray, List.set_cons_zero, List.set_cons_succ]
                  refine wpAnyH_take (i := 3) (v := ?_) rfl (by kernel_rfl) (by kernel_rfl) (by kernel_rfl) (fun _ _ _ h => h) (Or.inl ⟨by rfl, ?_⟩) (by assumption) ?_
                  rotate_left
                  · intro W' hSw; obtain ⟨⟨s0, s1, s2, s3, s4, s5, s6⟩, t0, t1, t2, t3, t4, t5, t6⟩ := hSw; go_simp; try with_reducible rfl
                  try simp only [Act.put, List.getElem_toArray, List.getElem_cons_succ, List.getElem_cons_zero, List.setIfInBounds_toArray, List.set_cons_zero, List.set_cons_succ]
                  refine wpAnyH_take (i := 4) (v := ?_) rfl (by kernel_rfl) (by kernel_rfl) (by kernel_rfl) (fun _ _ _ h => h) (Or.inl ⟨by rfl, ?_⟩) (by assumption) ?_
                  rotate_left
                  · intro W' hSw; obtain ⟨⟨s0, s1, s2, s3, s4, s5, s6⟩, t0, t1, t2, t3, t4, t5, t6⟩ := hSw; go_simp; try with_reducible rfl
                  try simp only [Act.put, List.getElem_toArray, List.getElem_cons_succ, List.getElem_cons_zero, List.setIfInBounds_toArray, List.set_cons_zero, List.set_cons_succ]
                  refine wpAnyH_take (i := 5) (v := ?_) rfl (by kernel_rfl) (by kernel_rfl) (by kernel_rfl) (fun _ _ _ h => h) (Or.inl ⟨by rfl, ?_⟩) (by assumption) ?_
                  rotate_left
                  · intro W' hSw; obtain ⟨⟨s0, s1, s2, s3, s4, s5, s6⟩, t0, t1, t2, t3, t4, t5, t6⟩ := hSw; go_simp; try with_reducible rfl
                  try simp only [Act.put, List.getElem_toArray, List.getElem_cons_succ, List.getElem_cons_zero, List.setIfInBounds_toArray, List.set_cons_zero, List.set_cons_succ]
                  refine wpAnyH_take (i := 6) (v := ?_) rfl (by kernel_rfl) (by kernel_rfl) (by kernel_rfl) (fun _ _ _ h => h) (Or.inl ⟨by rfl, ?_⟩) (by assumption) ?_
                  rotate_left
                  · intro W' hSw; obtain ⟨⟨s0, s1, s2, s3, s4, s5, s6⟩, t0, t1, t2, t3, t4, t5, t6⟩ := hSw; go_simp; try with_reducible rfl
                  try simp only [Act.put, List.getElem_toArray, List.getElem_cons_succ, List.getElem_cons_zero, List.setIfInBounds_toArray, List.set_cons_zero, List.set_cons_succ]
                  refine wpAnyH_take (i := 7) (v := ?_) rfl (by kernel_rfl) (by kernel_rfl) (by kernel_rfl) (fun _ _ _ h => h) (Or.inl ⟨by rfl, ?_⟩) (by assumption) ?_
                  rotate_left
                  · intro W' hSw; obtain ⟨⟨s0, s1, s2, s3, s4, s5, s6⟩, t0, t1, t2, t3, t4, t5, t6⟩ := hSw; go_simp; try with_reducible rfl
                  try simp only [Act.put, List.getElem_toArray, List.getElem_cons_succ, List.getElem_cons_zero, List.setIfInBounds_toArray, List.set_cons_zero, List.set_cons_succ]
                  refine wpAnyH_take (i := 9) (v := ?_) rfl (by kernel_rfl) (by kernel_rfl) (by kernel_rfl) (fun _ _ _ h => h) (Or.inl ⟨by rfl, ?_⟩) (by assumption) ?_
                  rotate_left
                  · intro W' hSw; obtain ⟨⟨s0, s1, s2, s3, s4, s5, s6⟩, t0, t1, t2, t3, t4, t5, t6⟩ := hSw; go_simp; try with_reducible rfl
                  try simp only [Act.put, List.getElem_toArray, List.getElem_cons_succ, List.getElem_cons_zero, List.setIfInBounds_toArray, List.set_cons_zero, List.set_cons_succ]
                  refine wpAnyH_ready (rs := [8]) (by kernel_rfl) (by simp) ?_
                  refine AllReadyH.cons rfl (fun KK hK => ?_) AllReadyH.nil
                  go_simp
                  refine (r_all (HL6.out _ HB9.out.drew)).mono ?_
                  rintro y w10 ⟨b9, c9, rfl, h1, h2, -, h3⟩
                  have HB910 : Hid (Below W9.heap.size W9 w10) := (Below.refl _ W9).drew.trans h3
                  have HB10 : Hid (Below W6.heap.size W6 w10) := HB9.out.drew.trans (h3.mono HB9.out.drew.size)
                  have HS10 : Hid (RdP w10 b9 (n - 1) lst ∧ RyS w w10 P N M e rs lst (.slice (some ⟨g, 0, none⟩) n c2) n l) := (by rw [← HLL.out]; exact ⟨h1, h2⟩)
                  clear h1 h2 h3
                  rw [HLL.out]
                  refine hK.out _ _ (HXY.out _ HB10.out) (fun hHeld => ?_)
                  clear hK KK
                  try simp only [Act.put, List.getElem_toArray, List.getElem_cons_succ, List.getElem_cons_zero, List.setIfInBounds_toArray, List.set_cons_zero, List.set_cons_succ]
                  refine wpAnyH_ready (rs := [10]) (by kernel_rfl) (by simp) ?_
                  refine AllReadyH.cons rfl (fun KK hK => ?_) AllReadyH.nil
                  go_simp
                  refine (r_same HS10.out.2 lst lst _ _ _ _ _ _ HS10.out.1 (HR3.out.later HB910.out) (by omega) true (by simp)).mono ?_
                  rintro y w11 ⟨rfl, h1, h2⟩
                  have HB11 : Hid (Below W6.heap.size W6 w11) := HB10.out.trans (h2.mono HB10.out.size)
                  have HS11 : Hid (RyS w w11 P N M e rs lst (.slice (some ⟨g, 0, none⟩) n c2) n l) := h1
                  clear h1 h2
                  refine hK.out _ _ (HXY.out _ HB11.out) (fun hHeld => ?_)
                  clear hK KK
                  try simp only [Act.put, List.getElem_toArray, List.getElem_cons_succ, List.getElem_cons_zero, List.setIfInBounds_toArray, List.set_cons_zero, List.set_cons_succ]
                  refine wpAnyH_take (i := 11) (v := ?_) rfl (by kernel_rfl) (by kernel_rfl) (by kernel_rfl) (fun _ _ _ h => h) (Or.inl ⟨by rfl, ?_⟩) (by assumption) ?_
                  rotate_left
                  · intro W' hSw; obtain ⟨⟨s0, s1, s2, s3, s4, s5, s6⟩, t0, t1, t2, t3, t4, t5, t6⟩ := hSw; go_simp; try with_reducible rfl
                  try simp only [Act.put, List.getElem_toArray, List.getElem_cons_succ, List.getElem_cons_zero, List.setIfInBounds_toArray, List.set_cons_zero, List.set_cons_succ]
                  refine wpAnyH_take (i := 12) (v := ?_) rfl (by kernel_rfl) (by kernel_rfl) (by kernel_rfl) (fun _ _ _ h => h) (Or.inl ⟨by rfl, ?_⟩) (by assumption) ?_
                  rotate_left
                  · intro W' hSw; obtain ⟨⟨s0, s1, s2, s3, s4, s5, s6⟩, t0, t1, t2, t3, t4, t5, t6⟩ := hSw; go_simp; try with_reducible rfl
                  try simp only [Act.put, List.getElem_toArray, List.getElem_cons_succ, List.getElem_cons_zero, List.setIfInBounds_toArray, List.set_cons_zero, List.set_cons_succ]
                  refine wpAnyH_done (by kernel_rfl) ?_ _
                  refine NoPanic.normal ?_
                  clear hHeld
                  go_wp2
                  go_roundw
                  case rel => exact ⟨lst, HS11.out.lose⟩
                  case measure =>
                    have h1 := HMEA.out
                    have h2 := HS11.out.lenW
                    have h3 := HLL.out
                    omega
          · obtain rfl : n = 0 := by omega
            have HBE : Hid (Below w.heap.size w wr) := HS.out.below
            go_wp2_with (go_at_call 25; refine HLE1.out.mono ?_; rintro e w8 ⟨rfl, h1⟩; have h1 := h1.symm; subst h1)
            go_ret
            exact ⟨rfl, HBE.out⟩
end Go.Proofs.Ytcmgmoacpkikdaa
