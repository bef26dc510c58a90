/- The walk of DfaTurns. -/
import Derived.Test.YtpmmmgjiekikeaaDoorDfaLe
namespace Go.Proofs.YtpmmmgjiekikeaaDoor
open Go.RowKit Go.Shelf Go.Maps
set_option linter.unusedVariables false
set_option linter.unusedSimpArgs false

theorem rev_len {K : Nat} {xs : List (Nd × Bool)} {a b : List (List Nat)} {oa ob : List Nat} (ha : LeastOf K xs a oa) (hb : LeastOf K xs.reverse b ob) : oa.length = ob.length := by
  have h1 := least_le ha hb (fun u v _ _ h i => by
    have := outC_revs h i
    rwa [List.reverse_reverse] at this)
  have h2 := least_le hb ha (fun u v _ _ h i => outC_revs h i)
  rw [ha.len, hb.len]
  omega
theorem rev_bits {K : Nat} {xs : List (Nd × Bool)} {a b : List (List Nat)} {oa ob : List Nat} (ha : LeastOf K xs a oa) (hb : LeastOf K xs.reverse b ob) {row : List Int} (hc : Cls K row) {k q : Nat} (hkq : k + q + 1 = xs.length) (i : Nat) : ouR a oa row i / 2 ^ k % 2 = ouR b ob row i / 2 ^ q % 2 := by
  rw [bit_mod, bit_mod]
  have h1 := ha.tells _ ((cls_nat hc).2.take i) k
  have h2 := hb.tells _ ((cls_nat hc).2.take i) q
  have h3 := outC_rev xs ((row.map Int.toNat).take i) q (by omega)
  rw [show xs.length - 1 - q = k by omega] at h3
  have h4 : (ouR a oa row i).testBit k = (ouR b ob row i).testBit q := by
    rw [Bool.eq_iff_iff]
    exact h1.trans (h3.symm.trans h2.symm)
  rw [h4]
theorem rev_take {xs : List (Nd × Bool)} {j k : Nat} (h : k + 1 + j = xs.length) : xs.reverse.take (j + 1) = xs.reverse.take j ++ [xs[k]'(by omega)] := by
  have hj : j < xs.reverse.length := by simp; omega
  rw [take_snoc _ j hj]
  congr 2
  rw [List.getElem_reverse]
  congr 1
  omega
set_option maxRecDepth 100000 in
set_option maxHeartbeats 8000000 in
theorem dfaTurns_walk (K : Int) (D : Nat) (l : List (Nd × Bool)) (la : Option Addr) (lc : Nat) (xs0 : List Int) (ra : Option Addr) (len0 rc : Nat) (w : World) (hT : TabD w) (hx : XRow w.heap.size w D la l) (hl : l.length ≤ 2600000000000) (hrd : Rd .i64 w ra len0 xs0) (hcap : len0 ≤ rc) :
    Calls Tryd.prog 8 #[.int .i64 K, .slice la l.length lc, .slice ra len0 rc] w fun e w' => e = .returned (.bool true) ∧ Below w.heap.size w w' := by
  obtain ⟨n, hn⟩ : ∃ n : Nat, (n : Int) = min (len0 : Int) 30 := ⟨min len0 30, by omega⟩
  have hmin := min_run len0 n 30 hn
  have hcut0 := cutI ra len0 rc n (by omega)
  obtain ⟨row, hrow⟩ : ∃ row, row = xs0.take n := ⟨_, rfl⟩
  have HRD : Hid (Rd .i64 w ra n row) := by rw [hrow]; exact hrd.take n (by omega)
  have HL : Hid (row.length = n) := HRD.out.1
  have hn30 : (n : Int) ≤ 30 := by omega
  obtain ⟨L, hL⟩ : ∃ L, L = l.length := ⟨_, rfl⟩
  have HTD : Hid (TabD w) := hT
  have HSH : Hid (Calls Tryd.prog 12 #[] w fun e w' => e = .returned (.bool true) ∧ Below w.heap.size w w') := shown_any w hT
  have HFEW : Hid (∀ V : World, Below w.heap.size w V → Calls Tryd.prog 13 #[.slice la L lc] V (FewP D l V)) := fun V hV => by
    rw [hL]; exact few_any D l la lc V ((hx.later hV).base hV.size) hl
  obtain ⟨j0, ji, jz0, jz1, jz2⟩ := info_parts info_ex
  have HJ : Hid (Tryd.prog.info? 40 = some j0 ∧ j0.zero = some (.agg #[.int .i64 0, .slice none 0 0, .slice none 0 0, .bool false]) ∧ j0.size = 4 ∧ j0.bytes = 64) := ⟨ji, jz0, jz1, jz2⟩
  rw [← hL]
  clear hT hx hl hrd hcap hrow hL hn ji jz0 jz1 jz2
  go_enter Tryd.func8, Tryd.ntmps8
  go_wp2_with fail
  refine HSH.out.mono ?_
  rintro e w1 ⟨rfl, hb1⟩
  have HB1 : Hid (Below w.heap.size w w1) := hb1
  have HC2 : Hid (Calls Tryd.prog 13 #[.slice la L lc] w1 (FewP D l w1)) := HFEW.out w1 hb1
  clear hb1 HSH HFEW
  go_wp2_with fail
  refine HC2.out.mono ?_
  intro e w2 hf
  obtain ⟨hb2, xs, a4, a5, c4, c5, rfl, h8, _, hx4, _⟩ := hf.use
  have HB2 : Hid (Below w.heap.size w w2) := HB1.out.trans (hb2.mono HB1.out.size)
  obtain ⟨N, hN⟩ : ∃ N, N = xs.length := ⟨_, rfl⟩
  have HN : Hid (N = xs.length) := hN
  have hN8 : (N : Int) ≤ 8 := by omega
  have HX4 : Hid (XRow w2.heap.size w2 D a4 xs) := hx4
  rw [← hN]
  clear hf hb2 h8 hx4 HC2 hN
  go_wp2_with fail
  go_loopw [10, 11] (fun x10 x11 wr => ∃ (j c : Nat) (i : Int) (a : Option Addr) (fl : List Value), i + 1 + (j : Int) = (N : Int) ∧ -1 ≤ i ∧ x11 = .int .i64 i ∧ x10 = .slice a j c ∧ FlX w2.heap.size w2 D (xs.reverse.take j) fl ∧ wr.ownsRow w2.heap.size 40 4 (.slice a j c) j fl ∧ Below w2.heap.size w2 wr) (fun _ x11 _ => (intOf x11 + 1).toNat)
  case atStart => exact ⟨0, 0, (N : Int) - 1, none, [], by omega, by omega, rfl, rfl, by simpa using FlX.nil _ _ _, ⟨rfl, .inl ⟨rfl, rfl⟩⟩, Below.refl _ _⟩
  case round =>
    obtain ⟨j, c, i, a, fl, hij, hi1, hx11, hx10, hfl, hown, hbw⟩ := hrel
    subst hx11 hx10
    have HFL : Hid (FlX w2.heap.size w2 D (xs.reverse.take j) fl) := hfl
    have HO : Hid (wr.ownsRow w2.heap.size 40 4 (.slice a j c) j fl) := hown
    have HBW : Hid (Below w2.heap.size w2 wr) := hbw
    clear hfl hown hbw
    by_cases hi : 0 ≤ i
    · obtain ⟨k, rfl⟩ : ∃ k : Nat, i = (k : Int) := ⟨i.toNat, by omega⟩
      have hkx : k < xs.length := by rw [← HN.out]; omega
      obtain ⟨b, off, ca, cc, pa, pc, ea, hin, c0', c1', c2', c3'⟩ := HX4.out.cells hkx
      subst ea
      obtain ⟨x, hx⟩ : ∃ x, x = xs[k] := ⟨_, rfl⟩
      rw [← hx] at hin c0' c1' c2' c3'
      have HNX : Hid (FlX w2.heap.size w2 D (xs.reverse.take (j + 1)) (fl ++ [.int .i64 x.1.op, .slice ca x.1.cl.length cc, .slice pa (toL x.1.kids).length pc, .bool x.2])) := by
        show FlX w2.heap.size w2 D (xs.reverse.take (j + 1)) (fl ++ [.int .i64 x.1.op, .slice ca x.1.cl.length cc, .slice pa (toL x.1.kids).length pc, .bool x.2])
        rw [rev_take (k := k) (by have := HN.out; omega), ← hx]
        exact HFL.out.snoc hin
      have c0 := upC HBW.out c0'
      have c1 := upC HBW.out c1'
      have c2 := upC HBW.out c2'
      have c3 := upC HBW.out c3'
      obtain ⟨op, hop⟩ : ∃ op, op = x.1.op := ⟨_, rfl⟩
      obtain ⟨cn, hcn⟩ : ∃ cn, cn = x.1.cl.length := ⟨_, rfl⟩
      obtain ⟨pn, hpn⟩ : ∃ pn, pn = (toL x.1.kids).length := ⟨_, rfl⟩
      obtain ⟨xb, hxb⟩ : ∃ xb, xb = x.2 := ⟨_, rfl⟩
      rw [← hop, ← hcn, ← hpn, ← hxb] at HNX
      rw [← hop] at c0
      rw [← hcn] at c1
      rw [← hpn] at c2
      rw [← hxb] at c3
      have hki : (k : Int) < (N : Int) := by omega
      have hk0 : (0 : Int) ≤ (k : Int) := by omega
      have hjN : (j : Int) < (N : Int) := by omega
      have HF1 : Hid (∀ (w3 : World) (g3 cap3 : Nat), (wr.alloc (.cells #[.int .i64 op, .slice ca cn cc, .slice pa pn pc, .bool xb] 40)).grownBy w3 (Value.slice a j c).ownBlock → Below w2.heap.size w2 w3) := fun w3 g3 cap3 q2 => by
        have hV : Below wr.heap.size wr (wr.alloc (.cells #[.int .i64 op, .slice ca cn cc, .slice pa pn pc, .bool xb] 40)) := (Below.refl _ wr).alloc (Nat.le_refl _) _
        have h4 := own_later5 HO.out hV
        have hBV := HBW.out.trans (hV.mono HBW.out.size)
        exact hBV.grown q2 hBV.size (fun k e => (own_lt h4 e).1)
      clear hin c0' c1' c2' c3' hx hop hcn hpn hxb
      go_wp2_with (at_builtin; refine wpList_append_lies _ rfl _ _ 24 rfl w2.heap.size 40 j0 _ 4 64 Tryd.underlying24 HJ.out.1 HJ.out.2.1 HJ.out.2.2.1 HJ.out.2.2.2 rfl (by decide) (.slice a j c) j fl rfl (own_later5 HO.out ((Below.refl _ wr).alloc (Nat.le_refl _) _)) ⟨wr.heap.size, 0, none⟩ 1 1 [.int .i64 op, .slice ca cn cc, .slice pa pn pc, .bool xb] rfl rfl (World.news_of_block (cs := #[.int .i64 op, .slice ca cn cc, .slice pa pn pc, .bool xb]) (t := 40) (fr := (0, 0)) (heap_alloc_new wr _)) (by simp [Value.oneCell']) (by omega) (by unfold maxLen; omega) (by omega) (by have := HBW.out.size; simp; omega) _ rfl (fun g4 cap4 w4 q1 q2 q3 q4 => ?_); have HF4 : Hid (Below w2.heap.size w2 w4) := HF1.out w4 g4 cap4 q2; have HO4 : Hid (w4.ownsRow w2.heap.size 40 4 (.slice (some ⟨g4, 0, none⟩) (j + 1) cap4) (j + 1) (fl ++ [.int .i64 op, .slice ca cn cc, .slice pa pn pc, .bool xb])) := q1; clear q1 q2 q3 q4)
      go_roundw
      case rel => exact ⟨j + 1, cap4, (k : Int) - 1, some ⟨g4, 0, none⟩, _, by omega, by omega, by go_num, rfl, HNX.out, HO4.out, HF4.out⟩
      case measure => simp [intOf]
    · obtain rfl : i = -1 := by omega
      obtain rfl : j = N := by omega
      have HXB : Hid (XRow wr.heap.size wr D a xs.reverse) := by
        have h1 := HFL.out
        rw [List.take_of_length_le (by simp; have := HN.out; omega)] at h1
        have h2 : FlX w2.heap.size wr D xs.reverse fl := h1.later (fun n us hi => hi.later HBW.out D)
        have h3 := HO.out
        rw [show j = xs.reverse.length by rw [List.length_reverse]; exact HN.out] at h3
        exact (h2.row h3).base HBW.out.size
      have HXA : Hid (XRow wr.heap.size wr D a4 xs) := (HX4.out.later HBW.out).base HBW.out.size
      have HB3 : Hid (Below w.heap.size w wr) := HB2.out.trans (HBW.out.mono HB2.out.size)
      have HC3 : Hid (Calls Tryd.prog 14 #[.int .i64 K, .slice a4 j c4] wr (BldP K xs wr)) := by
        have h := build_any D K xs a4 c4 wr (HTD.out.later HB3.out) HXA.out (by have := HN.out; omega)
        rw [← HN.out] at h
        exact h
      have HC4 : Hid (∀ V : World, Below wr.heap.size wr V → Calls Tryd.prog 14 #[.int .i64 K, .slice a j c] V (BldP K xs.reverse V)) := fun V hV => by
        have h := build_any D K xs.reverse a c V ((HTD.out.later HB3.out).later hV) ((HXB.out.later hV).base hV.size) (by rw [List.length_reverse]; have := HN.out; omega)
        rw [List.length_reverse, ← HN.out] at h
        exact h
      clear HFL HO hij hi1 hi HX4
      go_wp2_with fail
      refine HC3.out.mono ?_
      rintro e w3 ⟨hb3, hor1⟩
      have HBA : Hid (Below wr.heap.size wr w3) := hb3
      clear hb3
      obtain ⟨pv, ev, rfl, hor2⟩ : ∃ pv ev, e = .returned (.tuple #[.pointer pv, .int .i64 ev]) ∧ ((alwB K xs = false ∧ pv = none ∧ ev = 1) ∨ (alwB K xs = true ∧ BigC K.toNat xs ∧ pv = none ∧ ev = 7) ∨ ∃ lb nx ou, alwB K xs = true ∧ pv = some ⟨lb, 0, none⟩ ∧ ev = 0 ∧ MchAt w3 lb K.toNat nx ou ∧ LeastOf K.toNat xs nx ou ∧ ¬ BigC K.toNat xs) := by
        rcases hor1 with ⟨h1, rfl⟩ | ⟨h1, ⟨rfl, h2⟩ | ⟨lb, nx, ou, rfl, hma, hle, _, hnb⟩⟩
        · exact ⟨none, 1, rfl, .inl ⟨h1, rfl, rfl⟩⟩
        · exact ⟨none, 7, rfl, .inr (.inl ⟨h1, h2.big, rfl, rfl⟩)⟩
        · exact ⟨_, 0, rfl, .inr (.inr ⟨lb, nx, ou, h1, rfl, rfl, hma, hle, hnb⟩)⟩
      have HOR : Hid ((alwB K xs = false ∧ pv = none ∧ ev = 1) ∨ (alwB K xs = true ∧ BigC K.toNat xs ∧ pv = none ∧ ev = 7) ∨ ∃ lb nx ou, alwB K xs = true ∧ pv = some ⟨lb, 0, none⟩ ∧ ev = 0 ∧ MchAt w3 lb K.toNat nx ou ∧ LeastOf K.toNat xs nx ou ∧ ¬ BigC K.toNat xs) := hor2
      clear hor1 hor2 HC3
      go_wp2_with fail
      refine (HC4.out w3 HBA.out).mono ?_
      rintro e w4 ⟨hb4, hor1⟩
      have HBB : Hid (Below w.heap.size w w4) := by
        have := HB3.out.trans (HBA.out.mono HB3.out.size)
        exact this.trans (hb4.mono this.size)
      rw [alw_rev] at hor1
      rcases HOR.out with ⟨h1, rfl, rfl⟩ | ⟨h1, hbig, rfl, rfl⟩ | ⟨lb, na, oa, h1, rfl, rfl, hma, hla, hnb⟩
      · obtain rfl : e = .returned (.tuple #[.pointer none, .int .i64 1]) := by
          rcases hor1 with ⟨_, rfl⟩ | ⟨h2, _⟩
          · rfl
          · rw [h1] at h2; cases h2
        clear hor1 hb4 h1 HOR
        go_wp2_with fail
        go_ret
        exact ⟨rfl, HBB.out⟩
      · obtain rfl : e = .returned (.tuple #[.pointer none, .int .i64 7]) := by
          rcases hor1 with ⟨h2, _⟩ | ⟨_, ⟨rfl, _⟩ | ⟨_, _, _, _, _, _, _, hnb⟩⟩
          · rw [h1] at h2; cases h2
          · rfl
          · exact absurd (big_rev hbig) hnb
        clear hor1 hb4 h1 hbig HOR
        go_wp2_with fail
        go_ret
        exact ⟨rfl, HBB.out⟩
      obtain ⟨lb2, nb, ob, rfl, hmb, hlb⟩ : ∃ lb2 nb ob, e = .returned (.tuple #[.pointer (some ⟨lb2, 0, none⟩), .int .i64 0]) ∧ MchAt w4 lb2 K.toNat nb ob ∧ LeastOf K.toNat xs.reverse nb ob := by
        rcases hor1 with ⟨h2, _⟩ | ⟨_, ⟨_, h2⟩ | ⟨lb2, nb, ob, rfl, hmb, hlb, _⟩⟩
        · rw [h1] at h2; cases h2
        · have := big_rev h2.big
          rw [List.reverse_reverse] at this
          exact absurd this hnb
        · exact ⟨lb2, nb, ob, rfl, hmb, hlb⟩
      obtain ⟨KN, hKN⟩ : ∃ KN, KN = K.toNat := ⟨_, rfl⟩
      rw [← hKN] at hma hla hmb hlb
      have HLA : Hid (LeastOf KN xs na oa ∧ LeastOf KN xs.reverse nb ob) := ⟨hla, hlb⟩
      have HMA : Hid (MchAt w4 lb KN na oa ∧ MchAt w4 lb2 KN nb ob) := ⟨hma.later hb4, hmb⟩
      have HRA : Hid (∀ V : World, Below w4.heap.size w4 V → Calls Tryd.prog 18 #[.pointer (some ⟨lb, 0, none⟩), .slice ra n rc] V (RunP KN na oa row V)) := fun V hV => by
        have h := run_any V lb KN na oa row ra rc (HMA.out.1.later hV) hla.asMet hla.wide hla.len (by rw [HL.out]; exact (HRD.out.later HBB.out).later hV) (by have := HL.out; omega)
        rw [HL.out] at h
        exact h
      have HRB : Hid (∀ V : World, Below w4.heap.size w4 V → Calls Tryd.prog 18 #[.pointer (some ⟨lb2, 0, none⟩), .slice ra n rc] V (RunP KN nb ob row V)) := fun V hV => by
        have h := run_any V lb2 KN nb ob row ra rc (HMA.out.2.later hV) hlb.asMet hlb.wide hlb.len (by rw [HL.out]; exact (HRD.out.later HBB.out).later hV) (by have := HL.out; omega)
        rw [HL.out] at h
        exact h
      obtain ⟨M, hM⟩ : ∃ M, M = oa.length := ⟨_, rfl⟩
      have HMO : Hid (∃ q1 q2 q3 q4 q5 q6, ∀ V : World, Below w4.heap.size w4 V → V.cell? ⟨lb, 2, none⟩ = some (.slice (some ⟨q1, q2, none⟩) M q3) ∧ V.cell? ⟨lb2, 2, none⟩ = some (.slice (some ⟨q4, q5, none⟩) M q6)) := by
        obtain ⟨q1, q2, q3, h2, _⟩ := mch_out HMA.out.1 (by rw [hla.len]; exact asMet_pos hla.asMet)
        obtain ⟨q4, q5, q6, h3, _⟩ := mch_out HMA.out.2 (by rw [hlb.len]; exact asMet_pos hlb.asMet)
        rw [← rev_len hla hlb] at h3
        exact ⟨q1, q2, q3, q4, q5, q6, fun V hV => ⟨upC hV (by rw [hM]; exact h2), upC hV (by rw [hM]; exact h3)⟩⟩
      have hMi : (M : Int) ≤ 1000000 := by obtain ⟨_, _, _, _, _, _, _, _, h, _⟩ := HMA.out.1; rw [hM]; omega
      clear hor1 hb4 h1 hnb hma hmb hla hlb hM HOR HC4 HXB HXA
      go_wp2_with fail
      refine (HRA.out w4 (Below.refl _ _)).mono ?_
      rintro e w5 ⟨hb5, hor1⟩
      have HB5 : Hid (Below w4.heap.size w4 w5) := hb5
      clear hb5
      rcases hor1 with ⟨hnc, rfl⟩ | ⟨hcl, g, cap, rfl, how⟩
      · go_wp2_with fail
        refine (HRB.out w5 HB5.out).mono ?_
        rintro e w6 ⟨hb6, hor1⟩
        have HB6 : Hid (Below w4.heap.size w4 w6) := HB5.out.trans (hb6.mono HB5.out.size)
        rcases hor1 with ⟨_, rfl⟩ | ⟨hcl, _⟩
        rotate_left
        · exact absurd hcl hnc
        obtain ⟨q1, q2, q3, q4, q5, q6, hq⟩ := HMO.out
        obtain ⟨d1, d2⟩ := hq w6 HB6.out
        have HBE : Hid (Below w.heap.size w w6) := HBB.out.trans (HB6.out.mono HBB.out.size)
        clear hq hb6 hnc
        go_wp2_with fail
        go_quiet (fail)
        clear d1 d2
        go_wp2_with fail
        go_loopw [20] (fun x20 wz => x20 = .int .i64 0 ∧ Below w.heap.size w wz) (fun _ _ => 0)
        case atStart => exact ⟨rfl, bdN HBE.out _⟩
        case round =>
          obtain ⟨hx20, hwr⟩ := hrel
          subst hx20
          have HBQ : Hid (Below w.heap.size w wr) := hwr
          clear hwr
          go_wp2_with fail
          go_ret
          exact ⟨rfl, HBQ.out⟩
      · rw [HL.out] at how ⊢
        have HOW : Hid (w5.ownsRow w4.heap.size 50 1 (.slice (some ⟨g, 0, none⟩) (n + 1) cap) (n + 1) (uv (runO na oa (row.map Int.toNat) (n + 1)))) := how
        have HCL : Hid (Cls KN row) := hcl
        clear how hcl
        go_wp2_with fail
        refine (HRB.out w5 HB5.out).mono ?_
        rintro e w6 ⟨hb6, hor1⟩
        have HB6 : Hid (Below w4.heap.size w4 w6) := HB5.out.trans (hb6.mono HB5.out.size)
        rcases hor1 with ⟨hnc, _⟩ | ⟨_, g2, cap2, rfl, how2⟩
        · exact absurd HCL.out hnc
        rw [HL.out] at how2 ⊢
        obtain ⟨O, hO⟩ : ∃ O : Nat → Nat, ∀ i, O i = ouR na oa row i := ⟨_, fun _ => rfl⟩
        obtain ⟨P, hP⟩ : ∃ P : Nat → Nat, ∀ i, P i = ouR nb ob row i := ⟨_, fun _ => rfl⟩
        have HO1 : Hid (∀ V : World, Below w6.heap.size w6 V → ∀ i, i < n + 1 → V.cell? ⟨g, i, none⟩ = some (.int .u64 ((O i : Nat) : Int)) ∧ V.cell? ⟨g2, i, none⟩ = some (.int .u64 ((P i : Nat) : Int))) := fun V hV i hi => by
          rw [hO, hP]; exact ⟨upC hV (run_told HOW.out hb6 i hi), run_told how2 hV i hi⟩
        have HBI : Hid (∀ k q, k + q + 1 = j → ∀ i, O i / 2 ^ k % 2 = P i / 2 ^ q % 2) := fun k q hkq i => by
          rw [hO, hP]; exact rev_bits HLA.out.1 HLA.out.2 HCL.out (by rw [hkq]; exact HN.out) i
        obtain ⟨q1, q2, q3, q4, q5, q6, hq⟩ := HMO.out
        obtain ⟨d1, d2⟩ := hq w6 HB6.out
        have HBE : Hid (Below w.heap.size w w6) := HBB.out.trans (HB6.out.mono HBB.out.size)
        clear hq hb6 how2 hO hP HOW
        go_wp2_with fail
        go_quiet (fail)
        clear d1 d2
        go_wp2_with fail
        go_loopw [20] (fun x20 wz => ∃ i : Nat, i ≤ n + 1 ∧ x20 = .int .i64 (i : Int) ∧ Below w6.heap.size w6 wz) (fun x20 _ => n + 1 - (intOf x20).toNat)
        case atStart => exact ⟨0, by omega, rfl, bdN (Below.refl _ _) _⟩
        case round =>
          obtain ⟨i, hi, hx20, hwr⟩ := hrel
          subst hx20
          have HBQ : Hid (Below w6.heap.size w6 wr) := hwr
          clear hwr
          by_cases hlt : i < n + 1
          · have hii : (i : Int) < (n : Int) + 1 := by omega
            have hi0 : (0 : Int) ≤ (i : Int) := by omega
            go_wp2_with fail
            go_loopw [21] (fun x21 wz => ∃ k : Nat, k ≤ j ∧ x21 = .int .i64 (k : Int) ∧ Below w6.heap.size w6 wz) (fun x21 _ => j - (intOf x21).toNat)
            case atStart => exact ⟨0, by omega, rfl, HBQ.out⟩
            case round =>
              obtain ⟨k, hk, hx21, hwr⟩ := hrel
              subst hx21
              have HBK : Hid (Below w6.heap.size w6 wr) := hwr
              clear hwr
              by_cases hkj : k < j
              · obtain ⟨d1, d2⟩ := HO1.out wr HBK.out i hlt
                obtain ⟨q, hq⟩ : ∃ q, k + q + 1 = j := ⟨j - k - 1, by omega⟩
                have hbit := HBI.out k q hq i
                obtain ⟨Y, hY⟩ : ∃ Y, Y = O i := ⟨_, rfl⟩
                obtain ⟨Z, hZ⟩ : ∃ Z, Z = P i := ⟨_, rfl⟩
                obtain ⟨cc, hcc⟩ : ∃ cc, cc = Y / 2 ^ k % 2 := ⟨_, rfl⟩
                rw [← hY] at d1 hbit
                rw [← hZ] at d2 hbit
                have hc1 : bits .and .u64 ((Y : Int) / 2 ^ k) 1 = (cc : Int) := by
                  rw [show (Y : Int) / 2 ^ k = ((Y / 2 ^ k : Nat) : Int) by simp, and_one64, hcc]
                have hc2 : bits .and .u64 ((Z : Int) / 2 ^ q) 1 = (cc : Int) := by
                  rw [show (Z : Int) / 2 ^ q = ((Z / 2 ^ q : Nat) : Int) by simp, and_one64, hcc, hbit]
                have hkji : (k : Int) < (j : Int) := by omega
                have hqe : (j : Int) - 1 - (k : Int) = (q : Int) := by omega
                clear hY hZ hcc hbit hq
                go_wp2_with fail
                go_quiet (fail)
                clear d1 d2
                go_wp2_with fail
                go_roundw
                case rel => exact ⟨k + 1, by omega, by go_num, bdN HBK.out _⟩
                case measure => simp [intOf]; omega
              · have hkji : ¬ (k : Int) < (j : Int) := by omega
                go_wp2_with fail
                go_roundw
                case rel => exact ⟨i + 1, by omega, by go_num, HBK.out⟩
                case measure => simp [intOf]; omega
          · have hii : ¬ (i : Int) < (n : Int) + 1 := by omega
            have HBF : Hid (Below w.heap.size w wr) := HBE.out.trans (HBQ.out.mono HBE.out.size)
            go_wp2_with fail
            go_ret
            exact ⟨rfl, HBF.out⟩
end Go.Proofs.YtpmmmgjiekikeaaDoor
