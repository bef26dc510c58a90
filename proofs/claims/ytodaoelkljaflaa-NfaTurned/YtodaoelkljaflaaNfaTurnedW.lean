/- The walk of NfaTurned. -/
import Derived.Test.YtodaoelkljaflaaNfaV
namespace Go.Proofs.Ytodaoelkljaflaa
open Go.RowKit
set_option linter.unusedVariables false
set_option linter.unusedSimpArgs false

theorem back_step (xs : List Int) (m : Nat) (h : m < xs.length) : (xs.drop m).reverse = (xs.drop (m + 1)).reverse ++ [xs.getD m 0] := by
  rw [List.drop_eq_getElem_cons h, List.reverse_cons]
  simp [h]
set_option maxRecDepth 100000 in
set_option maxHeartbeats 16000000 in
theorem nfaTurned_walk (D : Nat) (n : Nd) (ca pa : Option Addr) (cc pc : Nat) (xs0 : List Int) (a : Option Addr) (len0 cap : Nat) (w : World) (hin : InV w.heap.size w D n [.int .i64 n.op, .slice ca n.cl.length cc, .slice pa (toL n.kids).length pc]) (hrd : Rd .i64 w a len0 xs0) (hcap : len0 ≤ cap) (hcm : cap ≤ 9223372036854775807) (hnone : a = none → cap = 0) :
    Calls Try.prog 5 #[.agg #[.int .i64 n.op, .slice ca n.cl.length cc, .slice pa (toL n.kids).length pc], .slice a len0 cap] w fun e w' => e = .returned (.bool true) ∧ Below w.heap.size w w' := by
  obtain ⟨len, hlen⟩ : ∃ len : Nat, (len : Int) = min (len0 : Int) 40 := ⟨min len0 40, by omega⟩
  have hmin := min_run len0 len 40 hlen
  have hcut0 := cutI a len0 cap len (by omega)
  obtain ⟨xs, hxs⟩ : ∃ xs, xs = xs0.take len := ⟨_, rfl⟩
  have HRD : Hid (Rd .i64 w a len xs) := by rw [hxs]; exact hrd.take len (by omega)
  have HL : Hid (xs.length = len) := HRD.out.1
  have hl40 : len ≤ 40 := by omega
  obtain ⟨i0, ji, jz0, jz1, jz2⟩ := info_parts info_i
  have HJ : Hid (Try.prog.info? 3 = some i0 ∧ i0.zero = some (.int .i64 0) ∧ i0.size = 1 ∧ i0.bytes = 8) := ⟨ji, jz0, jz1, jz2⟩
  obtain ⟨op, hop⟩ : ∃ op, op = n.op := ⟨_, rfl⟩
  obtain ⟨cn, hcn⟩ : ∃ cn, cn = n.cl.length := ⟨_, rfl⟩
  obtain ⟨K, hK⟩ : ∃ K, K = (toL n.kids).length := ⟨_, rfl⟩
  obtain ⟨W0, hW0⟩ : ∃ W0, W0 = w.alloc (.cells #[.int .i64 op, .slice ca cn cc, .slice pa K pc] 25) := ⟨_, rfl⟩
  obtain ⟨H, hH⟩ : ∃ H, H = w.heap.size := ⟨_, rfl⟩
  have HB0 : Hid (Below w.heap.size w W0) := by rw [hW0]; exact (Below.refl _ w).alloc (Nat.le_refl _) _
  have hax : W0.heap[H]? = some (.cells #[.int .i64 op, .slice ca cn cc, .slice pa K pc] 25) := by rw [hW0, hH]; exact heap_alloc_new w _
  have HAX : Hid (∀ V : World, Below W0.heap.size W0 V → V.cell? ⟨H, 0, none⟩ = some (.int .i64 op) ∧ V.cell? ⟨H, 1, none⟩ = some (.slice ca cn cc) ∧ V.cell? ⟨H, 2, none⟩ = some (.slice pa K pc)) := fun V hV =>
    ⟨upC hV (cell_of_row W0 H 0 _ _ _ hax), upC hV (cell_of_row W0 H 1 _ _ _ hax), upC hV (cell_of_row W0 H 2 _ _ _ hax)⟩
  have HNEW : Hid (∀ V : World, Below w.heap.size w V → Calls Try.prog 15 #[.agg #[.int .i64 op, .slice ca cn cc, .slice pa K pc]] V (NewPost n V)) := by
    intro V hV
    rw [hop, hcn, hK]
    exact new_any D n ca pa cc pc V ((hin.later hV D).base hV.size D)
  have HREV : Hid (∀ V : World, Below w.heap.size w V → n.ok = true → Calls Try.prog 17 #[.agg #[.int .i64 op, .slice ca cn cc, .slice pa K pc]] V (TuPost 32 n V)) := by
    intro V hV hok
    rw [hop, hcn, hK]
    exact rev_any D n ca pa cc pc V ((hin.later hV D).base hV.size D) hok
  rw [← hop, ← hcn, ← hK]
  clear ji jz0 jz1 jz2 hrd hcap hcm hnone hxs hin hop hcn hK hax hlen
  go_enter Try.func5, Try.ntmps5
  go_upto_region 1 with fail
  rw [← hH, ← hW0]
  clear hH hW0
  go_wp2_with fail
  refine (shown_any W0).mono ?_
  rintro e w1 ⟨rfl, hb1⟩
  obtain ⟨e0, e1, e2⟩ := HAX.out w1 hb1
  have HW1 : Hid (Below W0.heap.size W0 w1) := hb1
  have HB1 : Hid (Below w.heap.size w w1) := HB0.out.trans (hb1.mono HB0.out.size)
  clear hb1
  go_wp2_with fail
  refine (HNEW.out w1 HB1.out).mono ?_
  rintro e w2 ⟨hb2, hcase⟩
  have HB2 : Hid (Below w.heap.size w w2) := HB1.out.trans (hb2.mono HB1.out.size)
  have HW2 : Hid (Below W0.heap.size W0 w2) := HW1.out.trans (hb2.mono HW1.out.size)
  clear e0 e1 e2 HNEW hb2 hmin hcut0
  rcases hcase with ⟨hok, bm, rfl, hm⟩ | ⟨hok, rfl⟩
  · have HM2 : Hid (NMach w1.heap.size w2 bm n) := NMach.of hok hm
    have HOK : Hid (n.ok = true) := hok
    clear hm hok
    obtain ⟨e0, e1, e2⟩ := HAX.out w2 HW2.out
    go_wp2_with fail
    refine (HREV.out w2 HB2.out HOK.out).mono ?_
    rintro e w3 ⟨⟨yo, ya, yn, yc, yp, yk, yd⟩, rfl, hnw, hb3⟩
    have HB3 : Hid (Below w2.heap.size w2 w3) := hb3
    have HN2 : Hid (Calls Try.prog 15 #[.agg #[.int .i64 yo, .slice ya yn yc, .slice yp yk yd]] w3 (NewPost n.rev w3)) := by
      have hi := hnw.in 32
      obtain ⟨q1, q2, q3, q4, hv⟩ := hi.three
      simp only [Nk.vals, List.cons.injEq, Value.int.injEq, Value.slice.injEq, and_true, true_and] at hv
      obtain ⟨rfl, ⟨rfl, rfl, rfl⟩, rfl, rfl, rfl⟩ := hv
      exact new_any 32 n.rev _ _ _ _ w3 hi
    clear hnw hb3 e0 e1 e2 HREV HAX
    go_wp2_with fail
    refine HN2.out.mono ?_
    rintro e w4 ⟨hb4, hcase⟩
    rcases hcase with ⟨hok4, bm4, rfl, hm4⟩ | ⟨hok4, _⟩
    · have HM4 : Hid (NMach w3.heap.size w4 bm4 n.rev) := NMach.of hok4 hm4
      have HB4 : Hid (Below w2.heap.size w2 w4) := HB3.out.trans (hb4.mono HB3.out.size)
      have HBW4 : Hid (Below w.heap.size w w4) := HB2.out.trans (HB4.out.mono HB2.out.size)
      clear hok4 hm4 hb4 HN2
      have HFIT : Hid (∀ b : Bool, (b = true ↔ n.fits xs) → (b = true ↔ n.rev.fits xs.reverse)) := fun b hb => by
        have hk := HOK.out
        unfold Nd.ok at hk
        simp only [Bool.and_eq_true, decide_eq_true_eq] at hk
        rw [rev_fits 32 n hk.1 xs.reverse, List.reverse_reverse]
        exact hb
      have hli : (len : Int) ≤ 40 := by omega
      go_wp2
      go_loopw [10, 11] (fun x10 x11 wr => ∃ m : Nat, m ≤ len ∧ x11 = .int .i64 ((m : Int) - 1) ∧ wr.ownsRow w4.heap.size 3 1 x10 (len - m) ((xs.drop m).reverse.map (Value.int .i64)) ∧ Below w4.heap.size w4 wr) (fun _ x11 _ => (intOf x11 + 1).toNat)
      case atStart => exact ⟨len, by omega, by go_num, by rw [Nat.sub_self, List.drop_of_length_le (by rw [HL.out]; exact Nat.le_refl _)]; exact World.ownsRow_nil _ _ _ _, Below.refl _ _⟩
      case round =>
        obtain ⟨m, hm, hx11, ho, hb⟩ := hrel
        subst hx11
        obtain ⟨va, vc, rfl⟩ := own_sl1 ho
        have HO : Hid (wr.ownsRow w4.heap.size 3 1 (.slice va (len - m) vc) (len - m) ((xs.drop m).reverse.map (Value.int .i64))) := ho
        have HB : Hid (Below w4.heap.size w4 wr) := hb
        have HBW : Hid (Below w.heap.size w wr) := HBW4.out.trans (hb.mono HBW4.out.size)
        clear ho hb
        rcases Nat.eq_zero_or_pos m with h0 | h0
        · subst h0
          have hm1 : decide (((0 : Nat) : Int) - 1 ≥ 0) = false := by simp
          obtain ⟨b, hbb⟩ : ∃ b : Bool, b = true ↔ n.fits xs := by
            by_cases h : n.fits xs
            · exact ⟨true, by simp [h]⟩
            · exact ⟨false, by simp [h]⟩
          have HM1 : Hid (Calls Try.prog 23 #[.pointer (some ⟨bm, 0, none⟩), .slice a len cap] wr fun e w' => e = .returned (.bool b) ∧ Below wr.heap.size wr w') :=
            matchT_any _ wr bm n xs a len cap (HM2.out.later (HB4.out.trans (HB.out.mono HB4.out.size))) (HRD.out.later HBW.out) (by omega) b hbb
          have HM2' : Hid (∀ V : World, Below wr.heap.size wr V → Calls Try.prog 23 #[.pointer (some ⟨bm4, 0, none⟩), .slice va (len - 0) vc] V fun e w' => e = .returned (.bool b) ∧ Below V.heap.size V w') := fun V hV => by
            have h1 := own_later5 HO.out hV
            obtain ⟨a', c', e', _, _, hr, _⟩ := rd_own2 h1
            cases e'
            exact matchT_any _ V bm4 n.rev xs.reverse va (len - 0) vc (HM4.out.later (HB.out.trans (hV.mono HB.out.size))) (by rw [List.drop_zero] at hr; exact hr) (by omega) b (HFIT.out b hbb)
          clear hbb
          go_wp2_with fail
          refine HM1.out.mono ?_
          rintro e w5 ⟨rfl, hb5⟩
          have HB5 : Hid (Below wr.heap.size wr w5) := hb5
          clear hb5
          go_wp2_with fail
          refine (HM2'.out w5 HB5.out).mono ?_
          rintro e w6 ⟨rfl, hb6⟩
          have HB6 : Hid (Below w.heap.size w w6) := (HBW.out.trans (HB5.out.mono HBW.out.size)).trans (hb6.mono (HBW.out.trans (HB5.out.mono HBW.out.size)).size)
          clear hb6
          go_wp2
          go_ret
          exact ⟨by simp, HB6.out⟩
        · obtain ⟨q, hq⟩ : ∃ q : Nat, q + 1 = m := ⟨m - 1, by omega⟩
          have hqi : (m : Int) - 1 = (q : Int) := by omega
          rw [hqi]
          obtain ⟨ln, hln⟩ : ∃ ln, ln = len - m := ⟨_, rfl⟩
          rw [← hln] at HO ⊢
          have hql : q < len := by omega
          have hqlx : q < xs.length := by rw [HL.out]; exact hql
          obtain ⟨b, off, rfl, hcl⟩ := (HRD.out.later HBW.out).2 (by omega)
          have hcq := hcl q hql
          obtain ⟨x, hx⟩ : ∃ x, x = xs.getD q 0 := ⟨_, rfl⟩
          have HBS : Hid ((xs.drop q).reverse = (xs.drop m).reverse ++ [x] ∧ len - q = ln + 1 ∧ ln + 1 ≤ 40) := ⟨by rw [hx, back_step xs q hqlx, hq], by omega, by omega⟩
          rw [← hx] at hcq
          have HNX : Hid (∀ (v : Value) (w9 : World), w9.ownsRow w4.heap.size 3 1 v (ln + 1) ((xs.drop m).reverse.map (Value.int .i64) ++ [.int .i64 x]) → w9.ownsRow w4.heap.size 3 1 v (len - q) ((xs.drop q).reverse.map (Value.int .i64))) := by
            intro v w9 h
            rw [HBS.out.1, HBS.out.2.1, List.map_append]
            exact h
          have HGR : Hid (∀ w9 : World, (wr.alloc (.cells #[.int .i64 x] 3)).grownBy w9 (Value.slice va ln vc).ownBlock → Below w4.heap.size w4 w9) := by
            intro w9 q2
            refine (HB.out.alloc HB.out.size _).grown q2 (by have := HB.out.size; simp; omega) (fun y hy => (HO.out.lt y hy).1)
          have hqm : (q : Int) ≤ 40 := by omega
          have HQ : Hid (q + 1 = m ∧ m ≤ len) := ⟨hq, hm⟩
          have HSZ : Hid (w4.heap.size ≤ wr.heap.size) := HB.out.size
          clear hcl hx hln hq hqi hm h0 hqlx
          go_wp2_with (at_builtin; refine wpList_append_lies _ rfl _ _ 22 rfl w4.heap.size 3 i0 _ 1 8 Try.underlying22 HJ.out.1 HJ.out.2.1 HJ.out.2.2.1 HJ.out.2.2.2 rfl (by decide) (.slice va ln vc) ln ((xs.drop m).reverse.map (Value.int .i64)) rfl (own_later5 HO.out ((Below.refl _ wr).alloc (Nat.le_refl _) _)) ⟨wr.heap.size, 0, none⟩ 1 1 [.int .i64 x] rfl rfl (World.news_of_block (cs := #[.int .i64 x]) (t := 3) (fr := (0, 0)) (heap_alloc_new wr _)) (by simp [Value.oneCell']) (by omega) (by have := HBS.out.2.2; unfold maxLen; omega) (by have := HBS.out.2.2; omega) (by have := HSZ.out; simp; omega) _ rfl (fun z cap5 w9 hown hgrow hat hlt5 => ?_); have HO9 : Hid _ := HNX.out _ _ hown; have HB9 : Hid (Below w4.heap.size w4 w9) := HGR.out _ hgrow; clear hown hgrow hat hlt5)
          go_roundw
          case rel => exact ⟨q, by have := HQ.out; omega, by go_num, HO9.out, HB9.out⟩
          case measure => simp [intOf]
    · exfalso
      rw [rev_ok, HOK.out] at hok4
      cases hok4
  · clear hok
    go_wp2
    go_ret
    exact ⟨rfl, HB2.out⟩
end Go.Proofs.Ytodaoelkljaflaa
