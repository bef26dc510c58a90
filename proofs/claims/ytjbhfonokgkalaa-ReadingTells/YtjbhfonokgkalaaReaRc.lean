/- The walks of Where, Fits, Which and Boundaries of the reference of reading. -/
import Derived.Test.YtjbhfonokgkalaaReaRb
import Derived.Deep.RegionHeld3
namespace Go.Proofs.Ytjbhfonokgkalaa
open Go.RowKit
set_option linter.unusedVariables false
set_option linter.unusedSimpArgs false

theorem ruleL_take (r : Rl) (xs : List Int) (k : Nat) (hk : k ≤ xs.length) : (ruleL r xs).take (k + 1) = (ruleL r xs).take k ++ [r.fit xs k] := by
  have hl : k < (ruleL r xs).length := by rw [ruleL_len]; omega
  rw [List.take_succ_eq_append_getElem hl]
  congr 2
  have := ruleL_get r xs k hk
  rw [List.getD_eq_getElem?_getD, List.getElem?_eq_getElem hl] at this
  exact this
set_option maxRecDepth 100000 in
set_option maxHeartbeats 16000000 in
theorem where_any (D : Nat) (r : Rl) (q : RlP) (xs : List Int) (a : Option Addr) (len cap : Nat) (w : World) (hr : RlAt w D r q) (hrd : Rd .i64 w a len xs) (hl : len ≤ 100) :
    Calls Try.prog 41 #[.agg (r.vals q), .slice a len cap] w (BoPost (ruleL r xs) (len + 1) w) := by
  obtain ⟨m, hm⟩ : ∃ m, m = len + 1 := ⟨_, rfl⟩
  obtain ⟨j0, ji, jz0, jz1, jz2⟩ := info_parts info_bo
  have HJ : Hid (Try.prog.info? 4 = some j0 ∧ j0.zero = some (.bool false) ∧ j0.size = 1 ∧ j0.bytes = 1) := ⟨ji, jz0, jz1, jz2⟩
  have HL : Hid (xs.length = len ∧ m = len + 1) := ⟨hrd.1, hm⟩
  obtain ⟨la, lc, lp, lpc, ra, rc, rp, rpc⟩ := q
  obtain ⟨lo, hlo⟩ : ∃ lo, lo = r.left.op := ⟨_, rfl⟩
  obtain ⟨ln, hln⟩ : ∃ ln, ln = r.left.cl.length := ⟨_, rfl⟩
  obtain ⟨lk, hlk⟩ : ∃ lk, lk = (toL r.left.kids).length := ⟨_, rfl⟩
  obtain ⟨ro, hro⟩ : ∃ ro, ro = r.right.op := ⟨_, rfl⟩
  obtain ⟨rn, hrn⟩ : ∃ rn, rn = r.right.cl.length := ⟨_, rfl⟩
  obtain ⟨rk, hrk⟩ : ∃ rk, rk = (toL r.right.kids).length := ⟨_, rfl⟩
  obtain ⟨st, hst⟩ : ∃ st, st = r.start := ⟨_, rfl⟩
  obtain ⟨br, hbr⟩ : ∃ br, br = r.brk := ⟨_, rfl⟩
  have HML : Hid (∀ (V : World) (G : List Bool) (av : Option Addr) (cv : Nat), Below w.heap.size w V → RdT V av m G → Calls Try.prog 57 #[.agg #[.int .i64 lo, .slice la ln lc, .slice lp lk lpc], .slice a len cap, .slice av m cv, .bool false] V (MvPost false r.left.lg xs G m V)) := by
    intro V G av cv hV hG
    rw [hlo, hln, hlk]
    exact moves_any D r.left la lp lc lpc _ V xs G false a av len m cap cv (hr.1.later hV D) (hrd.later hV) hl hm hG
  have HMR : Hid (∀ (V : World) (G : List Bool) (av : Option Addr) (cv : Nat), Below w.heap.size w V → RdT V av m G → Calls Try.prog 57 #[.agg #[.int .i64 ro, .slice ra rn rc, .slice rp rk rpc], .slice a len cap, .slice av m cv, .bool true] V (MvPost true r.right.lg xs G m V)) := by
    intro V G av cv hV hG
    rw [hro, hrn, hrk]
    exact moves_any D r.right ra rp rc rpc _ V xs G true a av len m cap cv (hr.2.later hV D) (hrd.later hV) hl hm hG
  have HALL : Hid (∀ (V : World) (b : Bool), Calls Try.prog 40 #[.int .i64 (len : Int), .bool b] V (BoPost (List.replicate m b) m V)) := fun V b => by rw [hm]; exact all_any len b V (by omega)
  have HST : Hid (st = r.start) := hst
  have hvals : r.vals ⟨la, lc, lp, lpc, ra, rc, rp, rpc⟩ = #[.int .i64 lo, .slice la ln lc, .slice lp lk lpc, .int .i64 ro, .slice ra rn rc, .slice rp rk rpc, .bool br, .bool st] := by simp only [Rl.vals, ← hlo, ← hln, ← hlk, ← hro, ← hrn, ← hrk, ← hst, ← hbr]
  rw [hvals, ← hm]
  obtain ⟨w1, hw1⟩ : ∃ w1, w1 = w.alloc (.cells #[.int .i64 lo, .slice la ln lc, .slice lp lk lpc, .int .i64 ro, .slice ra rn rc, .slice rp rk rpc, .bool br, .bool st] 35) := ⟨_, rfl⟩
  obtain ⟨H, hH⟩ : ∃ H, H = w.heap.size := ⟨_, rfl⟩
  have HB1 : Hid (Below w.heap.size w w1) := by rw [hw1]; exact (Below.refl _ w).alloc (Nat.le_refl _) _
  have hbx : w1.heap[H]? = some (.cells #[.int .i64 lo, .slice la ln lc, .slice lp lk lpc, .int .i64 ro, .slice ra rn rc, .slice rp rk rpc, .bool br, .bool st] 35) := by rw [hw1, hH]; exact heap_alloc_new w _
  have HX : Hid (∀ V : World, Below w1.heap.size w1 V → V.heap[H]? = some (.cells #[.int .i64 lo, .slice la ln lc, .slice lp lk lpc, .int .i64 ro, .slice ra rn rc, .slice rp rk rpc, .bool br, .bool st] 35)) := fun V hV => (hV.block H (Array.getElem?_eq_some_iff.1 hbx).1).trans hbx
  have hli : (len : Int) ≤ 100 := by omega
  have hm0 : 0 < m := by omega
  have hmu : (m : Int) ≤ 101 := by omega
  have HMLI : Hid ((m : Int) = (len : Int) + 1) := by show (m : Int) = (len : Int) + 1; omega
  clear hr hrd hl hm hlo hln hlk hro hrn hrk hst hbr hvals ji jz0 jz1 jz2 hbx
  go_enter Try.func41, Try.ntmps41
  go_upto_region 1 with fail
  rw [← hw1, ← hH]
  clear hw1 hH
  obtain ⟨s0, s1, s2, s3, s4, s5, s6, s7⟩ := box8 (HX.out w1 (Below.refl _ _))
  go_wp2_with fail
  refine (HALL.out w1 (!st)).mono ?_
  rintro e w2 ⟨v2, rfl, ho2, hb2⟩
  obtain ⟨av2, cv2, rfl⟩ := own_sl1 ho2
  obtain ⟨g, rfl, hgb, cur, hcur, hcell⟩ := own_cells1 ho2 hm0
  have hfz := Lib.frozen_of_heap hcur
  have t0 := hcell 0 hm0
  obtain ⟨z, hz⟩ : ∃ z, ((List.replicate m (!st)).map Value.bool)[0]? = some (.bool z) := get_bool _ 0 m (by have := ho2.1; omega) hm0
  rw [hz] at t0
  obtain ⟨w3, hw3⟩ : ∃ w3, w3 = w2.setCell ⟨g, 0, none⟩ (.bool true) := ⟨_, rfl⟩
  have HB3 : Hid (Below w1.heap.size w1 w3) := by rw [hw3]; exact hb2.setCell (p := ⟨g, 0, none⟩) hgb _
  have HW3 : Hid (Below w.heap.size w w3) := HB1.out.trans (HB3.out.mono HB1.out.size)
  have HR3 : Hid (RdT w3 (some ⟨g, 0, none⟩) m (fromS st len)) := by
    have h1 := own_set1 ho2 0 (.bool true)
    have e1 : ((List.replicate m (!st)).map Value.bool).set 0 (.bool true) = (fromS st len).map Value.bool := by
      rw [HL.out.2, List.replicate_succ]
      rfl
    rw [e1, ← hw3] at h1
    obtain ⟨a', c', he, _, _, h2⟩ := rdT_own h1
    cases he
    exact h2
  have hmpos : (0 : Int) < (m : Int) := by omega
  clear ho2 hb2 hgb hcur hcell hz s0 s1 s2 s3 s4 s5 s6 s7
  go_upto_region 4 with fail
  rw [← hw3]
  clear hw3 t0 hfz
  obtain ⟨s0, s1, s2, s3, s4, s5, s6, s7⟩ := box8 (HX.out w3 HB3.out)
  go_wp2_with fail
  refine (HML.out w3 _ _ cv2 HW3.out HR3.out).mono ?_
  rintro e w4 ⟨a4, c4, A, rfl, hrA, hmA, hb4⟩
  have HB4 : Hid (Below w1.heap.size w1 w4) := HB3.out.trans (hb4.mono HB3.out.size)
  have HW4 : Hid (Below w.heap.size w w4) := HW3.out.trans (hb4.mono HW3.out.size)
  have HRA : Hid (∀ V : World, Below w4.heap.size w4 V → RdT V a4 m A) := fun V hV => hrA.later hV
  have HMA : Hid (MvR false r.left.lg xs (fromS st len) A) := hmA
  have HD4 : Hid (Below w4.heap.size w4 w4.drew) := (Below.refl _ _).drew
  have HSS : Hid (∀ V : World, Below w4.heap.size w4 V → V.cell? ⟨H, 3, none⟩ = some (.int .i64 ro) ∧ V.cell? ⟨H, 4, none⟩ = some (.slice ra rn rc) ∧ V.cell? ⟨H, 5, none⟩ = some (.slice rp rk rpc)) := fun V hV => by
    obtain ⟨_, _, _, u3, u4, u5, _, _⟩ := box8 (HX.out V (HB4.out.trans (hV.mono HB4.out.size)))
    exact ⟨u3, u4, u5⟩
  clear hrA hmA hb4 s0 s1 s2 s3 s4 s5 s6 s7
  go_upto_region 5 with fail
  go_cut [8] (fun x8 wx => ∃ a6 c6 G, x8 = .slice a6 m c6 ∧ RdT wx a6 m G ∧ MvR true r.right.lg xs (List.replicate m true) G ∧ Below w4.heap.size w4 wx)
  case first =>
    go_region_held3 (fun w' => w'.cell? ⟨H, 3, none⟩ = some (.int .i64 ro) ∧ w'.cell? ⟨H, 4, none⟩ = some (.slice ra rn rc) ∧ w'.cell? ⟨H, 5, none⟩ = some (.slice rp rk rpc))
      (first | exact HSS.out _ HD4.out | exact HSS.out _ (Below.refl _ _) | exact HSS.out _ HB5.out | exact HSS.out _ HB6.out.2)
      (first
        | (go_at_call 40; refine (HALL.out _ true).mono ?_; rintro e w5 ⟨v5, rfl, ho5, hb5⟩; obtain ⟨a5, c5, rfl, _, _, hr5⟩ := rdT_own ho5; have HB5 : Hid (Below w4.heap.size w4 w5) := HD4.out.trans (hb5.mono HD4.out.size); have HR5 : Hid (RdT w5 a5 m (List.replicate m true)) := hr5; clear hr5 ho5 hb5)
        | (go_at_call 57; refine (HMR.out _ _ _ _ (HW4.out.trans (HB5.out.mono HW4.out.size)) HR5.out).mono ?_; rintro e w6 ⟨a6, c6, G, rfl, hr6, hm6, hb6⟩; have HB6 : Hid ((RdT w6 a6 m G ∧ MvR true r.right.lg xs (List.replicate m true) G) ∧ Below w4.heap.size w4 w6) := ⟨⟨hr6, hm6⟩, HB5.out.trans (hb6.mono HB5.out.size)⟩; clear hr6 hm6 hb6))
    all_goals
      go_wp2
      go_meet
      exact ⟨a6, c6, G, rfl, HB6.out.1.1, HB6.out.1.2, HB6.out.2⟩
  case rest =>
    obtain ⟨a6, c6, G, hx8, hr6, hm6, hb6⟩ := hcut
    subst hx8
    obtain ⟨w6, hw6⟩ : ∃ W, W = wc := ⟨_, rfl⟩
    rw [← hw6] at hr6 hb6 ⊢
    clear hw6
    have HB6 : Hid (Below w4.heap.size w4 w6) := hb6
    have HW6 : Hid (Below w.heap.size w w6) := HW4.out.trans (hb6.mono HW4.out.size)
    have HR6 : Hid (∀ V : World, Below w6.heap.size w6 V → RdT V a4 m A ∧ RdT V a6 m G) := fun V hV => ⟨HRA.out V (hb6.trans (hV.mono hb6.size)), hr6.later hV⟩
    have HFT : Hid (∀ p, p ≤ len → (A.getD p false && G.getD p false) = r.fit xs p) := by
      intro p hp
      have h1 := HMA.out
      have h2 := hm6
      rw [HST.out] at h1
      rw [HL.out.2] at h2
      rw [← HL.out.1] at h1 h2 hp
      exact where_fit r xs A G h1 h2 p hp
    clear hr6 hm6 hb6 HRA HMA HSS HML HMR HALL
    go_wp2
    go_loopw [9, 10] (fun x9 x10 wr => ∃ k : Nat, k ≤ m ∧ x10 = .int .i64 k ∧ wr.ownsRow w6.heap.size 4 1 x9 k (((ruleL r xs).take k).map Value.bool) ∧ Below w6.heap.size w6 wr) (fun _ x10 _ => m - (intOf x10).toNat)
    case atStart => exact ⟨0, by omega, rfl, World.ownsRow_nil _ _ _ _, Below.refl _ _⟩
    case round =>
      obtain ⟨k, hk, hx10, ho, hbl⟩ := hrel
      subst hx10
      obtain ⟨av, cv, rfl⟩ := own_sl1 ho
      obtain ⟨P, hP⟩ : ∃ P, P = (ruleL r xs).take k := ⟨_, rfl⟩
      rw [← hP] at ho
      have HO : Hid (wr.ownsRow w6.heap.size 4 1 (.slice av k cv) k (P.map Value.bool)) := ho
      have HBL : Hid (Below w6.heap.size w6 wr) := hbl
      have HP : Hid (P = (ruleL r xs).take k) := hP
      clear ho hbl hP
      by_cases hlt : k < m
      · have hmli := HMLI.out
        have hki : (k : Int) ≤ (len : Int) := by omega
        have hkm : (k : Int) < (m : Int) := by omega
        have HSZ : Hid (w6.heap.size ≤ wr.heap.size) := HBL.out.size
        obtain ⟨z1, z2⟩ := HR6.out wr HBL.out
        obtain ⟨b1, o1, rfl, e1⟩ := z1.2 hm0
        obtain ⟨b2, o2, rfl, e2⟩ := z2.2 hm0
        have t1 := e1 k hlt
        have t2 := e2 k hlt
        obtain ⟨x, hx⟩ : ∃ x, x = A.getD k false := ⟨_, rfl⟩
        obtain ⟨y, hy⟩ : ∃ y, y = G.getD k false := ⟨_, rfl⟩
        have HTK : Hid (P ++ [x && y] = (ruleL r xs).take (k + 1)) := by
          show _ = _
          rw [ruleL_take r xs k (by rw [HL.out.1]; omega), HP.out, hx, hy, HFT.out k (by omega)]
        rw [← hx] at t1
        rw [← hy] at t2
        clear e1 e2 hx hy hmli z1 z2
        cases x
        · rw [Bool.false_and] at HTK
          go_wp2_with (at_builtin; refine wpList_append_lies _ rfl _ _ 27 rfl w6.heap.size 4 j0 _ 1 1 Try.underlying27 HJ.out.1 HJ.out.2.1 HJ.out.2.2.1 HJ.out.2.2.2 rfl (by decide) (.slice av k cv) k (P.map Value.bool) rfl (own_alloc HO.out _) ⟨wr.heap.size, 0, none⟩ 1 1 [.bool false] rfl rfl (World.news_of_block (cs := #[.bool false]) (t := 4) (fr := (0, 0)) (heap_alloc_new wr _)) (by simp [Value.oneCell']) (by omega) (by unfold maxLen; omega) (by omega) (by have := HSZ.out; simp; omega) _ rfl (fun g cp w8 q1 q2 q3 q4 => ?_); have HN := snoc_own HO.out HBL.out g cp q1 q2 rfl; have HNN : Hid (w8.ownsRow w6.heap.size 4 1 (.slice (some ⟨g, 0, none⟩) (k + 1) cp) (k + 1) ((P ++ [false]).map Value.bool) ∧ Below w6.heap.size w6 w8) := HN; clear HN q1 q2 q3 q4)
          go_roundw
          case rel => exact ⟨k + 1, by omega, by go_num, by rw [← HTK.out]; exact HNN.out.1, HNN.out.2⟩
          case measure => simp [intOf]; omega
        · rw [Bool.true_and] at HTK
          go_wp2_with (at_builtin; refine wpList_append_lies _ rfl _ _ 27 rfl w6.heap.size 4 j0 _ 1 1 Try.underlying27 HJ.out.1 HJ.out.2.1 HJ.out.2.2.1 HJ.out.2.2.2 rfl (by decide) (.slice av k cv) k (P.map Value.bool) rfl (own_alloc HO.out _) ⟨wr.heap.size, 0, none⟩ 1 1 [.bool y] rfl rfl (World.news_of_block (cs := #[.bool y]) (t := 4) (fr := (0, 0)) (heap_alloc_new wr _)) (by simp [Value.oneCell']) (by omega) (by unfold maxLen; omega) (by omega) (by have := HSZ.out; simp; omega) _ rfl (fun g cp w8 q1 q2 q3 q4 => ?_); have HN := snoc_own HO.out HBL.out g cp q1 q2 rfl; have HNN : Hid (w8.ownsRow w6.heap.size 4 1 (.slice (some ⟨g, 0, none⟩) (k + 1) cp) (k + 1) ((P ++ [y]).map Value.bool) ∧ Below w6.heap.size w6 w8) := HN; clear HN q1 q2 q3 q4)
          go_roundw
          case rel => exact ⟨k + 1, by omega, by go_num, by rw [← HTK.out]; exact HNN.out.1, HNN.out.2⟩
          case measure => simp [intOf]; omega
      · obtain rfl : k = m := by omega
        have hmli := HMLI.out
        have hki : ¬ (k : Int) ≤ (len : Int) := by omega
        have HF : Hid (BoPost (ruleL r xs) k w (.returned (.slice av k cv)) wr) := by
          have h1 := HO.out
          rw [HP.out, List.take_of_length_le (by rw [ruleL_len, HL.out.1, ← HL.out.2]; exact Nat.le_refl _)] at h1
          exact ⟨_, rfl, own_base h1 HW6.out.size, HW6.out.trans (HBL.out.mono HW6.out.size)⟩
        clear hmli
        go_wp2
        go_ret
        exact HF.out

set_option maxRecDepth 100000 in
set_option maxHeartbeats 8000000 in
theorem fitsR_any (D : Nat) (r : Rl) (q : RlP) (xs : List Int) (a : Option Addr) (len cap : Nat) (p : Int) (w : World) (hr : RlAt w D r q) (hrd : Rd .i64 w a len xs) (hl : len ≤ 100) :
    Calls Try.prog 15 #[.agg (r.vals q), .slice a len cap, .int .i64 p] w fun e w' => e = .returned (.bool (fitI r xs p)) ∧ Below w.heap.size w w' := by
  have HWH : Hid (∀ V : World, Below w.heap.size w V → Calls Try.prog 41 #[.agg (r.vals q), .slice a len cap] V (BoPost (ruleL r xs) (len + 1) V)) := fun V hV => where_any D r q xs a len cap V (hr.later hV) (hrd.later hV) hl
  obtain ⟨R, hR⟩ : ∃ R, R = fitI r xs p := ⟨_, rfl⟩
  rw [← hR]
  have HRI : Hid (R = fitI r xs p) := hR
  have HL : Hid (xs.length = len) := hrd.1
  obtain ⟨la, lc, lp, lpc, ra, rc, rp, rpc⟩ := q
  obtain ⟨lo, hlo⟩ : ∃ lo, lo = r.left.op := ⟨_, rfl⟩
  obtain ⟨ln, hln⟩ : ∃ ln, ln = r.left.cl.length := ⟨_, rfl⟩
  obtain ⟨lk, hlk⟩ : ∃ lk, lk = (toL r.left.kids).length := ⟨_, rfl⟩
  obtain ⟨ro, hro⟩ : ∃ ro, ro = r.right.op := ⟨_, rfl⟩
  obtain ⟨rn, hrn⟩ : ∃ rn, rn = r.right.cl.length := ⟨_, rfl⟩
  obtain ⟨rk, hrk⟩ : ∃ rk, rk = (toL r.right.kids).length := ⟨_, rfl⟩
  obtain ⟨st, hst⟩ : ∃ st, st = r.start := ⟨_, rfl⟩
  obtain ⟨br, hbr⟩ : ∃ br, br = r.brk := ⟨_, rfl⟩
  have hvals : r.vals ⟨la, lc, lp, lpc, ra, rc, rp, rpc⟩ = #[.int .i64 lo, .slice la ln lc, .slice lp lk lpc, .int .i64 ro, .slice ra rn rc, .slice rp rk rpc, .bool br, .bool st] := by simp only [Rl.vals, ← hlo, ← hln, ← hlk, ← hro, ← hrn, ← hrk, ← hst, ← hbr]
  rw [hvals] at HWH ⊢
  obtain ⟨w1, hw1⟩ : ∃ w1, w1 = w.alloc (.cells #[.int .i64 lo, .slice la ln lc, .slice lp lk lpc, .int .i64 ro, .slice ra rn rc, .slice rp rk rpc, .bool br, .bool st] 35) := ⟨_, rfl⟩
  obtain ⟨H, hH⟩ : ∃ H, H = w.heap.size := ⟨_, rfl⟩
  have HB1 : Hid (Below w.heap.size w w1) := by rw [hw1]; exact (Below.refl _ w).alloc (Nat.le_refl _) _
  have hbx : w1.heap[H]? = some (.cells #[.int .i64 lo, .slice la ln lc, .slice lp lk lpc, .int .i64 ro, .slice ra rn rc, .slice rp rk rpc, .bool br, .bool st] 35) := by rw [hw1, hH]; exact heap_alloc_new w _
  obtain ⟨s0, s1, s2, s3, s4, s5, s6, s7⟩ := box8 hbx
  have hli : (len : Int) ≤ 100 := by omega
  clear hr hrd hl hR hlo hln hlk hro hrn hrk hst hbr hvals hbx
  go_enter Try.func15, Try.ntmps15
  go_upto_region 1 with fail
  rw [← hw1, ← hH]
  clear hw1 hH
  by_cases h0 : p < 0
  · have hR : R = false := by rw [HRI.out]; unfold fitI; rw [if_neg (by omega)]
    subst hR
    go_wp2
    go_ret
    exact ⟨rfl, HB1.out⟩
  by_cases h1 : (len : Int) < p
  · have hR : R = false := by rw [HRI.out]; unfold fitI; rw [if_neg (by rw [HL.out]; omega)]
    subst hR
    go_wp2
    go_ret
    exact ⟨rfl, HB1.out⟩
  obtain ⟨k, rfl⟩ : ∃ k : Nat, p = (k : Int) := ⟨p.toNat, by omega⟩
  have hk : k ≤ len := by omega
  have HRK : Hid (R = r.fit xs k) := by
    show _ = _
    rw [HRI.out]; exact fit_fitI r xs k (by rw [HL.out]; exact hk)
  go_wp2_with fail
  refine (HWH.out w1 HB1.out).mono ?_
  rintro e w2 ⟨v2, rfl, ho2, hb2⟩
  obtain ⟨a2, c2, rfl, _, _, hr2⟩ := rdT_own ho2
  obtain ⟨m, hm⟩ : ∃ m, m = len + 1 := ⟨_, rfl⟩
  rw [← hm] at hr2 ⊢
  obtain ⟨b, off, rfl, hc⟩ := hr2.2 (by omega)
  have t1 := hc k (by omega)
  rw [ruleL_get r xs k (by rw [HL.out]; exact hk), ← HRK.out] at t1
  have HB2 : Hid (Below w.heap.size w w2) := HB1.out.trans (hb2.mono HB1.out.size)
  have hkm : (k : Int) < (m : Int) := by omega
  have hk0 : (0 : Int) ≤ (k : Int) := by omega
  clear ho2 hb2 hr2 hc hm s0 s1 s2 s3 s4 s5 s6 s7
  go_wp2
  go_ret
  exact ⟨rfl, HB2.out⟩
set_option maxRecDepth 100000 in
set_option maxHeartbeats 8000000 in
theorem whichR_any (D : Nat) (l : List Rl) (xs : List Int) (al a : Option Addr) (n c len cap : Nat) (p : Int) (w : World) (hrow : RowR w D al n l) (hn : n ≤ 1000) (hrd : Rd .i64 w a len xs) (hl : len ≤ 100) :
    Calls Try.prog 17 #[.slice al n c, .slice a len cap, .int .i64 p] w fun e w' => e = .returned (.int .i64 (firstI (fun r => fitI r xs p) l)) ∧ Below w.heap.size w w' := by
  have HD : Hid (RowR w D al n l) := hrow
  have HLL : Hid (l.length = n) := hrow.1
  have HFI : Hid (∀ (V : World) (r : Rl) (q : RlP), Below w.heap.size w V → RlAt V D r q → Calls Try.prog 15 #[.agg (r.vals q), .slice a len cap, .int .i64 p] V fun e w' => e = .returned (.bool (fitI r xs p)) ∧ Below V.heap.size V w') := fun V r q hV hr => fitsR_any D r q xs a len cap p V hr (hrd.later hV) hl
  obtain ⟨R, hR⟩ : ∃ R, R = firstI (fun r => fitI r xs p) l := ⟨_, rfl⟩
  rw [← hR]
  have HR : Hid (R = firstI (fun r => fitI r xs p) l) := hR
  have hni : (n : Int) ≤ 1000 := by omega
  clear hrow hrd hR
  go_enter Try.func17, Try.ntmps17
  go_wp2
  go_loopw [7, 8] (fun x7 _ wr => ∃ k : Nat, k ≤ n ∧ x7 = .int .i64 k ∧ (∀ j (hj : j < l.length), j < k → fitI l[j] xs p = false) ∧ Below w.heap.size w wr) (fun x7 _ _ => n - (intOf x7).toNat)
  case atStart => exact ⟨0, by omega, rfl, fun j _ hj => absurd hj (by omega), Below.refl _ _⟩
  case round =>
    obtain ⟨k, hk, hx7, hat, hbl⟩ := hrel
    subst hx7
    have HAT : Hid (∀ j (hj : j < l.length), j < k → fitI l[j] xs p = false) := hat
    have HBL : Hid (Below w.heap.size w wr) := hbl
    clear hat hbl
    by_cases hlt : k < n
    · have hkl : k < l.length := by rw [HLL.out]; exact hlt
      have hki : (k : Int) < (n : Int) := by omega
      have hk0 : (0 : Int) ≤ (k : Int) := by omega
      obtain ⟨b, off, q, rfl, hr, t0, t1, t2, t3, t4, t5, t6, t7⟩ := (HD.out.later HBL.out).cells k hkl
      obtain ⟨F, hF⟩ : ∃ F, F = fitI l[k] xs p := ⟨_, rfl⟩
      have HCC : Hid (Calls Try.prog 15 #[.agg (l[k].vals q), .slice a len cap, .int .i64 p] wr fun e w' => e = .returned (.bool F) ∧ Below wr.heap.size wr w') := by rw [hF]; exact HFI.out wr l[k] q HBL.out hr
      have HF : Hid (F = fitI l[k] xs p) := hF
      obtain ⟨r, hrr⟩ : ∃ r, r = l[k] := ⟨_, rfl⟩
      rw [← hrr] at t0 t1 t2 t3 t4 t5 t6 t7 HCC
      obtain ⟨la, lc, lp, lpc, ra, rc, rp, rpc⟩ := q
      obtain ⟨lo, hlo⟩ : ∃ lo, lo = r.left.op := ⟨_, rfl⟩
      obtain ⟨ln, hln⟩ : ∃ ln, ln = r.left.cl.length := ⟨_, rfl⟩
      obtain ⟨lk, hlk⟩ : ∃ lk, lk = (toL r.left.kids).length := ⟨_, rfl⟩
      obtain ⟨ro, hro⟩ : ∃ ro, ro = r.right.op := ⟨_, rfl⟩
      obtain ⟨rn, hrn⟩ : ∃ rn, rn = r.right.cl.length := ⟨_, rfl⟩
      obtain ⟨rk, hrk⟩ : ∃ rk, rk = (toL r.right.kids).length := ⟨_, rfl⟩
      obtain ⟨st, hst⟩ : ∃ st, st = r.start := ⟨_, rfl⟩
      obtain ⟨br, hbr⟩ : ∃ br, br = r.brk := ⟨_, rfl⟩
      simp only [Rl.vals, ← hlo, ← hln, ← hlk, ← hro, ← hrn, ← hrk, ← hst, ← hbr] at HCC t0 t1 t2 t3 t4 t5 t6 t7
      clear hr hrr hF hlo hln hlk hro hrn hrk hst hbr
      go_wp2_with fail
      refine HCC.out.mono ?_
      rintro e w2 ⟨rfl, hb2⟩
      have HB2 : Hid (Below w.heap.size w w2) := HBL.out.trans (hb2.mono HBL.out.size)
      clear hb2 HCC t0 t1 t2 t3 t4 t5 t6 t7
      cases F with
      | true =>
        have hR : R = (k : Int) := HR.out.trans (firstI_at _ l k hkl (fun j hj => HAT.out j (by omega) hj) HF.out.symm)
        subst hR
        go_wp2
        go_ret
        exact ⟨rfl, HB2.out⟩
      | false =>
        go_wp2
        go_roundw
        case rel =>
          refine ⟨k + 1, by omega, by go_num, fun j hj hj2 => ?_, HB2.out⟩
          rcases Nat.lt_or_ge j k with h | h
          · exact HAT.out j hj h
          · obtain rfl : j = k := by omega
            exact HF.out.symm
        case measure => simp [intOf]; omega
    · have hR : R = -1 := HR.out.trans (firstI_no _ l (fun x hx => by
        obtain ⟨j, hj, rfl⟩ := List.mem_iff_getElem.1 hx
        exact HAT.out j hj (by rw [HLL.out] at hj; omega)))
      subst hR
      have hki : ¬ (k : Int) < (n : Int) := by omega
      go_wp2
      go_ret
      exact ⟨rfl, HBL.out⟩

end Go.Proofs.Ytjbhfonokgkalaa
