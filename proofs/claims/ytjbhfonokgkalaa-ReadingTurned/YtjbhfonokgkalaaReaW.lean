/- The walk of few. -/
import Derived.Test.YtjbhfonokgkalaaReaV
namespace Go.Proofs.Ytjbhfonokgkalaa
open Go.RowKit
set_option linter.unusedVariables false
set_option linter.unusedSimpArgs false

/-- Where few's loop stands. -/
def FewAt (al : Option Addr) (l : List Rl) (k : Nat) (w : World) (v : Value) (wr : World) : Prop :=
  ∃ ps : List (Rl × RlP), ps.map (fun x => x.1) = (l.take k).filter keepR ∧ wr.ownsRow w.heap.size 35 8 v ps.length (flatU ps) ∧ (∀ x ∈ ps, RlAt w 12 x.1 x.2 ∧ InRow w al x) ∧ Below w.heap.size w wr
theorem FewAt.skipped {al : Option Addr} {l : List Rl} {k : Nat} (hk : k < l.length) {w : World} {v : Value} {wr W : World} (h : FewAt al l k w v wr) (hW : Below wr.heap.size wr W) (hf : keepR l[k] = false) : FewAt al l (k + 1) w v W := by
  obtain ⟨ps, h1, h2, h3, h4⟩ := h
  refine ⟨ps, ?_, own_later5 h2 hW, h3, h4.trans (hW.mono h4.size)⟩
  rw [filter_snoc l k hk, if_neg (by rw [hf]; simp), List.append_nil]
  exact h1
theorem FewAt.kept {al : Option Addr} {l : List Rl} {k : Nat} (hk : k < l.length) {w : World} {av : Option Addr} {N cv : Nat} {wr W w1 : World} {ps : List (Rl × RlP)} {D : Nat} {q : RlP} (h1 : ps.map (fun x => x.1) = (l.take k).filter keepR) (h2 : wr.ownsRow w.heap.size 35 8 (.slice av N cv) N (flatU ps)) (h3 : ∀ x ∈ ps, RlAt w 12 x.1 x.2 ∧ InRow w al x) (h4 : Below w.heap.size w wr) (hN : N = ps.length) (hr : RlAt w D l[k] q) (hq : InRow w al (l[k], q))
    (hW : Below wr.heap.size wr W) (hf : keepR l[k] = true) (g cp : Nat) (o1 : w1.ownsRow w.heap.size 35 8 (.slice (some ⟨g, 0, none⟩) (N + 1) cp) (N + 1) (flatU ps ++ (l[k].vals q).toList)) (gr : (W.alloc (.cells (l[k].vals q) 35)).grownBy w1 (Value.slice av N cv).ownBlock) : FewAt al l (k + 1) w (.slice (some ⟨g, 0, none⟩) (N + 1) cp) w1 := by
  have hs := hW.size
  have hs4 := h4.size
  have hbW : Below w.heap.size w (W.alloc (.cells (l[k].vals q) 35)) := (h4.trans (hW.mono h4.size)).alloc (by omega) _
  have hb1 : Below w.heap.size w w1 := hbW.grown gr hbW.size (fun y hy => (h2.lt y hy).1)
  refine ⟨ps ++ [(l[k], q)], ?_, ?_, ?_, hb1⟩
  · rw [List.map_append, h1, filter_snoc l k hk, if_pos hf]; rfl
  · rw [show (ps ++ [(l[k], q)]).length = N + 1 by simp [hN], show flatU (ps ++ [(l[k], q)]) = flatU ps ++ (l[k].vals q).toList by simp [flatU]]
    exact o1
  · intro x hx
    rcases List.mem_append.1 hx with hx | hx
    · exact h3 x hx
    · rw [List.mem_singleton.1 hx]
      exact ⟨hr.cut hf, hq⟩

set_option maxHeartbeats 16000000 in
theorem few_any2 (D : Nat) (l : List Rl) (xs : List Int) (al a : Option Addr) (n c len cap : Nat) (w : World) (hrow : RowR w D al n l) (hn : n ≤ 140737488355328) (hrd : Rd .i64 w a len xs) (hcap : len ≤ cap) (hcm : cap ≤ 9223372036854775807) (hnone : a = none → cap = 0) :
    Calls Try.prog 10 #[.slice al n c, .slice a len cap] w (FewPost2 al l xs w) := by
  have hlen := hrd.1
  have hll := hrow.1
  obtain ⟨i0, hi, hz0, hz1, hz2⟩ := info_parts info_i
  have HI : Hid (Try.prog.info? 3 = some i0 ∧ i0.zero = some (.int .i64 0) ∧ i0.size = 1 ∧ i0.bytes = 8) := ⟨hi, hz0, hz1, hz2⟩
  obtain ⟨j0, ji, jz0, jz1, jz2⟩ := info_parts info_Ru
  have HJ : Hid (Try.prog.info? 35 = some j0 ∧ j0.zero = some (.agg #[.int .i64 0, .slice none 0 0, .slice none 0 0, .int .i64 0, .slice none 0 0, .slice none 0 0, .bool false, .bool false]) ∧ j0.size = 8 ∧ j0.bytes = 120) := ⟨ji, jz0, jz1, jz2⟩
  obtain ⟨m, hm⟩ : ∃ m, m = min len 16 := ⟨_, rfl⟩
  have hmin := min_run len m 16 (by omega)
  have hcut := cutI_to a len cap m (by omega)
  have hxm : (xs.take 16).length = m := by simp; omega
  have HXM : Hid ((xs.take 16).length = m ∧ m ≤ 16 ∧ xs.take m = xs.take 16) := ⟨hxm, by omega, by
    rcases Nat.lt_or_ge len 16 with h | h
    · rw [List.take_of_length_le (by omega), List.take_of_length_le (by omega)]
    · rw [show m = 16 by omega]⟩
  have HR : Hid (Rd .i64 w a m (xs.take 16)) := by
    have := hrd.take m (by omega)
    rw [HXM.out.2.2] at this
    exact this
  have HNO : Hid (a = none → cap = 0) := hnone
  have HD : Hid (RowR w D al n l) := hrow
  have HL : Hid (l.length = n) := hll
  have hni : (n : Int) ≤ 140737488355328 := by omega
  have hmi : (m : Int) ≤ 16 := by omega
  clear hi hz0 hz1 hz2 ji jz0 jz1 jz2 hrow hrd hnone hlen hll hm hxm hn hcm hcap
  go_enter Try.func10, Try.ntmps10
  go_wp2
  go_loopw [6, 7] (fun x6 x7 wr => ∃ k : Nat, k ≤ n ∧ k ≤ 10 ∧ x7 = .int .i64 k ∧ FewAt al l k w x6 wr) (fun _ x7 _ => 10 - (intOf x7).toNat)
  case atStart => exact ⟨0, by omega, by omega, rfl, [], rfl, World.ownsRow_nil _ _ _ _, (fun x hx => by simp at hx), Below.refl _ _⟩
  case round =>
    obtain ⟨k, hk, hk10, hx7, ps, hps, o1, hps3, hbl⟩ := hrel
    subst hx7
    obtain ⟨av, cv, rfl⟩ := own_sl1 o1
    have HBL : Hid (Below w.heap.size w wr) := hbl
    obtain ⟨N, hN⟩ : ∃ N, N = ps.length := ⟨_, rfl⟩
    have HN10 : Hid (N ≤ k) := by
      show N ≤ k
      have h1 : ps.length = ((l.take k).filter keepR).length := by rw [← hps]; simp
      have h2 := List.length_filter_le keepR (l.take k)
      have h3 : (l.take k).length ≤ k := by simp; omega
      omega
    have HPS : Hid (ps.map (fun x => x.1) = (l.take k).filter keepR ∧ wr.ownsRow w.heap.size 35 8 (.slice av N cv) N (flatU ps) ∧ (∀ x ∈ ps, RlAt w 12 x.1 x.2 ∧ InRow w al x) ∧ N = ps.length) := ⟨hps, by rw [hN]; exact o1, hps3, hN⟩
    rw [← hN]
    clear hps o1 hps3 hbl hN
    by_cases hlt : k < n ∧ k < 10
    · have hk1 : (k : Int) < (n : Int) := by omega
      have hk2 : (k : Int) < 10 := by omega
      have hk0 : (0 : Int) ≤ (k : Int) := by omega
      have hkl : k < l.length := by rw [HL.out]; exact hlt.1
      obtain ⟨b, off, q, rfl, hr, hcs⟩ := HD.out.2 k hkl
      have HIR : Hid (InRow w (some ⟨b, off, none⟩) (l[k], q)) := ⟨b, off, k, rfl, hcs⟩
      have t0 := hcs 0 _ rfl
      have t1 := hcs 1 _ rfl
      have t2 := hcs 2 _ rfl
      have t3 := hcs 3 _ rfl
      have t4 := hcs 4 _ rfl
      have t5 := hcs 5 _ rfl
      have t6 := hcs 6 _ rfl
      have t7 := hcs 7 _ rfl
      rw [Nat.add_zero] at t0
      clear hcs
      have HNOT : Hid (∀ W, Below wr.heap.size wr W → keepR l[k] = false → FewAt (some ⟨b, off, none⟩) l (k + 1) w (.slice av N cv) W) := fun W hW hf => FewAt.skipped hkl ⟨ps, HPS.out.1, by rw [← HPS.out.2.2.2]; exact HPS.out.2.1, HPS.out.2.2.1, HBL.out⟩ hW hf
      have HONE : Hid (∀ (W w1 : World) (g cp : Nat), Below wr.heap.size wr W → keepR l[k] = true → w1.ownsRow w.heap.size 35 8 (.slice (some ⟨g, 0, none⟩) (N + 1) cp) (N + 1) (flatU ps ++ (l[k].vals q).toList) → (W.alloc (.cells (l[k].vals q) 35)).grownBy w1 (Value.slice av N cv).ownBlock → FewAt (some ⟨b, off, none⟩) l (k + 1) w (.slice (some ⟨g, 0, none⟩) (N + 1) cp) w1) := fun W w1 g cp hW hf h1 h2 => FewAt.kept hkl HPS.out.1 HPS.out.2.1 HPS.out.2.2.1 HBL.out HPS.out.2.2.2 hr HIR.out hW hf g cp h1 h2
      obtain ⟨r, hrr⟩ : ∃ r, r = l[k] := ⟨_, rfl⟩
      rw [← hrr] at hr t0 t1 t2 t3 t4 t5 t6 t7 HNOT HONE
      obtain ⟨la, lc, lp, lpc, ra, rc, rp, rpc⟩ := q
      have HDL : Hid (∀ W, Below w.heap.size w W → Calls Try.prog 35 #[.agg #[.int .i64 r.left.op, .slice la r.left.cl.length lc, .slice lp (toL r.left.kids).length lpc], .int .i64 12] W fun e w' => e = .returned (.int .i64 (dpF 12 r.left)) ∧ Below W.heap.size W w') := fun W hW => deep_any 12 (by omega) D r.left la lp lc lpc _ W (hr.1.later hW D)
      have HDR : Hid (∀ W, Below w.heap.size w W → Calls Try.prog 35 #[.agg #[.int .i64 r.right.op, .slice ra r.right.cl.length rc, .slice rp (toL r.right.kids).length rpc], .int .i64 12] W fun e w' => e = .returned (.int .i64 (dpF 12 r.right)) ∧ Below W.heap.size W w') := fun W hW => deep_any 12 (by omega) D r.right ra rp rc rpc _ W (hr.2.later hW D)
      have HCL : Hid (∀ W, Below w.heap.size w W → Calls Try.prog 36 #[.agg #[.int .i64 r.left.op, .slice la r.left.cl.length lc, .slice lp (toL r.left.kids).length lpc]] W fun e w' => e = .returned (.int .i64 (IntKind.i64.wrap r.left.sz)) ∧ Below W.heap.size W w') := fun W hW => count_any D r.left la lp lc lpc _ W (hr.1.later hW D)
      have HCR : Hid (∀ W, Below w.heap.size w W → Calls Try.prog 36 #[.agg #[.int .i64 r.right.op, .slice ra r.right.cl.length rc, .slice rp (toL r.right.kids).length rpc]] W fun e w' => e = .returned (.int .i64 (IntKind.i64.wrap r.right.sz)) ∧ Below W.heap.size W w') := fun W hW => count_any D r.right ra rp rc rpc _ W (hr.2.later hW D)
      obtain ⟨v1, hv1⟩ : ∃ v1, v1 = dpF 12 r.left := ⟨_, rfl⟩
      obtain ⟨v2, hv2⟩ : ∃ v2, v2 = dpF 12 r.right := ⟨_, rfl⟩
      obtain ⟨v3, hv3⟩ : ∃ v3, v3 = IntKind.i64.wrap r.left.sz := ⟨_, rfl⟩
      obtain ⟨v4, hv4⟩ : ∃ v4, v4 = IntKind.i64.wrap r.right.sz := ⟨_, rfl⟩
      have HKP : Hid (keepR r = (decide (v1 ≤ 8) && decide (v2 ≤ 8) && decide (v3 ≤ 60) && decide (v4 ≤ 60))) := by rw [hv1, hv2, hv3, hv4]; rfl
      rw [← hv1] at HDL
      rw [← hv2] at HDR
      rw [← hv3] at HCL
      rw [← hv4] at HCR
      obtain ⟨lo, hlo⟩ : ∃ lo, lo = r.left.op := ⟨_, rfl⟩
      obtain ⟨ln, hln⟩ : ∃ ln, ln = r.left.cl.length := ⟨_, rfl⟩
      obtain ⟨lk, hlk⟩ : ∃ lk, lk = (toL r.left.kids).length := ⟨_, rfl⟩
      obtain ⟨ro, hro⟩ : ∃ ro, ro = r.right.op := ⟨_, rfl⟩
      obtain ⟨rn, hrn⟩ : ∃ rn, rn = r.right.cl.length := ⟨_, rfl⟩
      obtain ⟨rk, hrk⟩ : ∃ rk, rk = (toL r.right.kids).length := ⟨_, rfl⟩
      obtain ⟨st, hst⟩ : ∃ st, st = r.start := ⟨_, rfl⟩
      obtain ⟨br, hbr⟩ : ∃ br, br = r.brk := ⟨_, rfl⟩
      simp only [Rl.vals, ← hlo, ← hln, ← hlk, ← hro, ← hrn, ← hrk, ← hst, ← hbr] at HDL HDR HCL HCR HONE t0 t1 t2 t3 t4 t5 t6 t7
      have HCE : Hid (∀ W, Below w.heap.size w W → W.cell? ⟨b, off + k * 8, none⟩ = some (.int .i64 lo) ∧ W.cell? ⟨b, off + k * 8 + 1, none⟩ = some (.slice la ln lc) ∧ W.cell? ⟨b, off + k * 8 + 2, none⟩ = some (.slice lp lk lpc) ∧ W.cell? ⟨b, off + k * 8 + 3, none⟩ = some (.int .i64 ro) ∧ W.cell? ⟨b, off + k * 8 + 4, none⟩ = some (.slice ra rn rc) ∧ W.cell? ⟨b, off + k * 8 + 5, none⟩ = some (.slice rp rk rpc) ∧ W.cell? ⟨b, off + k * 8 + 6, none⟩ = some (.bool br) ∧ W.cell? ⟨b, off + k * 8 + 7, none⟩ = some (.bool st)) := by
        intro W hW
        have hup : ∀ (p : Addr) (v : Value), w.cell? p = some v → W.cell? p = some v := fun p v hv => (hW.cell (World.block_lt_of_cell? w _ hv)).trans hv
        exact ⟨hup _ _ t0, hup _ _ t1, hup _ _ t2, hup _ _ t3, hup _ _ t4, hup _ _ t5, hup _ _ t6, hup _ _ t7⟩
      have HFL : Hid ((flatU ps).length = N * 8) := by show _ = _; rw [flatU_len, HPS.out.2.2.2]
      clear hr hrr t0 t1 t2 t3 t4 t5 t6 t7 hv1 hv2 hv3 hv4 hlo hln hlk hro hrn hrk hst hbr hcut hmin
      obtain ⟨e0, e1, e2, e3, e4, e5, e6, e7⟩ := HCE.out wr HBL.out
      go_wp2_with fail
      refine (HDL.out wr HBL.out).mono ?_
      rintro e w2 ⟨rfl, hb2⟩
      have HB2 : Hid (Below wr.heap.size wr w2) := hb2
      have HW2 : Hid (Below w.heap.size w w2) := HBL.out.trans (hb2.mono HBL.out.size)
      clear hb2 e0 e1 e2 e3 e4 e5 e6 e7
      by_cases h1 : v1 ≤ 8
      · obtain ⟨e0, e1, e2, e3, e4, e5, e6, e7⟩ := HCE.out w2 HW2.out
        go_wp2_with fail
        refine (HDR.out w2 HW2.out).mono ?_
        rintro e w3 ⟨rfl, hb3⟩
        have HB3 : Hid (Below wr.heap.size wr w3) := HB2.out.trans (hb3.mono HB2.out.size)
        have HW3 : Hid (Below w.heap.size w w3) := HBL.out.trans (HB3.out.mono HBL.out.size)
        clear hb3 e0 e1 e2 e3 e4 e5 e6 e7
        by_cases h2 : v2 ≤ 8
        · obtain ⟨e0, e1, e2, e3, e4, e5, e6, e7⟩ := HCE.out w3 HW3.out
          go_wp2_with fail
          refine (HCL.out w3 HW3.out).mono ?_
          rintro e w4 ⟨rfl, hb4⟩
          have HB4 : Hid (Below wr.heap.size wr w4) := HB3.out.trans (hb4.mono HB3.out.size)
          have HW4 : Hid (Below w.heap.size w w4) := HBL.out.trans (HB4.out.mono HBL.out.size)
          clear hb4 e0 e1 e2 e3 e4 e5 e6 e7
          by_cases h3 : v3 ≤ 60
          · obtain ⟨e0, e1, e2, e3, e4, e5, e6, e7⟩ := HCE.out w4 HW4.out
            go_wp2_with fail
            refine (HCR.out w4 HW4.out).mono ?_
            rintro e w5 ⟨rfl, hb5⟩
            have HB5 : Hid (Below wr.heap.size wr w5) := HB4.out.trans (hb5.mono HB4.out.size)
            have HW5 : Hid (Below w.heap.size w w5) := HBL.out.trans (HB5.out.mono HBL.out.size)
            clear hb5 e0 e1 e2 e3 e4 e5 e6 e7
            by_cases h4 : v4 ≤ 60
            · have HT : Hid (keepR r = true) := by show _ = _; rw [HKP.out]; simp [h1, h2, h3, h4]
              have HO5 : Hid (w5.ownsRow w.heap.size 35 8 (.slice av N cv) N (flatU ps)) := own_later5 HPS.out.2.1 HB5.out
              have HSZ : Hid (w.heap.size ≤ w5.heap.size) := HW5.out.size
              obtain ⟨e0, e1, e2, e3, e4, e5, e6, e7⟩ := HCE.out w5 HW5.out
              go_wp2_with (at_builtin; refine wpList_append_lies _ rfl _ _ 22 rfl w.heap.size 35 j0 _ 8 120 Try.underlying22 HJ.out.1 HJ.out.2.1 HJ.out.2.2.1 HJ.out.2.2.2 rfl (by decide) (.slice av N cv) N (flatU ps) rfl (own_alloc HO5.out _) ⟨w5.heap.size, 0, none⟩ 1 1 [.int .i64 lo, .slice la ln lc, .slice lp lk lpc, .int .i64 ro, .slice ra rn rc, .slice rp rk rpc, .bool br, .bool st] rfl rfl (World.news_of_block (cs := #[.int .i64 lo, .slice la ln lc, .slice lp lk lpc, .int .i64 ro, .slice ra rn rc, .slice rp rk rpc, .bool br, .bool st]) (t := 35) (fr := (0, 0)) (heap_alloc_new w5 _)) (by simp [Value.oneCell']) (by omega) (by have := HN10.out; unfold maxLen; omega) (by have := HN10.out; omega) (by have := HSZ.out; simp; omega) _ rfl (fun g cp w6 q1 q2 q3 q4 => ?_); have HAT : Hid (FewAt (some ⟨b, off, none⟩) l (k + 1) w (.slice (some ⟨g, 0, none⟩) (N + 1) cp) w6) := HONE.out w5 w6 g cp HB5.out HT.out q1 q2; clear q1 q2 q3 q4)
              go_roundw
              case rel => exact ⟨k + 1, by omega, by omega, by go_num, HAT.out⟩
              case measure => simp [intOf]; omega
            · have HAT : Hid (FewAt (some ⟨b, off, none⟩) l (k + 1) w (.slice av N cv) w5) := HNOT.out w5 HB5.out (by rw [HKP.out]; simp [h1, h2, h3, h4])
              go_wp2
              go_roundw
              case rel => exact ⟨k + 1, by omega, by omega, by go_num, HAT.out⟩
              case measure => simp [intOf]; omega
          · have HAT : Hid (FewAt (some ⟨b, off, none⟩) l (k + 1) w (.slice av N cv) w4) := HNOT.out w4 HB4.out (by rw [HKP.out]; simp [h1, h2, h3])
            go_wp2
            go_roundw
            case rel => exact ⟨k + 1, by omega, by omega, by go_num, HAT.out⟩
            case measure => simp [intOf]; omega
        · have HAT : Hid (FewAt (some ⟨b, off, none⟩) l (k + 1) w (.slice av N cv) w3) := HNOT.out w3 HB3.out (by rw [HKP.out]; simp [h1, h2])
          go_wp2
          go_roundw
          case rel => exact ⟨k + 1, by omega, by omega, by go_num, HAT.out⟩
          case measure => simp [intOf]; omega
      · have HAT : Hid (FewAt (some ⟨b, off, none⟩) l (k + 1) w (.slice av N cv) w2) := HNOT.out w2 HB2.out (by rw [HKP.out]; simp [h1])
        go_wp2
        go_roundw
        case rel => exact ⟨k + 1, by omega, by omega, by go_num, HAT.out⟩
        case measure => simp [intOf]; omega
    · have HOU : Hid (ps.map (fun x => x.1) = fewR l ∧ wr.ownsRow w.heap.size 35 8 (.slice av N cv) ps.length (flatU ps) ∧ (∀ x ∈ ps, RlAt w 12 x.1 x.2 ∧ InRow w al x)) := by
        have h2 : l.take k = l.take 10 := by
          have := HL.out
          rcases Nat.lt_or_ge k 10 with h | h
          · rw [List.take_of_length_le (by omega), List.take_of_length_le (by omega)]
          · rw [show k = 10 by omega]
        have h1 := HPS.out.1
        rw [h2] at h1
        exact ⟨h1, by rw [← HPS.out.2.2.2]; exact HPS.out.2.1, HPS.out.2.2.1⟩
      have hown0 : (wr.alloc (.cells #[] 3)).ownsRow w.heap.size 3 1 (.slice (some ⟨wr.heap.size, 0, none⟩) 0 0) 0 [] := World.ownsRow_made wr #[] 0 HBL.out.size (by simp [maxLen]) rfl
      have HO : Hid ((wr.alloc (.cells #[] 3)).ownsRow w.heap.size 3 1 (.slice (some ⟨wr.heap.size, 0, none⟩) 0 0) 0 []) := hown0
      have HBA : Hid (Below wr.heap.size wr (wr.alloc (.cells #[] 3))) := (Below.refl _ wr).alloc (Nat.le_refl _) _
      have HRA : Hid (Rd .i64 (wr.alloc (.cells #[] 3)) a m (xs.take 16)) := (HR.out.later HBL.out).later HBA.out
      have HFIN : Hid (∀ v' w', w'.ownsRow w.heap.size 3 1 v' (0 + m) ([] ++ (xs.take 16).map (Value.int .i64)) → (wr.alloc (.cells #[] 3)).grownBy w' (some wr.heap.size) → FewPost2 al l xs w (.returned (.tuple #[.slice av N cv, v'])) w') := by
        intro v' w' h1 h2
        rw [Nat.zero_add, List.nil_append] at h1
        obtain ⟨a2, c2, rfl⟩ := own_sl1 h1
        have hb' : Below wr.heap.size wr w' := HBA.out.grown h2 (by simp) (fun y hy => by cases hy; exact Nat.le_refl _)
        rw [← HXM.out.1] at h1 ⊢
        exact ⟨_, a2, c2, ps, rfl, HOU.out.1, own_later5 HOU.out.2.1 hb', HOU.out.2.2, h1, HBL.out.trans (hb'.mono HBL.out.size)⟩
      have hm16 : m ≤ 16 := HXM.out.2.1
      have hsz : w.heap.size ≤ wr.heap.size := HBL.out.size
      have HNE : Hid (a = none → cap = 0) := HNO.out
      clear hown0 HR HPS HD HOU
      by_cases hk1 : k < n
      · have hk2 : ¬ (k : Int) < 10 := by omega
        have hk3 : (k : Int) < (n : Int) := by omega
        go_wp2_with (at_builtin; refine wpList_append_rd rfl _ _ 23 rfl w.heap.size 3 i0 _ 8 Try.underlying23 HI.out.1 HI.out.2.1 HI.out.2.2.1 HI.out.2.2.2 rfl _ 0 [] rfl HO.out a m cap .i64 (xs.take 16) rfl HRA.out HNE.out (by unfold maxLen; omega) (by omega) (by simp; omega) (fun v' w' h1 h2 => ?_); have HF : Hid (FewPost2 al l xs w (.returned (.tuple #[.slice av N cv, v'])) w') := HFIN.out v' w' h1 h2; clear h1 h2)
        go_ret2
        exact HF.out
      · have hk3 : ¬ (k : Int) < (n : Int) := by omega
        go_wp2_with (at_builtin; refine wpList_append_rd rfl _ _ 23 rfl w.heap.size 3 i0 _ 8 Try.underlying23 HI.out.1 HI.out.2.1 HI.out.2.2.1 HI.out.2.2.2 rfl _ 0 [] rfl HO.out a m cap .i64 (xs.take 16) rfl HRA.out HNE.out (by unfold maxLen; omega) (by omega) (by simp; omega) (fun v' w' h1 h2 => ?_); have HF : Hid (FewPost2 al l xs w (.returned (.tuple #[.slice av N cv, v'])) w') := HFIN.out v' w' h1 h2; clear h1 h2)
        go_ret2
        exact HF.out
theorem few_any (D : Nat) (l : List Rl) (xs : List Int) (al a : Option Addr) (n c len cap : Nat) (w : World) (hrow : RowR w D al n l) (hn : n ≤ 140737488355328) (hrd : Rd .i64 w a len xs) (hcap : len ≤ cap) (hcm : cap ≤ 9223372036854775807) (hnone : a = none → cap = 0) :
    Calls Try.prog 10 #[.slice al n c, .slice a len cap] w (FewPost l xs w) :=
  (few_any2 D l xs al a n c len cap w hrow hn hrd hcap hcm hnone).mono fun _ _ h => h.few
end Go.Proofs.Ytjbhfonokgkalaa
