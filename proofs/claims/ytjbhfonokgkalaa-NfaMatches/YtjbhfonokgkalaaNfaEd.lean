/- The walks of Stars and Whole of the reference. -/
import Derived.Test.YtjbhfonokgkalaaNfaEc
namespace Go.Proofs.Ytjbhfonokgkalaa
open Go.RowKit
set_option linter.unusedVariables false
set_option linter.unusedSimpArgs false

/-- What Stars tells of what is right: a number, no more than it is deep. -/
def StC (D : Nat) : Prop := ∀ (n : Nd) (d : Nat) (ca pa : Option Addr) (cc pc : Nat) (B : Nat) (w : World), InV B w D n [.int .i64 n.op, .slice ca n.cl.length cc, .slice pa (toL n.kids).length pc] → okN d n = true → d ≤ 100 →
  Calls Try.prog 28 #[.agg #[.int .i64 n.op, .slice ca n.cl.length cc, .slice pa (toL n.kids).length pc]] w fun e w' => ∃ t : Nat, t ≤ d ∧ e = .returned (.int .i64 (t : Int)) ∧ Below w.heap.size w w'
set_option maxHeartbeats 8000000 in
theorem stars_up (D : Nat) (HP : StC D) : StC (D + 1) := by
  intro n d ca pa cc pc B w hin hok hd
  have HPC : Hid (StC D) := HP
  have HIN : Hid (InV B w (D + 1) n [.int .i64 n.op, .slice ca n.cl.length cc, .slice pa (toL n.kids).length pc]) := hin
  have hb := hin.bounds
  obtain ⟨d', rfl⟩ : ∃ d', d = d' + 1 := by
    cases d with
    | zero => simp [okN] at hok
    | succ d => exact ⟨d, rfl⟩
  simp only [okN, Bool.and_eq_true, List.all_eq_true] at hok
  obtain ⟨⟨hrc, hrcl⟩, hkids⟩ := hok
  obtain ⟨op, hop⟩ : ∃ op, op = n.op := ⟨_, rfl⟩
  obtain ⟨cn, hcn⟩ : ∃ cn, cn = n.cl.length := ⟨_, rfl⟩
  obtain ⟨kl, hkl⟩ : ∃ kl, kl = toL n.kids := ⟨_, rfl⟩
  obtain ⟨K, hK⟩ : ∃ K, K = kl.length := ⟨_, rfl⟩
  have HK : Hid (∀ x, x ∈ kl → okN d' x = true) := fun x hx => hkids x (by rw [← hkl]; exact hx)
  have HC : Hid (kl = toL n.kids ∧ K = kl.length) := ⟨hkl, hK⟩
  have hKi : (K : Int) ≤ 2600000000000 := by rw [hkl] at hK; omega
  obtain ⟨wA, hwA⟩ : ∃ wA, wA = w.alloc (.cells #[.int .i64 op, .slice ca cn cc, .slice pa K pc] 33) := ⟨_, rfl⟩
  obtain ⟨H, hH⟩ : ∃ H, H = w.heap.size := ⟨_, rfl⟩
  have HB : Hid (Below w.heap.size w wA) := by rw [hwA]; exact (Below.refl _ w).alloc (Nat.le_refl _) _
  have HBX : Hid (wA.heap[H]? = some (.cells #[.int .i64 op, .slice ca cn cc, .slice pa K pc] 33)) := by rw [hwA, hH]; exact heap_alloc_new w _
  rw [← hop, ← hcn, ← hkl, ← hK]
  have hdi : (d' : Int) ≤ 99 := by omega
  clear HP hin hb hop hcn hK hkl hrc hrcl hkids
  go_enter Try.func28, Try.ntmps28
  go_upto_region 1 with fail
  rw [← hH, ← hwA]
  clear hH hwA
  go_wp2
  go_loopw [3, 4] (fun x3 x4 wr => ∃ k : Nat, k ≤ K ∧ x4 = .int .i64 k ∧ (∃ t : Nat, t ≤ d' ∧ x3 = .int .i64 (t : Int)) ∧ Below wA.heap.size wA wr) (fun _ x4 _ => K - (intOf x4).toNat)
  case atStart => exact ⟨0, by omega, rfl, ⟨0, by omega, rfl⟩, Below.refl _ _⟩
  case round =>
    obtain ⟨k, hk, hx4, ⟨m, hm, hx3⟩, hbl⟩ := hrel
    subst hx4
    subst hx3
    have HBL : Hid (Below wA.heap.size wA wr) := hbl
    have hblk := (hbl.block H (Array.getElem?_eq_some_iff.1 HBX.out).1).trans HBX.out
    have d2 : wr.cell? ⟨H, 2, none⟩ = some (.slice pa K pc) := cell_of_row wr H 2 _ _ _ hblk
    have d0 : wr.cell? ⟨H, 0, none⟩ = some (.int .i64 op) := cell_of_row wr H 0 _ _ _ hblk
    have HBW : Hid (Below w.heap.size w wr) := HB.out.trans (hbl.mono HB.out.size)
    have hmi : (m : Int) ≤ 99 := by omega
    clear hbl hblk
    by_cases hlt : k < K
    · have hkn : k < kl.length := by rw [← HC.out.2]; exact hlt
      have hkn' : k < (toL n.kids).length := by rw [← HC.out.1]; exact hkn
      obtain ⟨b, off, xa, xc, ya, yc, D', hpa, hkid, hD', c0, c1, c2⟩ := (HIN.out.later HBW.out (D + 1)).kid k hkn'
      obtain rfl : D' = D := by omega
      subst hpa
      obtain ⟨x, hx⟩ : ∃ x, x = (toL n.kids)[k] := ⟨_, rfl⟩
      have hxk : x = kl[k] := by rw [hx]; simp only [HC.out.1]
      rw [← hx] at hkid c0 c1 c2
      have HCC : Hid (Calls Try.prog 28 #[.agg #[.int .i64 x.op, .slice xa x.cl.length xc, .slice ya (toL x.kids).length yc]] wr fun e w' => ∃ t : Nat, t ≤ d' ∧ e = .returned (.int .i64 (t : Int)) ∧ Below wr.heap.size wr w') := HPC.out x d' xa ya xc yc B wr hkid (HK.out x (by rw [hxk]; exact List.getElem_mem hkn)) (by omega)
      obtain ⟨xo, hxo⟩ : ∃ xo, xo = x.op := ⟨_, rfl⟩
      obtain ⟨xn, hxn⟩ : ∃ xn, xn = x.cl.length := ⟨_, rfl⟩
      obtain ⟨xk, hxk2⟩ : ∃ xk, xk = (toL x.kids).length := ⟨_, rfl⟩
      rw [← hxo] at c0 HCC
      rw [← hxn] at c1 HCC
      rw [← hxk2] at c2 HCC
      clear hkid hxo hxn hxk2 hx hxk
      go_wp2_with fail
      refine HCC.out.mono ?_
      rintro e w2 ⟨v, hv, rfl, hb2⟩
      have HB2 : Hid (Below wA.heap.size wA w2) := HBL.out.trans (hb2.mono HBL.out.size)
      have hmax : ∀ W : World, (Builtin.max_ #[3, 3] 3 #[.int .i64 (m : Int), .int .i64 (v : Int)]).run Try.prog W = .ok (.int .i64 ((max m v : Nat) : Int)) W := by
        intro W
        rw [maxR]
        congr 2
        omega
      clear hb2 c0 c1 c2 d2 d0 HCC
      go_wp2
      go_roundw
      case rel => exact ⟨k + 1, by omega, by go_num, ⟨max m v, by omega, rfl⟩, HB2.out⟩
      case measure => simp [intOf]; omega
    · obtain rfl : k = K := by omega
      by_cases h4 : (op == 4) = true
      · go_wp2
        go_ret
        exact ⟨m + 1, by omega, ret_int (by push_cast; rfl), HBW.out⟩
      · rw [Bool.not_eq_true] at h4
        go_wp2
        go_ret
        exact ⟨m, by omega, rfl, HBW.out⟩
theorem stars_any : (D : Nat) → StC D
  | 0 => fun _ _ _ _ _ _ _ _ h => h.elim
  | D + 1 => stars_up D (stars_any D)
set_option maxRecDepth 100000 in
set_option maxHeartbeats 4000000 in
theorem whole_any (D : Nat) (n : Nd) (d : Nat) (ca pa : Option Addr) (cc pc : Nat) (w : World) (xs : List Int) (a : Option Addr) (len cap : Nat) (hin : InV w.heap.size w D n [.int .i64 n.op, .slice ca n.cl.length cc, .slice pa (toL n.kids).length pc]) (hok : okN d n = true) (hrd : Rd .i64 w a len xs) (hl : len ≤ 100) :
    Calls Try.prog 29 #[.agg #[.int .i64 n.op, .slice ca n.cl.length cc, .slice pa (toL n.kids).length pc], .slice a len cap] w (EnPost n.fits xs (fromB len) (len + 1) w) := by
  obtain ⟨m, hm⟩ : ∃ m, m = len + 1 := ⟨_, rfl⟩
  obtain ⟨cn, hcn⟩ : ∃ cn, cn = n.cl.length := ⟨_, rfl⟩
  obtain ⟨K, hK⟩ : ∃ K, K = (toL n.kids).length := ⟨_, rfl⟩
  obtain ⟨op, hop⟩ : ∃ op, op = n.op := ⟨_, rfl⟩
  obtain ⟨CB, hcb, hcs, hmk⟩ := make_b m (by omega)
  obtain ⟨w1, hw1⟩ : ∃ w1, w1 = w.alloc (.cells #[.int .i64 op, .slice ca cn cc, .slice pa K pc] 33) := ⟨_, rfl⟩
  obtain ⟨wA, hwA⟩ : ∃ wA, wA = w1.alloc (.cells CB 4) := ⟨_, rfl⟩
  obtain ⟨H, hH⟩ : ∃ H, H = w.heap.size := ⟨_, rfl⟩
  have hs1 : w1.heap.size = H + 1 := by rw [hw1, hH]; simp
  have HB1 : Hid (Below w.heap.size w w1) := by rw [hw1]; exact (Below.refl _ w).alloc (Nat.le_refl _) _
  have HB : Hid (Below w.heap.size w wA) := by rw [hwA]; exact HB1.out.alloc HB1.out.size _
  have HBX : Hid (wA.heap[H]? = some (.cells #[.int .i64 op, .slice ca cn cc, .slice pa K pc] 33)) := by
    rw [hwA]
    refine (((Below.refl _ w1).alloc (Nat.le_refl _) _).block H (by omega)).trans ?_
    rw [hw1, hH]; exact heap_alloc_new w _
  have hnew : wA.heap[H + 1]? = some (.cells CB 4) := by rw [hwA, ← hs1]; exact heap_alloc_new w1 _
  have hown : wA.ownsRow w.heap.size 4 1 (.slice (some ⟨H + 1, 0, none⟩) m m) m ((List.replicate m false).map Value.bool) := by
    rw [hwA, ← hs1]
    exact own_up (own_made w1 CB m _ hcb hcs (by omega)) HB1.out.size
  obtain ⟨wB, hwB⟩ : ∃ wB, wB = wA.setCell ⟨H + 1, 0, none⟩ (.bool true) := ⟨_, rfl⟩
  have hbB : Below (H + 1) wA wB := by rw [hwB]; exact (Below.refl _ wA).setCell (p := ⟨H + 1, 0, none⟩) (Nat.le_refl _) _
  have hB2 : Below w.heap.size w wB := by rw [hwB]; exact HB.out.setCell (p := ⟨H + 1, 0, none⟩) (by rw [hH]; exact Nat.le_succ _) _
  have hownB : wB.ownsRow w.heap.size 4 1 (.slice (some ⟨H + 1, 0, none⟩) m m) m ((fromB len).map Value.bool) := by
    have h1 := own_set1 hown 0 (.bool true)
    have e : ((List.replicate m false).map Value.bool).set 0 (.bool true) = (fromB len).map Value.bool := by
      rw [hm, List.replicate_succ]
      rfl
    rw [e] at h1
    rw [hwB]
    exact h1
  have HC : Hid (Calls Try.prog 53 #[.agg #[.int .i64 op, .slice ca cn cc, .slice pa K pc], .slice a len cap, .slice (some ⟨H + 1, 0, none⟩) m m] wB fun e w' => EnPost n.fits xs (fromB len) m w e w') := by
    obtain ⟨a', c', e', _, _, hr⟩ := rdB_own hownB
    cases e'
    rw [hop, hcn, hK]
    refine (ends_any D n d ca pa cc pc w.heap.size wB xs (fromB len) a (some ⟨H + 1, 0, none⟩) len m cap m (hin.later hB2 D) hok (hrd.later hB2) hl hm hr).mono ?_
    rintro e w' ⟨v, G, h1, h2, h3, h4⟩
    exact ⟨v, G, h1, own_up h2 hB2.size, h3, hB2.trans (h4.mono hB2.size)⟩
  have hblk : wB.heap[H]? = some (.cells #[.int .i64 op, .slice ca cn cc, .slice pa K pc] 33) := (hbB.block H (Nat.lt_succ_self H)).trans HBX.out
  have d0 : wB.cell? ⟨H, 0, none⟩ = some (.int .i64 op) := cell_of_row wB H 0 _ _ _ hblk
  have d1 : wB.cell? ⟨H, 1, none⟩ = some (.slice ca cn cc) := cell_of_row wB H 1 _ _ _ hblk
  have d2 : wB.cell? ⟨H, 2, none⟩ = some (.slice pa K pc) := cell_of_row wB H 2 _ _ _ hblk
  have hfz := Lib.frozen_of_heap hnew
  have t0 : wA.cell? ⟨H + 1, 0, none⟩ = some (.bool false) := by
    rw [cell_of_row wA (H + 1) 0 _ _ _ hnew]
    have h1 : CB.toList[0]? = some (.bool false) := by rw [hcb, hm, List.replicate_succ]; rfl
    simpa using h1
  have hmk2 : ∀ W : World, (Instr.makeSlice 27 (.int .i64 ((len : Int) + 1)) (.int .i64 ((len : Int) + 1))).run Try.prog W = .ok (.slice (some ⟨W.heap.size, 0, none⟩) m m) (W.alloc (.cells CB 4)) := by
    intro W
    have h1 := hmk W
    rw [show (m : Int) = (len : Int) + 1 by omega] at h1
    exact h1
  have hli : (len : Int) ≤ 100 := by omega
  have hm0 : (0 : Int) < (m : Int) := by omega
  rw [← hop, ← hcn, ← hK, ← hm]
  clear hin hrd hop hcn hK hcb hcs hmk hown hownB hbB hB2 hblk hnew hm hok
  go_enter Try.func29, Try.ntmps29
  go_upto_region 2 with fail
  rw [← hw1, ← hwA, ← hH]
  clear hw1 hwA hs1 hmk2 hH
  go_upto_region 3 with fail
  rw [← hwB]
  clear hwB
  go_wp2_with fail
  refine HC.out.mono ?_
  rintro e w' ⟨v, G, rfl, h2, h3, h4⟩
  have HF : Hid (EnPost n.fits xs (fromB len) m w (.returned v) w') := ⟨v, G, rfl, h2, h3, h4⟩
  clear h2 h3 h4 HC d0 d1 d2
  go_wp2
  go_ret
  exact HF.out
end Go.Proofs.Ytjbhfonokgkalaa
