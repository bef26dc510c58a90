/- The walk of ReadingFirst. -/
import Derived.Test.YtbdmoanfphkjdaaReaEn
namespace Go.Proofs.Ytbdmoanfphkjdaa
open Go.RowKit
set_option linter.unusedVariables false
set_option linter.unusedSimpArgs false

theorem fewR_one (r : Rl) : (fewR [r]).length = 0 ∨ (fewR [r] = [r] ∧ keepR r = true) := by
  unfold fewR
  simp only [List.take, List.filter_cons, List.filter_nil]
  cases keepR r <;> simp
theorem says_behind2 (q : Rl → Bool) (r0 : Rl) : (l : List Rl) → saysB q (l ++ [r0]) = if firstI q l = -1 then (if q r0 then r0.brk else true) else saysB q l
  | [] => by simp [saysB, firstI]
  | r :: l => by
    have ih := says_behind2 q r0 l
    simp only [List.cons_append, saysB, ih]
    cases hq : q r with
    | true => simp [firstI, hq]
    | false =>
      by_cases hf : firstI q l = -1
      · simp [firstI, hq, hf]
      · have hf2 : ¬ firstI q l + 1 = -1 := by
          rcases firstI_cases q l with ⟨h1, _⟩ | ⟨k, _, h1, _⟩
          · exact absurd h1 hf
          · omega
        simp [firstI, hq, hf, hf2]
theorem RowR.deeper {w : World} {d d' : Nat} {a : Option Addr} {n : Nat} {l : List Rl} (h : RowR w d a n l) (hd : d ≤ d') : RowR w d' a n l := by
  refine ⟨h.1, fun i hi => ?_⟩
  obtain ⟨b, off, q, h1, h2, h3⟩ := h.2 i hi
  exact ⟨b, off, q, h1, ⟨h2.1.mono hd, h2.2.mono hd⟩, h3⟩
theorem one_row {w : World} {D : Nat} {r : Rl} {q : RlP} (h : RlAt w D r q) : RowR (w.alloc (.cells (r.vals q) 35)) D (some ⟨w.heap.size, 0, none⟩) 1 [r] := by
  have hb : ∀ o : Obj, Below w.heap.size w (w.alloc o) := fun o => (Below.refl _ w).alloc (Nat.le_refl _) _
  refine ⟨rfl, fun i hi => ?_⟩
  match i, hi with
  | 0, _ =>
    refine ⟨w.heap.size, 0, q, rfl, RlAt.later h (hb _), fun j v hv => ?_⟩
    rw [Nat.zero_mul, Nat.zero_add, cell_of_row _ _ _ _ _ _ (heap_alloc_new w _)]
    exact hv
theorem own_one (w : World) (r : Rl) (q : RlP) : (w.alloc (.cells (r.vals q) 35)).ownsRow w.heap.size 35 8 (.slice (some ⟨w.heap.size, 0, none⟩) 1 1) 1 (r.vals q).toList :=
  ⟨by simp, .inr ⟨w.heap.size, 1, r.vals q, rfl, Nat.le_refl _, heap_alloc_new w _, Nat.le_refl _, by simp [maxLen], by simp, by simp⟩⟩
theorem own_ahead {w : World} {B : Nat} {ps : List (Rl × RlP)} {v : Value} {n : Nat} (hn : n = ps.length) (hr : ∀ x ∈ ps, RlAt w 12 x.1 x.2) (r : Rl) (q : RlP) (h0 : RlAt w 12 r q) (h : w.ownsRow B 35 8 v (1 + n) ((r.vals q).toList ++ flatU ps)) : OwnU w B v 12 (r :: ps.map (fun x => x.1)) := by
  refine ⟨(r, q) :: ps, by simp, ?_, fun x hx => ?_⟩
  · rw [show ((r, q) :: ps).length = 1 + n by simp [hn]; omega, show flatU ((r, q) :: ps) = (r.vals q).toList ++ flatU ps by simp [flatU]]
    exact h
  · rcases List.mem_cons.1 hx with hx | hx
    · rw [hx]; exact h0
    · exact hr x hx

theorem two_old (w : World) (o1 o2 : Obj) : ((w.alloc o1).alloc o2).heap[w.heap.size]? = some o1 :=
  (((Below.refl _ (w.alloc o1)).alloc (Nat.le_refl _) o2).block w.heap.size (by simp)).trans (heap_alloc_new w o1)

set_option maxRecDepth 100000 in
set_option maxHeartbeats 16000000 in
theorem readingFirst_walk (D : Nat) (l : List Rl) (r : Rl) (q : RlP) (xs : List Int) (al a : Option Addr) (n c len cap : Nat) (w : World) (hrow : RowR w D al n l) (hn : n ≤ 140737488355328) (hr : RlAt w D r q) (hrd : Rd .i64 w a len xs) (hcap : len ≤ cap) (hcm : cap ≤ 9223372036854775807) (hnone : a = none → cap = 0) :
    Calls Try.prog 4 #[.slice al n c, .agg (r.vals q), .slice a len cap] w fun e w' => e = .returned (.bool true) ∧ Below w.heap.size w w' := by
  obtain ⟨j0, ji, jz0, jz1, jz2⟩ := info_parts info_Ru
  have HJ : Hid (Try.prog.info? 35 = some j0 ∧ j0.zero = some (.agg #[.int .i64 0, .slice none 0 0, .slice none 0 0, .int .i64 0, .slice none 0 0, .slice none 0 0, .bool false, .bool false]) ∧ j0.size = 8 ∧ j0.bytes = 120) := ⟨ji, jz0, jz1, jz2⟩
  have HF : Hid (∀ W, Below w.heap.size w W → Calls Try.prog 9 #[.slice al n c, .slice a len cap] W (FewPost l xs W)) := fun W hW => few_any D l xs al a n c len cap W (hrow.later hW) hn (hrd.later hW) hcap hcm hnone
  have HF1 : Hid (∀ W : World, Below w.heap.size w W → Calls Try.prog 9 #[.slice (some ⟨W.heap.size, 0, none⟩) 1 1, .slice none 0 0] (W.alloc (.cells (r.vals q) 35)) (FewPost [r] [] (W.alloc (.cells (r.vals q) 35)))) := fun W hW =>
    few_any D [r] [] _ none 1 1 0 0 _ (one_row (hr.later hW)) (by omega) (rd_nil _ _) (by omega) (by omega) (fun _ => rfl)
  have HQ : Hid (∀ V : World, Below w.heap.size w V → keepR r = true → RlAt V 12 r q) := fun V hV hk => (hr.later hV).cut hk
  have HONE : Hid (∀ V : World, (V.alloc (.cells (r.vals q) 35)).ownsRow V.heap.size 35 8 (.slice (some ⟨V.heap.size, 0, none⟩) 1 1) 1 (r.vals q).toList) := fun V => own_one V r q
  obtain ⟨Q, hQ⟩ : ∃ Q, Q = r.vals q := ⟨_, rfl⟩
  have HV : Hid (Q = r.vals q) := hQ
  rw [← hQ] at HF1 HONE ⊢
  obtain ⟨la, lc, lp, lpc, ra, rc, rp, rpc⟩ := q
  obtain ⟨lo, hlo⟩ : ∃ lo, lo = r.left.op := ⟨_, rfl⟩
  obtain ⟨ln, hln⟩ : ∃ ln, ln = r.left.cl.length := ⟨_, rfl⟩
  obtain ⟨lk, hlk⟩ : ∃ lk, lk = (toL r.left.kids).length := ⟨_, rfl⟩
  obtain ⟨ro, hro⟩ : ∃ ro, ro = r.right.op := ⟨_, rfl⟩
  obtain ⟨rn, hrn⟩ : ∃ rn, rn = r.right.cl.length := ⟨_, rfl⟩
  obtain ⟨rk, hrk⟩ : ∃ rk, rk = (toL r.right.kids).length := ⟨_, rfl⟩
  obtain ⟨st, hst⟩ : ∃ st, st = r.start := ⟨_, rfl⟩
  obtain ⟨br, hbr⟩ : ∃ br, br = r.brk := ⟨_, rfl⟩
  have HBR : Hid (br = r.brk) := hbr
  simp only [Rl.vals, ← hlo, ← hln, ← hlk, ← hro, ← hrn, ← hrk, ← hst, ← hbr] at hQ
  subst hQ
  obtain ⟨wA, hwA⟩ : ∃ wA, wA = w.alloc (.cells #[.int .i64 lo, .slice la ln lc, .slice lp lk lpc, .int .i64 ro, .slice ra rn rc, .slice rp rk rpc, .bool br, .bool st] 35) := ⟨_, rfl⟩
  obtain ⟨bx, hbx⟩ : ∃ bx, bx = w.heap.size := ⟨_, rfl⟩
  have BA : Hid (Below w.heap.size w wA) := by rw [hwA]; exact (Below.refl _ w).alloc (Nat.le_refl _) _
  have hpx : wA.heap[bx]? = some (.cells #[.int .i64 lo, .slice la ln lc, .slice lp lk lpc, .int .i64 ro, .slice ra rn rc, .slice rp rk rpc, .bool br, .bool st] 35) := by rw [hwA, hbx]; exact heap_alloc_new w _
  have HC : Hid (∀ V : World, Below wA.heap.size wA V → V.cell? ⟨bx, 0, none⟩ = some (.int .i64 lo) ∧ V.cell? ⟨bx, 1, none⟩ = some (.slice la ln lc) ∧ V.cell? ⟨bx, 2, none⟩ = some (.slice lp lk lpc) ∧ V.cell? ⟨bx, 3, none⟩ = some (.int .i64 ro) ∧ V.cell? ⟨bx, 4, none⟩ = some (.slice ra rn rc) ∧ V.cell? ⟨bx, 5, none⟩ = some (.slice rp rk rpc) ∧ V.cell? ⟨bx, 6, none⟩ = some (.bool br) ∧ V.cell? ⟨bx, 7, none⟩ = some (.bool st)) := by
    intro V hV
    obtain ⟨s0, s1, s2, s3, s4, s5, s6, s7⟩ := box8 hpx
    exact ⟨upC hV s0, upC hV s1, upC hV s2, upC hV s3, upC hV s4, upC hV s5, upC hV s6, upC hV s7⟩
  clear ji jz0 jz1 jz2 hrow hn hrd hcap hcm hnone hr hlo hln hlk hro hrn hrk hst hbr hpx
  go_enter Try.func4, Try.ntmps4
  go_wp2_with fail
  rw [← hwA, ← hbx]
  refine (shown_any wA).mono ?_
  rintro e w1 ⟨rfl, hb1⟩
  have A1 : Hid (Below wA.heap.size wA w1) := hb1
  have B1 : Hid (Below w.heap.size w w1) := BA.out.trans (hb1.mono BA.out.size)
  clear hb1 hwA hbx
  obtain ⟨s0, s1, s2, s3, s4, s5, s6, s7⟩ := HC.out w1 A1.out
  go_wp2_with fail
  refine (HF1.out w1 B1.out).mono ?_
  rintro e w2 ⟨v1, a1, c1, rfl, ho1, _, hb2⟩
  have A2 : Hid (Below wA.heap.size wA w2) := A1.out.trans ((((Below.refl _ w1).alloc (Nat.le_refl _) _).trans (hb2.mono (by simp))).mono A1.out.size)
  have B2 : Hid (Below w.heap.size w w2) := BA.out.trans (A2.out.mono BA.out.size)
  obtain ⟨al1, cl1, rfl, _⟩ := ho1.row
  obtain ⟨N1, hN1⟩ : ∃ N1, N1 = (fewR [r]).length := ⟨_, rfl⟩
  rw [← hN1]
  have HN1 : Hid (N1 = (fewR [r]).length) := hN1
  clear hN1 ho1 hb2 s0 s1 s2 s3 s4 s5 s6 s7
  go_wp2_with fail
  refine (HF.out w2 B2.out).mono ?_
  rintro e w3 ⟨v2, a2, c2, rfl, hou, hox, hb3⟩
  have A3 : Hid (Below wA.heap.size wA w3) := A2.out.trans (hb3.mono A2.out.size)
  have B3 : Hid (Below w.heap.size w w3) := BA.out.trans (A3.out.mono BA.out.size)
  obtain ⟨L, hL⟩ : ∃ L, L = fewR l := ⟨_, rfl⟩
  obtain ⟨X, hX⟩ : ∃ X, X = xs.take 16 := ⟨_, rfl⟩
  obtain ⟨m, hm⟩ : ∃ m, m = X.length := ⟨_, rfl⟩
  have hL10 : L.length ≤ 10 := by rw [hL]; exact fewR_len l
  have hm16 : m ≤ 16 := by rw [hm, hX]; simp; omega
  rw [← hX, ← hm] at hox ⊢
  rw [← hL] at hou
  obtain ⟨a2', c2', he, hc2, hc2m, hrdx, hn2⟩ := rd_own2 hox
  cases he
  have HRX : Hid (Rd .i64 w3 a2 m X ∧ m ≤ c2 ∧ (a2 = none → c2 = 0)) := ⟨hrdx, hc2, hn2⟩
  have HOU : Hid (OwnU w3 w2.heap.size v2 12 L) := hou
  obtain ⟨al2, cl2, rfl, hrowl⟩ := hou.row
  have HRW : Hid (RowR w3 12 al2 L.length L) := hrowl
  obtain ⟨N, hN⟩ : ∃ N, N = L.length := ⟨_, rfl⟩
  rw [← hN] at HOU HRW ⊢
  have HN : Hid (N = L.length ∧ N ≤ 10 ∧ m = X.length) := ⟨hN, by omega, hm⟩
  rcases fewR_one r with h10 | ⟨h1e, hkeep⟩
  · have hN10 : N1 = 0 := by rw [HN1.out]; exact h10
    subst hN10
    clear hou hox hb3 hL hX hm hL10 hc2 hc2m hrdx hn2 hrowl hN
    go_wp2
    go_ret
    exact ⟨rfl, B3.out⟩
  have hN10 : N1 = 1 := by rw [HN1.out, h1e]; rfl
  subst hN10
  have HBX : Hid (∀ (V : World) (Ls : List Rl) (av : Option Addr) (cv k : Nat), Below w3.heap.size w3 V → RowR V 12 av k Ls → k ≤ 1000 → Calls Try.prog 10 #[.slice av k cv, .slice a2 m c2] V fun e w' => ∃ g c, e = .returned (.slice (some ⟨g, 0, none⟩) (m + 1) c) ∧ (∀ i, i ≤ m → w'.cell? ⟨g, i, none⟩ = some (.bool (boundAt Ls X i))) ∧ Below V.heap.size V w') := by
    intro V Ls av cv k hV hR hk
    refine (boundaries_any 12 Ls X av a2 k cv m c2 V hR (by omega) (by omega) (HRX.out.1.later hV) HRX.out.2.1 HRX.out.2.2 (by omega)).mono ?_
    rintro e w' ⟨v, rfl, ho, hb⟩
    obtain ⟨g, c, rfl, hc⟩ := rowB_at ho (by rw [boundL_len]; omega)
    rw [boundL_len, ← hm] at hc ⊢
    exact ⟨g, c, rfl, fun i hi => by rw [hc i (by omega), boundL_get _ _ _ (by omega)], hb⟩
  have HWH : Hid (∀ (V : World) (p : Nat), Below w3.heap.size w3 V → p ≤ m → Calls Try.prog 15 #[.slice al2 N cl2, .slice a2 m c2, .int .i64 (p : Int)] V fun e w' => e = .returned (.int .i64 (firstI (fun r => r.fit X p) L)) ∧ Below V.heap.size V w') := by
    intro V p hV hp
    have := which_any 12 L X al2 a2 N cl2 m c2 (p : Int) V (HRW.out.later hV) (by omega) (by omega) (HRX.out.1.later hV) HRX.out.2.1 HRX.out.2.2 (by omega)
    rw [firstI_congr (fun r => fitI r X (p : Int)) (fun r => r.fit X p) L (fun r _ => fit_fitI r X p (by omega))] at this
    exact this
  have HFT : Hid (∀ (V : World) (p : Nat), Below w3.heap.size w3 V → p ≤ m → Calls Try.prog 13 #[.agg #[.int .i64 lo, .slice la ln lc, .slice lp lk lpc, .int .i64 ro, .slice ra rn rc, .slice rp rk rpc, .bool br, .bool st], .slice a2 m c2, .int .i64 (p : Int)] V fun e w' => e = .returned (.bool (r.fit X p)) ∧ Below V.heap.size V w') := by
    intro V p hV hp
    have h1 := fits_any 12 r _ X a2 m c2 (p : Int) V (HQ.out V (B3.out.trans (hV.mono B3.out.size)) hkeep) (by omega) (HRX.out.1.later hV) HRX.out.2.1 HRX.out.2.2 (by omega)
    rw [fit_fitI r X p (by omega), ← HV.out] at h1
    exact h1
  have HQ2 : Hid (∀ V : World, Below w.heap.size w V → RlAt V 12 r ⟨la, lc, lp, lpc, ra, rc, rp, rpc⟩) := fun V hV => HQ.out V hV hkeep
  have hmi : (m : Int) ≤ 16 := by omega
  have hmw : IntKind.i64.wrap ((m : Int) + 1) = (m : Int) + 1 := by rw [IntKind.wrap_i64]; omega
  clear hou hox hb3 hL hX hm hL10 hc2 hc2m hrdx hn2 hrowl hN HQ h1e hkeep HF HF1
  go_wp2_with fail
  refine (HBX.out w3 L al2 cl2 N (Below.refl _ _) HRW.out (by have := HN.out.2.1; omega)).mono ?_
  rintro e w4 ⟨gw, cw, rfl, hcw, hb4⟩
  have HCW : Hid (∀ i, i ≤ m → w4.cell? ⟨gw, i, none⟩ = some (.bool (boundAt L X i))) := hcw
  have D4 : Hid (Below w3.heap.size w3 w4) := hb4
  have A4 : Hid (Below wA.heap.size wA w4) := A3.out.trans (hb4.mono A3.out.size)
  clear hcw hb4
  obtain ⟨ps, hps1, hps2, hps3⟩ := HOU.out.later D4.out
  have hpl : ps.length = N := by rw [HN.out.1, ← hps1]; simp
  rw [hpl] at hps2
  obtain ⟨ad, cd, hes, hsrc⟩ := src_own hps2 (flatU_cells ps)
  cases hes
  have HSRC : Hid (∀ V : World, Below w4.heap.size w4 V → SrcAt V al2 N cl2 8 (flatU ps)) := by
    intro V hV
    obtain ⟨s1, s2, s3, s4⟩ := hsrc
    exact ⟨s1, s2, fun b hb j u hu => upC hV (s3 b hb j u hu), s4⟩
  have HPS : Hid (ps.length = N ∧ ps.map (fun x => x.1) = L ∧ ∀ x ∈ ps, RlAt w4 12 x.1 x.2) := ⟨hpl, hps1, hps3⟩
  have hN10 : N ≤ 10 := HN.out.2.1
  clear hps1 hps2 hps3 hpl hsrc
  have HZS : Hid (∀ V : World, Below w4.heap.size w4 V → (V.cell? ⟨bx, 0, none⟩ = some (.int .i64 lo) ∧ V.cell? ⟨bx, 1, none⟩ = some (.slice la ln lc) ∧ V.cell? ⟨bx, 2, none⟩ = some (.slice lp lk lpc) ∧ V.cell? ⟨bx, 3, none⟩ = some (.int .i64 ro) ∧ V.cell? ⟨bx, 4, none⟩ = some (.slice ra rn rc) ∧ V.cell? ⟨bx, 5, none⟩ = some (.slice rp rk rpc) ∧ V.cell? ⟨bx, 6, none⟩ = some (.bool br) ∧ V.cell? ⟨bx, 7, none⟩ = some (.bool st))) := fun V hV => HC.out V (A4.out.trans (hV.mono A4.out.size))
  have HRA : Hid (∀ (V : World) (B : Nat) (av : Option Addr) (cv : Nat), V.ownsRow B 35 8 (.slice av (1 + N) cv) (1 + N) (#[.int .i64 lo, .slice la ln lc, .slice lp lk lpc, .int .i64 ro, .slice ra rn rc, .slice rp rk rpc, .bool br, .bool st].toList ++ flatU ps) → Below w4.heap.size w4 V → RowR V 12 av (1 + N) (r :: L)) := by
    intro V B av cv h1 hV
    rw [HV.out] at h1
    have h2 := own_ahead HPS.out.1.symm (fun x hx => (HPS.out.2.2 x hx).later hV) r _ (HQ2.out V (B3.out.trans ((D4.out.trans (hV.mono D4.out.size)).mono B3.out.size))) h1
    rw [HPS.out.2.1] at h2
    obtain ⟨a', c', he, hr⟩ := h2.row
    rw [show (r :: L).length = 1 + N by simp [HN.out.1]; omega] at he hr
    cases he
    exact hr
  have HRB : Hid (∀ (V : World) (gz cz : Nat), V.ownsRow w4.heap.size 35 8 (.slice (some ⟨gz, 0, none⟩) (N + 1) cz) (N + 1) (flatU ps ++ #[.int .i64 lo, .slice la ln lc, .slice lp lk lpc, .int .i64 ro, .slice ra rn rc, .slice rp rk rpc, .bool br, .bool st].toList) → Below w4.heap.size w4 V → RowR V 12 (some ⟨gz, 0, none⟩) (N + 1) (L ++ [r])) := by
    intro V gz cz h1 hV
    rw [HV.out] at h1
    have h2 := own_behind HPS.out.1.symm (fun x hx => (HPS.out.2.2 x hx).later hV) r _ (HQ2.out V (B3.out.trans ((D4.out.trans (hV.mono D4.out.size)).mono B3.out.size))) h1
    rw [HPS.out.2.1] at h2
    obtain ⟨a', c', he, hr⟩ := h2.row
    rw [show (L ++ [r]).length = N + 1 by simp [HN.out.1]] at he hr
    cases he
    exact hr
  go_upto_region 7 with fail
  go_cut [11] (fun s11 wx => ∃ gb cb, s11 = .slice (some ⟨gb, 0, none⟩) (m + 1) cb ∧ Below w4.heap.size w4 wx ∧ ∀ i, i ≤ m → wx.cell? ⟨gb, i, none⟩ = some (.bool (boundAt (L ++ [r]) X i)))
  case first =>
    refine wp_region_noPanic ?_
    refine wp_region_held_drew (S := (fun w' => w'.cell? ⟨bx, 0, none⟩ = some (.int .i64 lo) ∧ w'.cell? ⟨bx, 1, none⟩ = some (.slice la ln lc) ∧ w'.cell? ⟨bx, 2, none⟩ = some (.slice lp lk lpc) ∧ w'.cell? ⟨bx, 3, none⟩ = some (.int .i64 ro) ∧ w'.cell? ⟨bx, 4, none⟩ = some (.slice ra rn rc) ∧ w'.cell? ⟨bx, 5, none⟩ = some (.slice rp rk rpc) ∧ w'.cell? ⟨bx, 6, none⟩ = some (.bool br) ∧ w'.cell? ⟨bx, 7, none⟩ = some (.bool st))) (by kernel_rfl) ?_ (fun hHeld => ?_)
    · exact HZS.out _ (Below.refl _ _).drew
    refine wpAnyH_take (i := 1) (v := ?_) rfl (by kernel_rfl) (by kernel_rfl) (by kernel_rfl) (fun _ _ _ h => h) (Or.inl ⟨by rfl, ?_⟩) (by assumption) ?_
    rotate_left
    · intro w hSw; (try dsimp only at hSw); go_simp; try with_reducible rfl
    try simp only [Act.put, List.setIfInBounds_toArray, List.set_cons_zero, List.set_cons_succ]
    refine wpAnyH_take (i := 6) (v := ?_) rfl (by kernel_rfl) (by kernel_rfl) (by kernel_rfl) (fun _ _ _ h => h) (Or.inl ⟨by rfl, ?_⟩) (by assumption) ?_
    rotate_left
    · intro w hSw; (try dsimp only at hSw); go_simp; try with_reducible rfl
    try simp only [Act.put, List.setIfInBounds_toArray, List.set_cons_zero, List.set_cons_succ]
    refine wpAnyH_take (i := 3) (v := ?_) rfl (by kernel_rfl) (by kernel_rfl) (by kernel_rfl) (fun _ _ _ h => h) (Or.inl ⟨by rfl, ?_⟩) (by assumption) ?_
    rotate_left
    · intro w hSw; (try dsimp only at hSw); obtain ⟨k0, k1, k2, k3, k4, k5, k6, k7⟩ := hSw; go_simp; try with_reducible rfl
    try simp only [Act.put, List.setIfInBounds_toArray, List.set_cons_zero, List.set_cons_succ]
    refine wpAnyH_ready (rs := [0, 4]) (by kernel_rfl) (by simp) ?_
    refine AllReadyH.cons rfl (fun K hK => ?_) ?_
    · skip
      go_simp
      refine hK.out _ _ ?_ (fun hHeld => ?_)
      · exact HZS.out _ ((Below.refl _ w4).drew.alloc (by simp) _)
      clear hK K
      try simp only [Act.put, List.setIfInBounds_toArray, List.set_cons_zero, List.set_cons_succ]
      refine wpAnyH_ready (rs := [2, 4]) (by kernel_rfl) (by simp) ?_
      refine AllReadyH.cons rfl (fun K hK => ?_) ?_
      · skip
        refine step_append_src (by rfl) _ _ 22 (by rfl) w4.heap.size 35 j0 _ 8 120 Try.underlying22 HJ.out.1 HJ.out.2.1 HJ.out.2.2.1 HJ.out.2.2.2 rfl (by decide) (.slice (some ⟨w4.heap.size, 0, none⟩) 0 0) 0 [] (by rfl) (by first | exact World.ownsRow_made _ #[] 0 (by first | (simp; done) | exact Nat.le_refl _ | omega) (by simp [maxLen]) rfl | exact own_alloc (World.ownsRow_made _ #[] 0 (by first | (simp; done) | exact Nat.le_refl _ | omega) (by simp [maxLen]) rfl) _) al2 N cl2 (flatU ps) (by rfl) (HSRC.out _ ((Below.refl _ w4).drew.alloc (by simp) _)) (by unfold maxLen; omega) (by omega) (by first | (simp; done) | (simp; omega) | omega) (fun v' w5 h1 h2 => ?_)
        obtain ⟨av, cv, rfl⟩ := own_sl1 h1
        rw [Nat.zero_add, List.nil_append] at h1
        rw [Nat.zero_add]
        have HA5 : Hid (w5.ownsRow w4.heap.size 35 8 (.slice av N cv) N (flatU ps)) := h1
        have H5 : Hid (Below w4.heap.size w4 w5) := ((Below.refl _ w4).drew.alloc (by simp) _).grown h2 (by first | (simp; done) | (simp; omega) | omega) (fun k hk => by cases hk; first | (simp; done) | (simp; omega) | omega)
        refine hK.out _ _ ?_ (fun hHeld => ?_)
        · exact HZS.out _ H5.out
        clear hK K h1 h2
        try simp only [Act.put, List.setIfInBounds_toArray, List.set_cons_zero, List.set_cons_succ]
        refine wpAnyH_ready (rs := [4]) (by kernel_rfl) (by simp) ?_
        refine AllReadyH.cons rfl (fun K hK => ?_) ?_
        · skip
          go_simp
          refine hK.out _ _ ?_ (fun hHeld => ?_)
          · exact HZS.out _ (H5.out.alloc H5.out.size _)
          clear hK K
          try simp only [Act.put, List.setIfInBounds_toArray, List.set_cons_zero, List.set_cons_succ]
          refine wpAnyH_ready (rs := [5]) (by kernel_rfl) (by simp) ?_
          refine AllReadyH.cons rfl (fun K hK => ?_) ?_
          · skip
            refine step_append_lies _ (by rfl) _ _ 22 (by rfl) w4.heap.size 35 j0 _ 8 120 Try.underlying22 HJ.out.1 HJ.out.2.1 HJ.out.2.2.1 HJ.out.2.2.2 rfl (by decide) (.slice av N cv) N (flatU ps) (by rfl) (own_alloc HA5.out _) ⟨w5.heap.size, 0, none⟩ 1 1 #[.int .i64 lo, .slice la ln lc, .slice lp lk lpc, .int .i64 ro, .slice ra rn rc, .slice rp rk rpc, .bool br, .bool st].toList (by rfl) (by rfl) (World.news_of_block (cs := #[.int .i64 lo, .slice la ln lc, .slice lp lk lpc, .int .i64 ro, .slice ra rn rc, .slice rp rk rpc, .bool br, .bool st]) (t := 35) (fr := (0, 0)) (heap_alloc_new w5 _)) (by simp [Value.oneCell']) (by omega) (by unfold maxLen; omega) (by omega) (by have := H5.out.size; simp; try omega) _ rfl (fun gz cz w6 q1 q2 q3 q4 => ?_)
            have HA6 : Hid (w6.ownsRow w4.heap.size 35 8 (.slice (some ⟨gz, 0, none⟩) (N + 1) cz) (N + 1) (flatU ps ++ #[.int .i64 lo, .slice la ln lc, .slice lp lk lpc, .int .i64 ro, .slice ra rn rc, .slice rp rk rpc, .bool br, .bool st].toList)) := q1
            have H6 : Hid (Below w4.heap.size w4 w6) := (H5.out.alloc H5.out.size _).grown q2 (by have := H5.out.size; simp; try omega) (fun k hk => (HA5.out.lt k hk).1)
            refine hK.out _ _ ?_ (fun hHeld => ?_)
            · exact HZS.out _ H6.out
            clear hK K q1 q2 q3 q4
            try simp only [Act.put, List.setIfInBounds_toArray, List.set_cons_zero, List.set_cons_succ]
            refine wpAnyH_ready (rs := [7]) (by kernel_rfl) (by simp) ?_
            refine AllReadyH.cons rfl (fun K hK => ?_) ?_
            · skip
              have HRZ : Hid (RowR w6 12 (some ⟨gz, 0, none⟩) (N + 1) (L ++ [r])) := HRB.out w6 gz cz HA6.out H6.out
              clear hHeld
              go_simp
              refine (HBX.out w6 (L ++ [r]) (some ⟨gz, 0, none⟩) cz (N + 1) (D4.out.trans (H6.out.mono D4.out.size)) HRZ.out (by omega)).mono ?_
              rintro e w7 ⟨gb, cb, rfl, hcb, hb7⟩
              have H7 : Hid (Below w4.heap.size w4 w7) := H6.out.trans (hb7.mono H6.out.size)
              have HCB : Hid (∀ i, i ≤ m → w7.cell? ⟨gb, i, none⟩ = some (.bool (boundAt (L ++ [r]) X i))) := hcb
              clear hcb hb7
              try dsimp only
              refine hK.out _ _ ?_ (fun hHeld => ?_)
              · (refine HZS.out _ ?_; repeat (first | with_reducible exact Below.refl _ _ | with_reducible exact H7.out | with_reducible exact H6.out | with_reducible exact H5.out | with_reducible refine Below.drew ?_ | (refine Below.alloc ?_ (by first | simp | (have := H5.out.size; simp; omega)) _)))
              clear hK K
              try simp only [Act.put, List.setIfInBounds_toArray, List.set_cons_zero, List.set_cons_succ]
              refine wpAnyH_take (i := 8) (v := ?_) rfl (by kernel_rfl) (by kernel_rfl) (by kernel_rfl) (fun _ _ _ h => h) (Or.inl ⟨by rfl, ?_⟩) (by assumption) ?_
              rotate_left
              · intro w hSw; (try dsimp only at hSw); go_simp; try with_reducible rfl
              try simp only [Act.put, List.setIfInBounds_toArray, List.set_cons_zero, List.set_cons_succ]
              refine wpAnyH_done (by kernel_rfl) ?_ _
              refine NoPanic.normal ?_
              clear hHeld
              go_wp2_with fail
              go_meet
              exact ⟨gb, cb, rfl, H7.out, HCB.out⟩
            exact AllReadyH.nil
          exact AllReadyH.nil
        exact AllReadyH.nil
      refine AllReadyH.cons rfl (fun K hK => ?_) ?_
      · skip
        go_simp
        refine hK.out _ _ ?_ (fun hHeld => ?_)
        · exact HZS.out _ (((Below.refl _ w4).drew.alloc (by simp) _).alloc (by simp) _)
        clear hK K
        try simp only [Act.put, List.setIfInBounds_toArray, List.set_cons_zero, List.set_cons_succ]
        refine wpAnyH_ready (rs := [2]) (by kernel_rfl) (by simp) ?_
        refine AllReadyH.cons rfl (fun K hK => ?_) ?_
        · skip
          refine step_append_src (by rfl) _ _ 22 (by rfl) w4.heap.size 35 j0 _ 8 120 Try.underlying22 HJ.out.1 HJ.out.2.1 HJ.out.2.2.1 HJ.out.2.2.2 rfl (by decide) (.slice (some ⟨w4.heap.size, 0, none⟩) 0 0) 0 [] (by rfl) (by first | exact World.ownsRow_made _ #[] 0 (by first | (simp; done) | exact Nat.le_refl _ | omega) (by simp [maxLen]) rfl | exact own_alloc (World.ownsRow_made _ #[] 0 (by first | (simp; done) | exact Nat.le_refl _ | omega) (by simp [maxLen]) rfl) _) al2 N cl2 (flatU ps) (by rfl) (HSRC.out _ (((Below.refl _ w4).drew.alloc (by simp) _).alloc (by simp) _)) (by unfold maxLen; omega) (by omega) (by first | (simp; done) | (simp; omega) | omega) (fun v' w5 h1 h2 => ?_)
          obtain ⟨av, cv, rfl⟩ := own_sl1 h1
          rw [Nat.zero_add, List.nil_append] at h1
          rw [Nat.zero_add]
          have HA5 : Hid (w5.ownsRow w4.heap.size 35 8 (.slice av N cv) N (flatU ps)) := h1
          have H5 : Hid (Below w4.heap.size w4 w5) := (((Below.refl _ w4).drew.alloc (by simp) _).alloc (by simp) _).grown h2 (by first | (simp; done) | (simp; omega) | omega) (fun k hk => by cases hk; first | (simp; done) | (simp; omega) | omega)
          have HSB : Hid (w5.heap[w4.heap.size + 1]? = some (.cells #[.int .i64 lo, .slice la ln lc, .slice lp lk lpc, .int .i64 ro, .slice ra rn rc, .slice rp rk rpc, .bool br, .bool st] 35)) := (h2.block (w4.heap.size + 1) (by first | (simp; done) | (simp; omega)) (by simp [Value.ownBlock])).trans (new_at2 w4.drew _ _)
          refine hK.out _ _ ?_ (fun hHeld => ?_)
          · exact HZS.out _ H5.out
          clear hK K h1 h2
          try simp only [Act.put, List.setIfInBounds_toArray, List.set_cons_zero, List.set_cons_succ]
          refine wpAnyH_ready (rs := [5]) (by kernel_rfl) (by simp) ?_
          refine AllReadyH.cons rfl (fun K hK => ?_) ?_
          · skip
            refine step_append_lies _ (by rfl) _ _ 22 (by rfl) w4.heap.size 35 j0 _ 8 120 Try.underlying22 HJ.out.1 HJ.out.2.1 HJ.out.2.2.1 HJ.out.2.2.2 rfl (by decide) (.slice av N cv) N (flatU ps) (by rfl) (HA5.out) ⟨w4.heap.size + 1, 0, none⟩ 1 1 #[.int .i64 lo, .slice la ln lc, .slice lp lk lpc, .int .i64 ro, .slice ra rn rc, .slice rp rk rpc, .bool br, .bool st].toList (by rfl) (by rfl) (World.news_of_block (cs := #[.int .i64 lo, .slice la ln lc, .slice lp lk lpc, .int .i64 ro, .slice ra rn rc, .slice rp rk rpc, .bool br, .bool st]) (t := 35) (fr := (0, 0)) HSB.out) (by simp [Value.oneCell']) (by omega) (by unfold maxLen; omega) (by omega) (by have := H5.out.size; simp; try omega) _ rfl (fun gz cz w6 q1 q2 q3 q4 => ?_)
            have HA6 : Hid (w6.ownsRow w4.heap.size 35 8 (.slice (some ⟨gz, 0, none⟩) (N + 1) cz) (N + 1) (flatU ps ++ #[.int .i64 lo, .slice la ln lc, .slice lp lk lpc, .int .i64 ro, .slice ra rn rc, .slice rp rk rpc, .bool br, .bool st].toList)) := q1
            have H6 : Hid (Below w4.heap.size w4 w6) := (H5.out).grown q2 (by have := H5.out.size; simp; try omega) (fun k hk => (HA5.out.lt k hk).1)
            refine hK.out _ _ ?_ (fun hHeld => ?_)
            · exact HZS.out _ H6.out
            clear hK K q1 q2 q3 q4
            try simp only [Act.put, List.setIfInBounds_toArray, List.set_cons_zero, List.set_cons_succ]
            refine wpAnyH_ready (rs := [7]) (by kernel_rfl) (by simp) ?_
            refine AllReadyH.cons rfl (fun K hK => ?_) ?_
            · skip
              have HRZ : Hid (RowR w6 12 (some ⟨gz, 0, none⟩) (N + 1) (L ++ [r])) := HRB.out w6 gz cz HA6.out H6.out
              clear hHeld
              go_simp
              refine (HBX.out w6 (L ++ [r]) (some ⟨gz, 0, none⟩) cz (N + 1) (D4.out.trans (H6.out.mono D4.out.size)) HRZ.out (by omega)).mono ?_
              rintro e w7 ⟨gb, cb, rfl, hcb, hb7⟩
              have H7 : Hid (Below w4.heap.size w4 w7) := H6.out.trans (hb7.mono H6.out.size)
              have HCB : Hid (∀ i, i ≤ m → w7.cell? ⟨gb, i, none⟩ = some (.bool (boundAt (L ++ [r]) X i))) := hcb
              clear hcb hb7
              try dsimp only
              refine hK.out _ _ ?_ (fun hHeld => ?_)
              · (refine HZS.out _ ?_; repeat (first | with_reducible exact Below.refl _ _ | with_reducible exact H7.out | with_reducible exact H6.out | with_reducible exact H5.out | with_reducible refine Below.drew ?_ | (refine Below.alloc ?_ (by first | simp | (have := H5.out.size; simp; omega)) _)))
              clear hK K
              try simp only [Act.put, List.setIfInBounds_toArray, List.set_cons_zero, List.set_cons_succ]
              refine wpAnyH_take (i := 8) (v := ?_) rfl (by kernel_rfl) (by kernel_rfl) (by kernel_rfl) (fun _ _ _ h => h) (Or.inl ⟨by rfl, ?_⟩) (by assumption) ?_
              rotate_left
              · intro w hSw; (try dsimp only at hSw); go_simp; try with_reducible rfl
              try simp only [Act.put, List.setIfInBounds_toArray, List.set_cons_zero, List.set_cons_succ]
              refine wpAnyH_done (by kernel_rfl) ?_ _
              refine NoPanic.normal ?_
              clear hHeld
              go_wp2_with fail
              go_meet
              exact ⟨gb, cb, rfl, H7.out, HCB.out⟩
            exact AllReadyH.nil
          exact AllReadyH.nil
        exact AllReadyH.nil
      exact AllReadyH.nil
    refine AllReadyH.cons rfl (fun K hK => ?_) ?_
    · skip
      go_simp
      refine hK.out _ _ ?_ (fun hHeld => ?_)
      · exact HZS.out _ ((Below.refl _ w4).drew.alloc (by simp) _)
      clear hK K
      try simp only [Act.put, List.setIfInBounds_toArray, List.set_cons_zero, List.set_cons_succ]
      refine wpAnyH_ready (rs := [0]) (by kernel_rfl) (by simp) ?_
      refine AllReadyH.cons rfl (fun K hK => ?_) ?_
      · skip
        go_simp
        refine hK.out _ _ ?_ (fun hHeld => ?_)
        · exact HZS.out _ (((Below.refl _ w4).drew.alloc (by simp) _).alloc (by simp) _)
        clear hK K
        try simp only [Act.put, List.setIfInBounds_toArray, List.set_cons_zero, List.set_cons_succ]
        refine wpAnyH_ready (rs := [2]) (by kernel_rfl) (by simp) ?_
        refine AllReadyH.cons rfl (fun K hK => ?_) ?_
        · skip
          refine step_append_src (by rfl) _ _ 22 (by rfl) w4.heap.size 35 j0 _ 8 120 Try.underlying22 HJ.out.1 HJ.out.2.1 HJ.out.2.2.1 HJ.out.2.2.2 rfl (by decide) (.slice (some ⟨w4.heap.size + 1, 0, none⟩) 0 0) 0 [] (by rfl) (by have h3 := World.ownsRow_made (base := w4.heap.size) (e := 35) (size := 8) (w4.drew.alloc (.cells #[.int .i64 lo, .slice la ln lc, .slice lp lk lpc, .int .i64 ro, .slice ra rn rc, .slice rp rk rpc, .bool br, .bool st] 35)) #[] 0 (by simp) (by simp [maxLen]) rfl; rw [show (w4.drew.alloc (.cells #[.int .i64 lo, .slice la ln lc, .slice lp lk lpc, .int .i64 ro, .slice ra rn rc, .slice rp rk rpc, .bool br, .bool st] 35)).heap.size = w4.heap.size + 1 by simp] at h3; exact h3) al2 N cl2 (flatU ps) (by rfl) (HSRC.out _ (((Below.refl _ w4).drew.alloc (by simp) _).alloc (by simp) _)) (by unfold maxLen; omega) (by omega) (by first | (simp; done) | (simp; omega) | omega) (fun v' w5 h1 h2 => ?_)
          obtain ⟨av, cv, rfl⟩ := own_sl1 h1
          rw [Nat.zero_add, List.nil_append] at h1
          rw [Nat.zero_add]
          have HA5 : Hid (w5.ownsRow w4.heap.size 35 8 (.slice av N cv) N (flatU ps)) := h1
          have H5 : Hid (Below w4.heap.size w4 w5) := (((Below.refl _ w4).drew.alloc (by simp) _).alloc (by simp) _).grown h2 (by first | (simp; done) | (simp; omega) | omega) (fun k hk => by cases hk; first | (simp; done) | (simp; omega) | omega)
          have HSB : Hid (w5.heap[w4.heap.size]? = some (.cells #[.int .i64 lo, .slice la ln lc, .slice lp lk lpc, .int .i64 ro, .slice ra rn rc, .slice rp rk rpc, .bool br, .bool st] 35)) := (h2.block w4.heap.size (by first | (simp; done) | (simp; omega)) (by simp [Value.ownBlock])).trans (two_old w4.drew _ _)
          refine hK.out _ _ ?_ (fun hHeld => ?_)
          · exact HZS.out _ H5.out
          clear hK K h1 h2
          try simp only [Act.put, List.setIfInBounds_toArray, List.set_cons_zero, List.set_cons_succ]
          refine wpAnyH_ready (rs := [5]) (by kernel_rfl) (by simp) ?_
          refine AllReadyH.cons rfl (fun K hK => ?_) ?_
          · skip
            refine step_append_lies _ (by rfl) _ _ 22 (by rfl) w4.heap.size 35 j0 _ 8 120 Try.underlying22 HJ.out.1 HJ.out.2.1 HJ.out.2.2.1 HJ.out.2.2.2 rfl (by decide) (.slice av N cv) N (flatU ps) (by rfl) (HA5.out) ⟨w4.heap.size, 0, none⟩ 1 1 #[.int .i64 lo, .slice la ln lc, .slice lp lk lpc, .int .i64 ro, .slice ra rn rc, .slice rp rk rpc, .bool br, .bool st].toList (by rfl) (by rfl) (World.news_of_block (cs := #[.int .i64 lo, .slice la ln lc, .slice lp lk lpc, .int .i64 ro, .slice ra rn rc, .slice rp rk rpc, .bool br, .bool st]) (t := 35) (fr := (0, 0)) HSB.out) (by simp [Value.oneCell']) (by omega) (by unfold maxLen; omega) (by omega) (by have := H5.out.size; simp; try omega) _ rfl (fun gz cz w6 q1 q2 q3 q4 => ?_)
            have HA6 : Hid (w6.ownsRow w4.heap.size 35 8 (.slice (some ⟨gz, 0, none⟩) (N + 1) cz) (N + 1) (flatU ps ++ #[.int .i64 lo, .slice la ln lc, .slice lp lk lpc, .int .i64 ro, .slice ra rn rc, .slice rp rk rpc, .bool br, .bool st].toList)) := q1
            have H6 : Hid (Below w4.heap.size w4 w6) := (H5.out).grown q2 (by have := H5.out.size; simp; try omega) (fun k hk => (HA5.out.lt k hk).1)
            refine hK.out _ _ ?_ (fun hHeld => ?_)
            · exact HZS.out _ H6.out
            clear hK K q1 q2 q3 q4
            try simp only [Act.put, List.setIfInBounds_toArray, List.set_cons_zero, List.set_cons_succ]
            refine wpAnyH_ready (rs := [7]) (by kernel_rfl) (by simp) ?_
            refine AllReadyH.cons rfl (fun K hK => ?_) ?_
            · skip
              have HRZ : Hid (RowR w6 12 (some ⟨gz, 0, none⟩) (N + 1) (L ++ [r])) := HRB.out w6 gz cz HA6.out H6.out
              clear hHeld
              go_simp
              refine (HBX.out w6 (L ++ [r]) (some ⟨gz, 0, none⟩) cz (N + 1) (D4.out.trans (H6.out.mono D4.out.size)) HRZ.out (by omega)).mono ?_
              rintro e w7 ⟨gb, cb, rfl, hcb, hb7⟩
              have H7 : Hid (Below w4.heap.size w4 w7) := H6.out.trans (hb7.mono H6.out.size)
              have HCB : Hid (∀ i, i ≤ m → w7.cell? ⟨gb, i, none⟩ = some (.bool (boundAt (L ++ [r]) X i))) := hcb
              clear hcb hb7
              try dsimp only
              refine hK.out _ _ ?_ (fun hHeld => ?_)
              · (refine HZS.out _ ?_; repeat (first | with_reducible exact Below.refl _ _ | with_reducible exact H7.out | with_reducible exact H6.out | with_reducible exact H5.out | with_reducible refine Below.drew ?_ | (refine Below.alloc ?_ (by first | simp | (have := H5.out.size; simp; omega)) _)))
              clear hK K
              try simp only [Act.put, List.setIfInBounds_toArray, List.set_cons_zero, List.set_cons_succ]
              refine wpAnyH_take (i := 8) (v := ?_) rfl (by kernel_rfl) (by kernel_rfl) (by kernel_rfl) (fun _ _ _ h => h) (Or.inl ⟨by rfl, ?_⟩) (by assumption) ?_
              rotate_left
              · intro w hSw; (try dsimp only at hSw); go_simp; try with_reducible rfl
              try simp only [Act.put, List.setIfInBounds_toArray, List.set_cons_zero, List.set_cons_succ]
              refine wpAnyH_done (by kernel_rfl) ?_ _
              refine NoPanic.normal ?_
              clear hHeld
              go_wp2_with fail
              go_meet
              exact ⟨gb, cb, rfl, H7.out, HCB.out⟩
            exact AllReadyH.nil
          exact AllReadyH.nil
        exact AllReadyH.nil
      exact AllReadyH.nil
    exact AllReadyH.nil
  case rest =>
    obtain ⟨gb, cb, hs11, hb7, hcb⟩ := hcut
    subst hs11
    obtain ⟨w7, hw7⟩ : ∃ W, W = wc := ⟨_, rfl⟩
    rw [← hw7] at hb7 hcb ⊢
    clear hw7
    have H7 : Hid (Below w4.heap.size w4 w7) := hb7
    have HCB : Hid (∀ i, i ≤ m → w7.cell? ⟨gb, i, none⟩ = some (.bool (boundAt (L ++ [r]) X i))) := hcb
    clear hb7 hcb
    obtain ⟨s0, s1, s2, s3, s4, s5, s6, s7⟩ := HC.out w7 (A4.out.trans (H7.out.mono A4.out.size))
    go_wp2_with (at_builtin; refine wpList_append_src rfl _ _ 22 rfl w7.heap.size 35 j0 _ 8 120 Try.underlying22 HJ.out.1 HJ.out.2.1 HJ.out.2.2.1 HJ.out.2.2.2 rfl (by decide) (.slice (some ⟨w7.heap.size, 0, none⟩) 1 1) 1 #[.int .i64 lo, .slice la ln lc, .slice lp lk lpc, .int .i64 ro, .slice ra rn rc, .slice rp rk rpc, .bool br, .bool st].toList rfl (HONE.out w7) al2 N cl2 (flatU ps) rfl (HSRC.out _ (H7.out.alloc H7.out.size _)) (by unfold maxLen; omega) (by omega) (by simp) (fun v' w8 h1 h2 => ?_); obtain ⟨av8, cv8, rfl⟩ := own_sl1 h1; have HA8 : Hid (w8.ownsRow w7.heap.size 35 8 (.slice av8 (1 + N) cv8) (1 + N) (#[.int .i64 lo, .slice la ln lc, .slice lp lk lpc, .int .i64 ro, .slice ra rn rc, .slice rp rk rpc, .bool br, .bool st].toList ++ flatU ps)) := h1; have H8 : Hid (Below w7.heap.size w7 w8) := (((Below.refl _ w7).alloc (Nat.le_refl _) _).grown h2 (by simp) (fun k hk => by cases hk; exact Nat.le_refl _)); clear h1 h2)
    have H48 : Hid (Below w4.heap.size w4 w8) := H7.out.trans (H8.out.mono H7.out.size)
    refine (HBX.out w8 (r :: L) av8 cv8 (1 + N) (D4.out.trans (H48.out.mono D4.out.size)) (HRA.out w8 w7.heap.size av8 cv8 HA8.out H48.out) (by omega)).mono ?_
    rintro e w9 ⟨ga, cga, rfl, hca, hb9⟩
    have H79 : Hid (Below w7.heap.size w7 w9) := H8.out.trans (hb9.mono H8.out.size)
    have H49 : Hid (Below w4.heap.size w4 w9) := H7.out.trans (H79.out.mono H7.out.size)
    have HCC : Hid (∀ (V : World) (k : Nat), Below w9.heap.size w9 V → k ≤ m → V.cell? ⟨gw, k, none⟩ = some (.bool (boundAt L X k)) ∧ V.cell? ⟨gb, k, none⟩ = some (.bool (boundAt (L ++ [r]) X k)) ∧ V.cell? ⟨ga, k, none⟩ = some (.bool (boundAt (r :: L) X k))) := fun V k hV hk => ⟨upC hV (upC H49.out (HCW.out k hk)), upC hV (upC H79.out (HCB.out k hk)), upC hV (hca k hk)⟩
    have D9 : Hid (Below w3.heap.size w3 w9) := D4.out.trans (H49.out.mono D4.out.size)
    clear hca hb9 s0 s1 s2 s3 s4 s5 s6 s7 HA8 HSRC HPS HCB HCW HRA HRB HZS HONE HBX HOU
    go_wp2
    go_loopw [13] (fun x13 wr => ∃ k : Nat, 1 ≤ k ∧ (k ≤ m ∨ k = 1) ∧ x13 = .int .i64 k ∧ Below w9.heap.size w9 wr) (fun x13 _ => m - (intOf x13).toNat)
    case atStart => exact ⟨1, by omega, by omega, rfl, Below.refl _ _⟩
    case round =>
      obtain ⟨k, hk1, hk2, hx13, hbl⟩ := hrel
      subst hx13
      have HBL : Hid (Below w9.heap.size w9 wr) := hbl
      have HB3 : Hid (Below w3.heap.size w3 wr) := D9.out.trans (hbl.mono D9.out.size)
      by_cases hlt : k < m
      · obtain ⟨s0, s1, s2, s3, s4, s5, s6, s7⟩ := HC.out wr (A3.out.trans (HB3.out.mono A3.out.size))
        have HF : Hid (Calls Try.prog 13 #[.agg #[.int .i64 lo, .slice la ln lc, .slice lp lk lpc, .int .i64 ro, .slice ra rn rc, .slice rp rk rpc, .bool br, .bool st], .slice a2 m c2, .int .i64 (k : Int)] wr fun e w' => e = .returned (.bool (r.fit X k)) ∧ Below wr.heap.size wr w') := HFT.out wr k HB3.out (by omega)
        have hki : (k : Int) < (m : Int) := by omega
        clear hbl
        go_wp2_with fail
        refine HF.out.mono ?_
        rintro e w10 ⟨rfl, hb10⟩
        have HB10 : Hid (Below w9.heap.size w9 w10) := HBL.out.trans (hb10.mono HBL.out.size)
        have HC10 : Hid (Below w3.heap.size w3 w10) := HB3.out.trans (hb10.mono HB3.out.size)
        clear hb10 s0 s1 s2 s3 s4 s5 s6 s7 HF
        go_wp2_with fail
        refine (HWH.out w10 k HC10.out (by omega)).mono ?_
        rintro e w11 ⟨rfl, hb11⟩
        have HB11 : Hid (Below w9.heap.size w9 w11) := HB10.out.trans (hb11.mono HB10.out.size)
        obtain ⟨tw, tb, ta⟩ := HCC.out w11 k HB11.out (by omega)
        obtain ⟨_, _, _, _, _, _, s6, _⟩ := HC.out w11 (A3.out.trans ((HC10.out.trans (hb11.mono HC10.out.size)).mono A3.out.size))
        clear hb11
        have hnb : ∀ l' : List Rl, boundAt l' X k = saysB (fun r => r.fit X k) l' := fun l' => by unfold boundAt; rw [if_neg (by rw [← HN.out.2.2]; omega)]
        rw [hnb] at tw tb ta
        rw [says_behind2] at tb
        rw [saysB] at ta
        rw [← HBR.out] at tb ta
        clear hnb
        have HS := says_first (fun r => r.fit X k) L
        obtain ⟨F, hF⟩ : ∃ F, F = r.fit X k := ⟨_, rfl⟩
        rw [← hF] at tb ta ⊢
        clear hF
        have hk0 : (0 : Int) ≤ (k : Int) := by omega
        rcases firstI_cases (fun r => r.fit X k) L with ⟨h1, h2⟩ | ⟨j, hj, h1, _⟩
        · rw [h1] at tb ⊢
          rw [HS.1 h1] at tw ta
          rw [if_pos rfl] at tb
          clear h1 h2 HS
          cases F <;> cases br <;> simp only [if_true, if_false, Bool.false_eq_true] at tb ta
          all_goals
            go_wp2_with fail
            go_quiet (fail)
            go_wp2_with fail
            go_quiet (fail)
            go_wp2_with fail
            go_quiet (fail)
            go_wp2
            go_roundw
            case rel => exact ⟨k + 1, by omega, by omega, by go_num, below_drewN HB11.out _⟩
            case measure => first | (simp [intOf]; done) | (simp [intOf]; omega)
        · have hjn : ¬ firstI (fun r => r.fit X k) L = -1 := by omega
          rw [if_neg hjn] at tb
          rw [h1]
          obtain ⟨S, hS⟩ : ∃ S, S = saysB (fun r => r.fit X k) L := ⟨_, rfl⟩
          rw [← hS] at tw tb ta
          obtain ⟨J, hJ⟩ : ∃ J : Int, J = (j : Int) := ⟨_, rfl⟩
          rw [← hJ]
          have hj0 : (0 : Int) ≤ J := by omega
          have hj1 : decide (J < 0) = false := by simp; omega
          have hj2 : decide ((0 : Int) ≤ J) = true := by simp; omega
          clear h1 HS hjn hS hJ
          cases F <;> cases br <;> cases S <;> simp only [if_true, if_false, Bool.false_eq_true] at tb ta
          all_goals
            go_wp2_with fail
            go_quiet (fail)
            go_wp2_with fail
            go_quiet (fail)
            go_wp2_with fail
            go_quiet (fail)
            go_wp2
            go_roundw
            case rel => exact ⟨k + 1, by omega, by omega, by go_num, below_drewN HB11.out _⟩
            case measure => first | (simp [intOf]; done) | (simp [intOf]; omega)
      · clear hbl
        have hki : ¬ (k : Int) < (m : Int) := by omega
        go_wp2
        go_ret
        exact ⟨rfl, B3.out.trans (HB3.out.mono B3.out.size)⟩
end Go.Proofs.Ytbdmoanfphkjdaa
