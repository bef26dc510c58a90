/- The walk of ReadingTurned. -/
import Derived.Test.YtjbhfonokgkalaaReaTp
namespace Go.Proofs.Ytjbhfonokgkalaa
open Go.RowKit
set_option linter.unusedVariables false
set_option linter.unusedSimpArgs false

theorem own_apartT {w : World} {B B' : Nat} {e e' : TypeId} {s s' n n' g cap : Nat} {v : Value} {vs vs' : List Value} (h : w.ownsRow B e s (.slice (some ⟨g, 0, none⟩) n cap) n vs) (h' : w.ownsRow B' e' s' v n' vs') (hne : e ≠ e') (y : Nat) (hy : v.ownBlock = some y) : y ≠ g := by
  intro hyg
  subst hyg
  rcases h.2 with ⟨hv, _⟩ | ⟨g1, c1, cur1, hv, _, hg1, _⟩
  · cases hv
  · rcases h'.2 with ⟨hv', _⟩ | ⟨g2, c2, cur2, hv', _, hg2, _⟩
    · rw [hv'] at hy; cases hy
    · rw [hv'] at hy
      cases hy
      cases hv
      rw [hg1] at hg2
      cases hg2
      exact hne rfl
/-- turn of a side of a rule. -/
theorem turnS_any (n : Nd) (ca pa : Option Addr) (cc pc B : Nat) (w0 V : World) (h : InV w0.heap.size w0 12 n [.int .i64 n.op, .slice ca n.cl.length cc, .slice pa (toL n.kids).length pc]) (hb : Below w0.heap.size w0 V) :
    Calls Try.prog 19 #[.agg #[.int .i64 n.op, .slice ca n.cl.length cc, .slice pa (toL n.kids).length pc]] V fun e w' => ∃ xa xc xp xd, e = .returned (.agg #[.int .i64 n.op, .slice xa n.cl.length xc, .slice xp (toL n.kids).length xd]) ∧ InQ (fun b => b < w0.heap.size ∨ V.heap.size ≤ b) w' 12 n.turn [.int .i64 n.op, .slice xa n.cl.length xc, .slice xp (toL n.kids).length xd] ∧ Below V.heap.size V w' := by
  refine (turn_any 12 n ca pa cc pc w0.heap.size V ((h.inQ 12).later hb 12) hb.size).mono ?_
  rintro e w' ⟨⟨zo, za, zn, zc, zp, zk, zd⟩, rfl, h1, h2⟩
  obtain ⟨xa, xc, xp, xd, hv⟩ := (h1.inV 12).three
  have hv2 : zo = n.op ∧ (za = xa ∧ zn = n.cl.length ∧ zc = xc) ∧ (zp = xp ∧ zk = (toL n.turn.kids).length ∧ zd = xd) := by
    have hv3 : [Value.int .i64 zo, .slice za zn zc, .slice zp zk zd] = [.int .i64 n.op, .slice xa n.cl.length xc, .slice xp (toL n.turn.kids).length xd] := hv
    simpa using hv3
  obtain ⟨rfl, ⟨rfl, rfl, rfl⟩, rfl, hk, rfl⟩ := hv2
  rw [turn_len] at hk
  subst hk
  exact ⟨za, zc, zp, zd, rfl, h1, h2⟩
set_option maxRecDepth 100000 in
set_option maxHeartbeats 32000000 in
theorem readingTurned_walk (D : Nat) (l : List Rl) (xs : List Int) (al a : Option Addr) (n c len cap : Nat) (w : World) (hrow : RowR w D al n l) (hn : n ≤ 140737488355328) (hrd : Rd .i64 w a len xs) (hcap : len ≤ cap) (hcm : cap ≤ 9223372036854775807) (hnone : a = none → cap = 0) :
    Calls Try.prog 5 #[.slice al n c, .slice a len cap] w fun e w' => e = .returned (.bool true) ∧ Below w.heap.size w w' := by
  obtain ⟨i0, hi, hz0, hz1, hz2⟩ := info_parts info_i
  have HI : Hid (Try.prog.info? 3 = some i0 ∧ i0.zero = some (.int .i64 0) ∧ i0.size = 1 ∧ i0.bytes = 8) := ⟨hi, hz0, hz1, hz2⟩
  obtain ⟨j0, ji, jz0, jz1, jz2⟩ := info_parts info_Ru
  have HJ : Hid (Try.prog.info? 35 = some j0 ∧ j0.zero = some (.agg #[.int .i64 0, .slice none 0 0, .slice none 0 0, .int .i64 0, .slice none 0 0, .slice none 0 0, .bool false, .bool false]) ∧ j0.size = 8 ∧ j0.bytes = 120) := ⟨ji, jz0, jz1, jz2⟩
  have HF : Hid (∀ W, Below w.heap.size w W → Calls Try.prog 10 #[.slice al n c, .slice a len cap] W (FewPost2 al l xs W)) := fun W hW => few_any2 D l xs al a n c len cap W (hrow.later hW) hn (hrd.later hW) hcap hcm hnone
  clear hi hz0 hz1 hz2 ji jz0 jz1 jz2 hrow hn hrd hcap hcm hnone
  go_enter Try.func5, Try.ntmps5
  go_wp2_with fail
  refine (shown_any w).mono ?_
  rintro e w1 ⟨rfl, hb1⟩
  have B1 : Hid (Below w.heap.size w w1) := hb1
  clear hb1
  go_wp2_with fail
  refine (HF.out w1 B1.out).mono ?_
  rintro e w2 ⟨v1, a2, c2, ps, rfl, hps, hou, hrl, hox, hb2⟩
  obtain ⟨X, hX⟩ : ∃ X, X = xs.take 16 := ⟨_, rfl⟩
  obtain ⟨m, hm⟩ : ∃ m, m = X.length := ⟨_, rfl⟩
  have hm16 : m ≤ 16 := by rw [hm, hX]; simp; omega
  rw [← hX, ← hm] at hox ⊢
  obtain ⟨L, hL⟩ : ∃ L, L = fewR l := ⟨_, rfl⟩
  rw [← hL] at hps
  obtain ⟨N, hN⟩ : ∃ N, N = ps.length := ⟨_, rfl⟩
  have hN10 : N ≤ 10 := by have h1 := fewR_len l; rw [← hL, ← hps] at h1; simp at h1; omega
  rw [← hN] at hou
  obtain ⟨av, cv, rfl⟩ := own_sl1 hou
  obtain ⟨A, hA⟩ : ∃ A, A = w2.heap.size := ⟨_, rfl⟩
  have HPS : Hid ((∀ x ∈ ps, RlAt w1 12 x.1 x.2) ∧ N = ps.length ∧ ps.map (fun x => x.1) = L ∧ L.length = N) := ⟨fun x hx => (hrl x hx).1, hN, hps, by rw [← hps, hN]; simp⟩
  have HAA : Hid (A = w2.heap.size ∧ w1.heap.size ≤ A) := ⟨hA, by rw [hA]; exact hb2.size⟩
  have HGA : Hid (∀ g, av = some ⟨g, 0, none⟩ → 0 < N → w1.heap.size ≤ g ∧ g < A) := by
    intro g hg hN0
    subst hg
    have := hou.lt g rfl
    rw [hA]
    exact this
  have HST0 : Hid (w2.ownsRow w1.heap.size 35 8 (.slice av N cv) N (flatU (upd stl ps 0)) ∧ TrAt w1.heap.size A L 0 (.slice none 0 0) w2 ∧ Below w1.heap.size w1 w2 ∧ w2.ownsRow w1.heap.size 3 1 (.slice a2 m c2) m (X.map (Value.int .i64))) :=
    ⟨by rw [upd_zero]; exact hou, ⟨[], by simp, rfl, World.ownsRow_nil _ _ _ _, by omega, fun x hx => by simp at hx⟩, hb2, hox⟩
  have HMX : Hid (m = X.length) := hm
  have hNi : (N : Int) ≤ 10 := by omega
  have hmi : (m : Int) ≤ 16 := by omega
  clear hou hrl hox hb2 hps hX hm hN hA hL HF
  go_wp2
  go_loopw [6, 8] (fun x6 x8 wr => ∃ k : Nat, k ≤ N ∧ x8 = .int .i64 k ∧ wr.ownsRow w1.heap.size 35 8 (.slice av N cv) N (flatU (upd stl ps k)) ∧ TrAt w1.heap.size A L k x6 wr ∧ Below w1.heap.size w1 wr ∧ wr.ownsRow w1.heap.size 3 1 (.slice a2 m c2) m (X.map (Value.int .i64))) (fun _ x8 _ => N - (intOf x8).toNat)
  case atStart => exact ⟨0, by omega, rfl, HST0.out.1, HST0.out.2.1, HST0.out.2.2.1, HST0.out.2.2.2⟩
  case round =>
    obtain ⟨k, hk, hx8, ho, htr, hbl, hox⟩ := hrel
    subst hx8
    obtain ⟨a6, c6, hv6⟩ := htr.form
    subst hv6
    have HO : Hid (wr.ownsRow w1.heap.size 35 8 (.slice av N cv) N (flatU (upd stl ps k))) := ho
    have HTR : Hid (TrAt w1.heap.size A L k (.slice a6 k c6) wr) := htr
    have HBL : Hid (Below w1.heap.size w1 wr) := hbl
    have HOX : Hid (wr.ownsRow w1.heap.size 3 1 (.slice a2 m c2) m (X.map (Value.int .i64))) := hox
    clear ho htr hbl hox HST0
    by_cases hlt : k < N
    · obtain ⟨g, hga, hBg, hfz, hcell⟩ := own_cells8T HO.out (by omega)
      subst hga
      have hgA := (HGA.out g rfl (by omega)).2
      have hkp : k < ps.length := by rw [← HPS.out.2.1]; exact hlt
      have hkL : k < L.length := by rw [HPS.out.2.2.2]; exact hlt
      have hfl := flatU_len (upd stl ps k)
      rw [upd_len, ← HPS.out.2.1] at hfl
      obtain ⟨u7, t7⟩ : ∃ v, wr.cell? ⟨g, k * 8 + 7, none⟩ = some v := ⟨_, (hcell (k * 8 + 7) (by omega)).trans (List.getElem?_eq_getElem (by omega))⟩
      have f7 := hfz (k * 8 + 7)
      obtain ⟨wS, hwS⟩ : ∃ wS, wS = wr.setCell ⟨g, k * 8 + 7, none⟩ (.bool false) := ⟨_, rfl⟩
      have HLS : Hid (wS.ownsRow w1.heap.size 35 8 (.slice (some ⟨g, 0, none⟩) N cv) N (flatU (upd stl ps (k + 1)))) := by
        rw [hwS]
        have h1 := own_set8T HO.out (k * 8 + 7) (.bool false)
        have hkn : k < (upd stl ps k).length := by rw [upd_len]; exact hkp
        have e1 : (upd stl ps k)[k] = ps[k] := by
          have := upd_at stl ps k hkp
          rw [List.getElem?_eq_getElem hkn] at this
          exact Option.some.inj this
        rw [← flatU_stl (upd stl ps k) k hkn, e1, upd_set stl ps k hkp] at h1
        exact h1
      have HTS : Hid (TrAt w1.heap.size A L k (.slice a6 k c6) wS) := by rw [hwS]; exact HTR.out.store g _ _ hBg hgA
      have HBS : Hid (Below w1.heap.size w1 wS) := by rw [hwS]; exact HBL.out.setCell (p := ⟨g, k * 8 + 7, none⟩) hBg _
      have HXS : Hid (wS.ownsRow w1.heap.size 3 1 (.slice a2 m c2) m (X.map (Value.int .i64))) := by
        rw [hwS]
        exact own_same HOX.out (fun y hy => Below.heap_setCell _ _ _ y (fun e => own_apartT HO.out HOX.out (by decide) y hy e))
      have HGG : Hid (w1.heap.size ≤ g ∧ g < A) := ⟨hBg, hgA⟩
      obtain ⟨r, q, hrq⟩ : ∃ r q, ps[k] = (r, q) := ⟨_, _, rfl⟩
      have hLk : L[k] = r := by
        have h1 : (ps.map (fun x => x.1))[k]'(by simp; exact hkp) = r := by simp [hrq]
        simp only [HPS.out.2.2.1] at h1
        exact h1
      have hRl : RlAt w1 12 r q := by
        have := HPS.out.1 ps[k] (List.getElem_mem hkp)
        rw [hrq] at this
        exact this
      have hcS : ∀ j v, j < 8 → (r.still.vals q)[j]? = some v → wS.cell? ⟨g, k * 8 + j, none⟩ = some v := by
        intro j v hj hv
        obtain ⟨g', hg', _, _, hc'⟩ := own_cells8T HLS.out (by omega)
        have hgg : g = g' := by simpa using hg'
        rw [hgg, hc' (k * 8 + j) (by omega), flatU_get _ k j hj]
        have e2 : (upd stl ps (k + 1))[k]? = some (stl ps[k]) := by
          rw [← upd_set stl ps k hkp, List.getElem?_set_self (by rw [upd_len]; exact hkp)]
        rw [e2, hrq]
        exact hv
      have HCR0 := fun (V : World) (hV : Below wS.heap.size wS V) => turnS_any r.right q.ra q.rp q.rc q.rpc w1.heap.size w1 V hRl.2 (HBS.out.trans (hV.mono HBS.out.size))
      have HCL0 := fun (V : World) (hV : Below wS.heap.size wS V) => turnS_any r.left q.la q.lp q.lc q.lpc w1.heap.size w1 V hRl.1 (HBS.out.trans (hV.mono HBS.out.size))
      have s0 := hcS 0 _ (by omega) rfl
      have s1 := hcS 1 _ (by omega) rfl
      have s2 := hcS 2 _ (by omega) rfl
      have s3 := hcS 3 _ (by omega) rfl
      have s4 := hcS 4 _ (by omega) rfl
      have s5 := hcS 5 _ (by omega) rfl
      have s6 := hcS 6 _ (by omega) rfl
      rw [Nat.add_zero] at s0
      obtain ⟨qs, hqs⟩ : ∃ qs, qs = HTS.out.choose := ⟨_, rfl⟩
      have HOQ : Hid (wS.ownsRow A 35 8 (.slice a6 k c6) k (flatU qs)) := by rw [hqs]; exact HTS.out.choose_spec.2.2.1
      have HAS : Hid (A ≤ wS.heap.size) := HTS.out.choose_spec.2.2.2.1
      have HST1 : ∀ (V w3 : World) (q' : RlP) (gz cz : Nat), Below wS.heap.size wS V → InQ (fun b => b < w1.heap.size ∨ wS.heap.size ≤ b) V 12 r.right.turn [.int .i64 r.right.op, .slice q'.la r.right.cl.length q'.lc, .slice q'.lp (toL r.right.kids).length q'.lpc] → InQ (fun b => b < w1.heap.size ∨ wS.heap.size ≤ b) V 12 r.left.turn [.int .i64 r.left.op, .slice q'.ra r.left.cl.length q'.rc, .slice q'.rp (toL r.left.kids).length q'.rpc] →
          w3.ownsRow A 35 8 (.slice (some ⟨gz, 0, none⟩) (k + 1) cz) (k + 1) (flatU qs ++ [.int .i64 r.right.op, .slice q'.la r.right.cl.length q'.lc, .slice q'.lp (toL r.right.kids).length q'.lpc, .int .i64 r.left.op, .slice q'.ra r.left.cl.length q'.rc, .slice q'.rp (toL r.left.kids).length q'.rpc, .bool r.brk, .bool false]) →
          (V.alloc (.cells #[.int .i64 r.right.op, .slice q'.la r.right.cl.length q'.lc, .slice q'.lp (toL r.right.kids).length q'.lpc, .int .i64 r.left.op, .slice q'.ra r.left.cl.length q'.rc, .slice q'.rp (toL r.left.kids).length q'.rpc, .bool r.brk, .bool false] 35)).grownBy w3 (Value.slice a6 k c6).ownBlock → ((Value.slice a6 k c6).ownBlock = some gz ∨ gz = (V.alloc (.cells #[.int .i64 r.right.op, .slice q'.la r.right.cl.length q'.lc, .slice q'.lp (toL r.right.kids).length q'.lpc, .int .i64 r.left.op, .slice q'.ra r.left.cl.length q'.rc, .slice q'.rp (toL r.left.kids).length q'.rpc, .bool r.brk, .bool false] 35)).heap.size) →
          (TrAt w1.heap.size A L (k + 1) (.slice (some ⟨gz, 0, none⟩) (k + 1) cz) w3 ∧ w3.ownsRow w1.heap.size 35 8 (.slice (some ⟨g, 0, none⟩) N cv) N (flatU (upd stl ps (k + 1))) ∧ Below w1.heap.size w1 w3 ∧ w3.ownsRow w1.heap.size 3 1 (.slice a2 m c2) m (X.map (Value.int .i64))) ∧ (∀ j v, j < 8 → (r.still.vals q)[j]? = some v → w3.cell? ⟨g, k * 8 + j, none⟩ = some v) := by
        intro V w3 q' gz cz hV hR hLf ho hg hl
        have hown : ∀ y, (Value.slice a6 k c6).ownBlock = some y → A ≤ y ∧ y < wS.heap.size := fun y hy => HOQ.out.lt y hy
        have hvals : L[k].turn.vals q' = #[.int .i64 r.right.op, .slice q'.la r.right.cl.length q'.lc, .slice q'.lp (toL r.right.kids).length q'.lpc, .int .i64 r.left.op, .slice q'.ra r.left.cl.length q'.rc, .slice q'.rp (toL r.left.kids).length q'.rpc, .bool r.brk, .bool false] := by
          rw [hLk]
          show #[Value.int .i64 r.right.op, .slice q'.la r.right.cl.length q'.lc, .slice q'.lp (toL r.right.turn.kids).length q'.lpc, .int .i64 r.left.op, .slice q'.ra r.left.cl.length q'.rc, .slice q'.rp (toL r.left.turn.kids).length q'.rpc, .bool r.brk, .bool false] = _
          rw [turn_len, turn_len]
        have hRuQ : RuQ (fun b => b < w1.heap.size ∨ wS.heap.size ≤ b) V (L[k].turn, q') := by
          rw [hLk]
          refine ⟨?_, ?_⟩
          · show InQ _ V 12 r.right.turn [.int .i64 r.right.op, .slice q'.la r.right.cl.length q'.lc, .slice q'.lp (toL r.right.turn.kids).length q'.lpc]
            rw [turn_len]; exact hR
          · show InQ _ V 12 r.left.turn [.int .i64 r.left.op, .slice q'.ra r.left.cl.length q'.rc, .slice q'.rp (toL r.left.turn.kids).length q'.rpc]
            rw [turn_len]; exact hLf
        rw [← hvals] at hg hl
        have hbW : Below wS.heap.size wS (V.alloc (.cells (L[k].turn.vals q') 35)) := hV.alloc hV.size _
        have hblk : ∀ y, y < wS.heap.size → (Value.slice a6 k c6).ownBlock ≠ some y → w3.heap[y]? = wS.heap[y]? := fun y hy hne => (hg.block y (Nat.lt_of_lt_of_le hy hbW.size) (fun e => hne e.symm)).trans (hbW.block y hy)
        refine ⟨⟨?_, ?_, ?_, ?_⟩, fun j v hj hv => ?_⟩
        · refine TrAt.step HTS.out HAA.out.2 hkL hV hRuQ ?_ hg hl
          rw [← hqs, hvals]
          exact ho
        · refine own_same HLS.out (fun y hy => hblk y (HLS.out.lt y hy).2 (fun e => ?_))
          have h1 := (hown y e).1
          have h2 : y = g := by injection hy with hy; exact hy.symm
          have := HGG.out
          omega
        · exact (HBS.out.trans (hbW.mono HBS.out.size)).grown hg (Nat.le_trans HBS.out.size hbW.size) (fun y hy => by have := (hown y hy).1; have := HAA.out; omega)
        · refine own_same HXS.out (fun y hy => hblk y (HXS.out.lt y hy).2 (fun e => ?_))
          rcases HOQ.out.2 with ⟨hv0, _⟩ | ⟨g1, c1, cur1, hv1, _, hg1, _⟩
          · rw [hv0] at e; cases e
          · rcases HXS.out.2 with ⟨hv2, _⟩ | ⟨g2, c2', cur2, hv2, _, hg2, _⟩
            · rw [hv2] at hy; cases hy
            · rw [hv1] at e
              rw [hv2] at hy
              cases e
              cases hy
              rw [hg1] at hg2
              cases hg2
        · have h1 := hcS j v hj hv
          refine cell_grownQ hg (upC hbW h1) (fun e => ?_)
          have := (hown g e.symm).1
          have := HGG.out
          omega
      obtain ⟨la, lc, lp, lpc, ra, rc, rp, rpc⟩ := q
      obtain ⟨lo, hlo⟩ : ∃ lo, lo = r.left.op := ⟨_, rfl⟩
      obtain ⟨ln, hln⟩ : ∃ ln, ln = r.left.cl.length := ⟨_, rfl⟩
      obtain ⟨lk, hlk⟩ : ∃ lk, lk = (toL r.left.kids).length := ⟨_, rfl⟩
      obtain ⟨ro, hro⟩ : ∃ ro, ro = r.right.op := ⟨_, rfl⟩
      obtain ⟨rn, hrn⟩ : ∃ rn, rn = r.right.cl.length := ⟨_, rfl⟩
      obtain ⟨rk, hrk⟩ : ∃ rk, rk = (toL r.right.kids).length := ⟨_, rfl⟩
      obtain ⟨br, hbr⟩ : ∃ br, br = r.brk := ⟨_, rfl⟩
      have HST : Hid (∀ (V w3 : World) (q' : RlP) (gz cz : Nat), Below wS.heap.size wS V → InQ (fun b => b < w1.heap.size ∨ wS.heap.size ≤ b) V 12 r.right.turn [.int .i64 ro, .slice q'.la rn q'.lc, .slice q'.lp rk q'.lpc] → InQ (fun b => b < w1.heap.size ∨ wS.heap.size ≤ b) V 12 r.left.turn [.int .i64 lo, .slice q'.ra ln q'.rc, .slice q'.rp lk q'.rpc] →
          w3.ownsRow A 35 8 (.slice (some ⟨gz, 0, none⟩) (k + 1) cz) (k + 1) (flatU qs ++ [.int .i64 ro, .slice q'.la rn q'.lc, .slice q'.lp rk q'.lpc, .int .i64 lo, .slice q'.ra ln q'.rc, .slice q'.rp lk q'.rpc, .bool br, .bool false]) →
          (V.alloc (.cells #[.int .i64 ro, .slice q'.la rn q'.lc, .slice q'.lp rk q'.lpc, .int .i64 lo, .slice q'.ra ln q'.rc, .slice q'.rp lk q'.rpc, .bool br, .bool false] 35)).grownBy w3 (Value.slice a6 k c6).ownBlock → ((Value.slice a6 k c6).ownBlock = some gz ∨ gz = (V.alloc (.cells #[.int .i64 ro, .slice q'.la rn q'.lc, .slice q'.lp rk q'.lpc, .int .i64 lo, .slice q'.ra ln q'.rc, .slice q'.rp lk q'.rpc, .bool br, .bool false] 35)).heap.size) →
          (TrAt w1.heap.size A L (k + 1) (.slice (some ⟨gz, 0, none⟩) (k + 1) cz) w3 ∧ w3.ownsRow w1.heap.size 35 8 (.slice (some ⟨g, 0, none⟩) N cv) N (flatU (upd stl ps (k + 1))) ∧ Below w1.heap.size w1 w3 ∧ w3.ownsRow w1.heap.size 3 1 (.slice a2 m c2) m (X.map (Value.int .i64))) ∧ (w3.cell? ⟨g, k * 8, none⟩ = some (.int .i64 lo) ∧ w3.cell? ⟨g, k * 8 + 1, none⟩ = some (.slice la ln lc) ∧ w3.cell? ⟨g, k * 8 + 2, none⟩ = some (.slice lp lk lpc) ∧ w3.cell? ⟨g, k * 8 + 3, none⟩ = some (.int .i64 ro) ∧ w3.cell? ⟨g, k * 8 + 4, none⟩ = some (.slice ra rn rc) ∧ w3.cell? ⟨g, k * 8 + 5, none⟩ = some (.slice rp rk rpc) ∧ w3.cell? ⟨g, k * 8 + 6, none⟩ = some (.bool br))) := by
        intro V w3 q' gz cz hV hR hLf ho hg hl
        rw [hro, hrn, hrk] at hR
        rw [hlo, hln, hlk] at hLf
        rw [hro, hrn, hrk, hlo, hln, hlk, hbr] at ho hg hl
        obtain ⟨h1, h2⟩ := HST1 V w3 q' gz cz hV hR hLf ho hg hl
        refine ⟨h1, ?_⟩
        rw [hro, hrn, hrk, hlo, hln, hlk, hbr]
        exact ⟨h2 0 _ (by omega) rfl, h2 1 _ (by omega) rfl, h2 2 _ (by omega) rfl, h2 3 _ (by omega) rfl, h2 4 _ (by omega) rfl, h2 5 _ (by omega) rfl, h2 6 _ (by omega) rfl⟩
      have HCR : Hid (∀ V : World, Below wS.heap.size wS V → Calls Try.prog 19 #[.agg #[.int .i64 ro, .slice ra rn rc, .slice rp rk rpc]] V fun e w' => ∃ xa xc xp xd, e = .returned (.agg #[.int .i64 ro, .slice xa rn xc, .slice xp rk xd]) ∧ InQ (fun b => b < w1.heap.size ∨ wS.heap.size ≤ b) w' 12 r.right.turn [.int .i64 ro, .slice xa rn xc, .slice xp rk xd] ∧ Below V.heap.size V w') := by
        intro V hV
        rw [hro, hrn, hrk]
        refine (HCR0 V hV).mono ?_
        rintro e w' ⟨xa, xc, xp, xd, h1, h2, h3⟩
        exact ⟨xa, xc, xp, xd, h1, h2.mono (fun b hb => hb.imp (fun h => h) (fun h => Nat.le_trans hV.size h)) 12, h3⟩
      have HCL : Hid (∀ V : World, Below wS.heap.size wS V → Calls Try.prog 19 #[.agg #[.int .i64 lo, .slice la ln lc, .slice lp lk lpc]] V fun e w' => ∃ xa xc xp xd, e = .returned (.agg #[.int .i64 lo, .slice xa ln xc, .slice xp lk xd]) ∧ InQ (fun b => b < w1.heap.size ∨ wS.heap.size ≤ b) w' 12 r.left.turn [.int .i64 lo, .slice xa ln xc, .slice xp lk xd] ∧ Below V.heap.size V w') := by
        intro V hV
        rw [hlo, hln, hlk]
        refine (HCL0 V hV).mono ?_
        rintro e w' ⟨xa, xc, xp, xd, h1, h2, h3⟩
        exact ⟨xa, xc, xp, xd, h1, h2.mono (fun b hb => hb.imp (fun h => h) (fun h => Nat.le_trans hV.size h)) 12, h3⟩
      simp only [Rl.vals, Rl.still, ← hlo, ← hln, ← hlk, ← hro, ← hrn, ← hrk, ← hbr] at s0 s1 s2 s3 s4 s5 s6
      have HZS : Hid (∀ V : World, Below wS.heap.size wS V → V.cell? ⟨g, k * 8, none⟩ = some (.int .i64 lo) ∧ V.cell? ⟨g, k * 8 + 1, none⟩ = some (.slice la ln lc) ∧ V.cell? ⟨g, k * 8 + 2, none⟩ = some (.slice lp lk lpc) ∧ V.cell? ⟨g, k * 8 + 3, none⟩ = some (.int .i64 ro) ∧ V.cell? ⟨g, k * 8 + 4, none⟩ = some (.slice ra rn rc) ∧ V.cell? ⟨g, k * 8 + 5, none⟩ = some (.slice rp rk rpc) ∧ V.cell? ⟨g, k * 8 + 6, none⟩ = some (.bool br)) := fun V hV => ⟨upC hV s0, upC hV s1, upC hV s2, upC hV s3, upC hV s4, upC hV s5, upC hV s6⟩
      have HDW : Hid (Below wS.heap.size wS wS.drew) := (Below.refl _ _).drew
      have hki : (k : Int) < (N : Int) := by omega
      have hk0 : (0 : Int) ≤ (k : Int) := by omega
      clear hcell hfz hfl hBg hgA hrq hLk hRl hcS HCR0 HCL0 HST1 hqs hlo hln hlk hro hrn hrk hbr s0 s1 s2 s3 s4 s5 s6
      go_upto_region 9 with fail
      rw [← hwS]
      clear hwS t7 f7
      refine wp_region_noPanic ?_
      refine wp_region_held_drew (S := (fun w' => w'.cell? ⟨g, k * 8, none⟩ = some (.int .i64 lo) ∧ w'.cell? ⟨g, k * 8 + 1, none⟩ = some (.slice la ln lc) ∧ w'.cell? ⟨g, k * 8 + 2, none⟩ = some (.slice lp lk lpc) ∧ w'.cell? ⟨g, k * 8 + 3, none⟩ = some (.int .i64 ro) ∧ w'.cell? ⟨g, k * 8 + 4, none⟩ = some (.slice ra rn rc) ∧ w'.cell? ⟨g, k * 8 + 5, none⟩ = some (.slice rp rk rpc) ∧ w'.cell? ⟨g, k * 8 + 6, none⟩ = some (.bool br))) (by kernel_rfl) ?_ (fun hHeld => ?_)
      · exact HZS.out _ HDW.out
      refine wpAnyH_take (i := 0) (v := ?_) rfl (by kernel_rfl) (by kernel_rfl) (by kernel_rfl) (fun _ _ _ h => h) (Or.inl ⟨by rfl, ?_⟩) (by assumption) ?_
      rotate_left
      · intro w hSw; (try dsimp only at hSw); go_simp; try with_reducible rfl
      try simp only [Act.put, List.setIfInBounds_toArray, List.set_cons_zero, List.set_cons_succ]
      refine wpAnyH_take (i := 1) (v := ?_) rfl (by kernel_rfl) (by kernel_rfl) (by kernel_rfl) (fun _ _ _ h => h) (Or.inl ⟨by rfl, ?_⟩) (by assumption) ?_
      rotate_left
      · intro w hSw; (try dsimp only at hSw); go_simp; try with_reducible rfl
      try simp only [Act.put, List.setIfInBounds_toArray, List.set_cons_zero, List.set_cons_succ]
      refine wpAnyH_take (i := 2) (v := ?_) rfl (by kernel_rfl) (by kernel_rfl) (by kernel_rfl) (fun _ _ _ h => h) (Or.inl ⟨by rfl, ?_⟩) (by assumption) ?_
      rotate_left
      · intro w hSw; (try dsimp only at hSw); go_simp; try with_reducible rfl
      try simp only [Act.put, List.setIfInBounds_toArray, List.set_cons_zero, List.set_cons_succ]
      refine wpAnyH_take (i := 3) (v := ?_) rfl (by kernel_rfl) (by kernel_rfl) (by kernel_rfl) (fun _ _ _ h => h) (Or.inl ⟨by rfl, ?_⟩) (by assumption) ?_
      rotate_left
      · intro w hSw; (try dsimp only at hSw); go_simp; try with_reducible rfl
      try simp only [Act.put, List.setIfInBounds_toArray, List.set_cons_zero, List.set_cons_succ]
      refine wpAnyH_take (i := 4) (v := ?_) rfl (by kernel_rfl) (by kernel_rfl) (by kernel_rfl) (fun _ _ _ h => h) (Or.inl ⟨by rfl, ?_⟩) (by assumption) ?_
      rotate_left
      · intro w hSw; (try dsimp only at hSw); go_simp; try with_reducible rfl
      try simp only [Act.put, List.setIfInBounds_toArray, List.set_cons_zero, List.set_cons_succ]
      refine wpAnyH_take (i := 5) (v := ?_) rfl (by kernel_rfl) (by kernel_rfl) (by kernel_rfl) (fun _ _ _ h => h) (Or.inl ⟨by rfl, ?_⟩) (by assumption) ?_
      rotate_left
      · intro w hSw; (try dsimp only at hSw); obtain ⟨q0, q1, q2, q3, q4, q5, q6⟩ := hSw; go_simp; try with_reducible rfl
      try simp only [Act.put, List.setIfInBounds_toArray, List.set_cons_zero, List.set_cons_succ]
      refine wpAnyH_take (i := 7) (v := ?_) rfl (by kernel_rfl) (by kernel_rfl) (by kernel_rfl) (fun _ _ _ h => h) (Or.inl ⟨by rfl, ?_⟩) (by assumption) ?_
      rotate_left
      · intro w hSw; (try dsimp only at hSw); go_simp; try with_reducible rfl
      try simp only [Act.put, List.setIfInBounds_toArray, List.set_cons_zero, List.set_cons_succ]
      refine wpAnyH_take (i := 8) (v := ?_) rfl (by kernel_rfl) (by kernel_rfl) (by kernel_rfl) (fun _ _ _ h => h) (Or.inl ⟨by rfl, ?_⟩) (by assumption) ?_
      rotate_left
      · intro w hSw; (try dsimp only at hSw); go_simp; try with_reducible rfl
      try simp only [Act.put, List.setIfInBounds_toArray, List.set_cons_zero, List.set_cons_succ]
      refine wpAnyH_take (i := 9) (v := ?_) rfl (by kernel_rfl) (by kernel_rfl) (by kernel_rfl) (fun _ _ _ h => h) (Or.inl ⟨by rfl, ?_⟩) (by assumption) ?_
      rotate_left
      · intro w hSw; (try dsimp only at hSw); go_simp; try with_reducible rfl
      try simp only [Act.put, List.setIfInBounds_toArray, List.set_cons_zero, List.set_cons_succ]
      refine wpAnyH_take (i := 10) (v := ?_) rfl (by kernel_rfl) (by kernel_rfl) (by kernel_rfl) (fun _ _ _ h => h) (Or.inl ⟨by rfl, ?_⟩) (by assumption) ?_
      rotate_left
      · intro w hSw; (try dsimp only at hSw); go_simp; try with_reducible rfl
      try simp only [Act.put, List.setIfInBounds_toArray, List.set_cons_zero, List.set_cons_succ]
      refine wpAnyH_take (i := 11) (v := ?_) rfl (by kernel_rfl) (by kernel_rfl) (by kernel_rfl) (fun _ _ _ h => h) (Or.inl ⟨by rfl, ?_⟩) (by assumption) ?_
      rotate_left
      · intro w hSw; (try dsimp only at hSw); obtain ⟨q0, q1, q2, q3, q4, q5, q6⟩ := hSw; go_simp; try with_reducible rfl
      try simp only [Act.put, List.setIfInBounds_toArray, List.set_cons_zero, List.set_cons_succ]
      refine wpAnyH_take (i := 13) (v := ?_) rfl (by kernel_rfl) (by kernel_rfl) (by kernel_rfl) (fun _ _ _ h => h) (Or.inl ⟨by rfl, ?_⟩) (by assumption) ?_
      rotate_left
      · intro w hSw; (try dsimp only at hSw); go_simp; try with_reducible rfl
      try simp only [Act.put, List.setIfInBounds_toArray, List.set_cons_zero, List.set_cons_succ]
      refine wpAnyH_take (i := 14) (v := ?_) rfl (by kernel_rfl) (by kernel_rfl) (by kernel_rfl) (fun _ _ _ h => h) (Or.inl ⟨by rfl, ?_⟩) (by assumption) ?_
      rotate_left
      · intro w hSw; (try dsimp only at hSw); go_simp; try with_reducible rfl
      try simp only [Act.put, List.setIfInBounds_toArray, List.set_cons_zero, List.set_cons_succ]
      refine wpAnyH_take (i := 15) (v := ?_) rfl (by kernel_rfl) (by kernel_rfl) (by kernel_rfl) (fun _ _ _ h => h) (Or.inl ⟨by rfl, ?_⟩) (by assumption) ?_
      rotate_left
      · intro w hSw; (try dsimp only at hSw); go_simp; try with_reducible rfl
      try simp only [Act.put, List.setIfInBounds_toArray, List.set_cons_zero, List.set_cons_succ]
      refine wpAnyH_take (i := 16) (v := ?_) rfl (by kernel_rfl) (by kernel_rfl) (by kernel_rfl) (fun _ _ _ h => h) (Or.inl ⟨by rfl, ?_⟩) (by assumption) ?_
      rotate_left
      · intro w hSw; (try dsimp only at hSw); go_simp; try with_reducible rfl
      try simp only [Act.put, List.setIfInBounds_toArray, List.set_cons_zero, List.set_cons_succ]
      refine wpAnyH_take (i := 17) (v := ?_) rfl (by kernel_rfl) (by kernel_rfl) (by kernel_rfl) (fun _ _ _ h => h) (Or.inl ⟨by rfl, ?_⟩) (by assumption) ?_
      rotate_left
      · intro w hSw; (try dsimp only at hSw); obtain ⟨q0, q1, q2, q3, q4, q5, q6⟩ := hSw; go_simp; try with_reducible rfl
      try simp only [Act.put, List.setIfInBounds_toArray, List.set_cons_zero, List.set_cons_succ]
      refine wpAnyH_ready (rs := [6]) (by kernel_rfl) (by simp) ?_
      refine AllReadyH.cons rfl (fun K9 hK => ?_) ?_
      · skip
        clear hHeld
        go_simp
        refine (HCR.out _ HDW.out).mono ?_
        rintro e w5 ⟨xa, xc, xp, xd, rfl, hxw5, hbw5⟩
        have HXR : Hid (∀ V : World, Below w5.heap.size w5 V → InQ (fun b => b < w1.heap.size ∨ wS.heap.size ≤ b) V 12 r.right.turn [.int .i64 ro, .slice xa rn xc, .slice xp rk xd]) := fun V hV => hxw5.later hV 12
        have H5 : Hid (Below wS.heap.size wS w5) := HDW.out.trans (hbw5.mono HDW.out.size)
        clear hxw5 hbw5
        try dsimp only
        refine hK.out _ _ ?_ (fun hHeld => ?_)
        · exact HZS.out _ H5.out
        clear hK K9
        try simp only [Act.put, List.setIfInBounds_toArray, List.set_cons_zero, List.set_cons_succ]
        refine wpAnyH_ready (rs := [12]) (by kernel_rfl) (by simp) ?_
        refine AllReadyH.cons rfl (fun K9 hK => ?_) ?_
        · skip
          clear hHeld
          go_simp
          refine (HCL.out _ H5.out).mono ?_
          rintro e w6 ⟨ya, yc, yp, yd, rfl, hxw6, hbw6⟩
          have HXL : Hid (∀ V : World, Below w6.heap.size w6 V → InQ (fun b => b < w1.heap.size ∨ wS.heap.size ≤ b) V 12 r.left.turn [.int .i64 lo, .slice ya ln yc, .slice yp lk yd]) := fun V hV => hxw6.later hV 12
          have H6 : Hid (Below wS.heap.size wS w6) := H5.out.trans (hbw6.mono H5.out.size)
          have H56 : Hid (Below w5.heap.size w5 w6) := hbw6
          clear hxw6 hbw6
          try dsimp only
          refine hK.out _ _ ?_ (fun hHeld => ?_)
          · exact HZS.out _ H6.out
          clear hK K9
          try simp only [Act.put, List.setIfInBounds_toArray, List.set_cons_zero, List.set_cons_succ]
          refine wpAnyH_take (i := 18) (v := ?_) rfl (by kernel_rfl) (by kernel_rfl) (by kernel_rfl) (fun _ _ _ h => h) (Or.inl ⟨by rfl, ?_⟩) (by assumption) ?_
          rotate_left
          · intro w hSw; (try dsimp only at hSw); go_simp; try with_reducible rfl
          try simp only [Act.put, List.setIfInBounds_toArray, List.set_cons_zero, List.set_cons_succ]
          refine wpAnyH_ready (rs := [19]) (by kernel_rfl) (by simp) ?_
          refine AllReadyH.cons rfl (fun K9 hK => ?_) ?_
          · skip
            clear hHeld
            go_simp
            refine hK.out _ _ ?_ (fun hHeld => ?_)
            · exact HZS.out _ (H6.out.alloc H6.out.size _)
            clear hK K9
            try simp only [Act.put, List.setIfInBounds_toArray, List.set_cons_zero, List.set_cons_succ]
            refine wpAnyH_ready (rs := [20]) (by kernel_rfl) (by simp) ?_
            refine AllReadyH.cons rfl (fun K9 hK => ?_) ?_
            · skip
              refine step_append_lies _ (by rfl) _ _ 22 (by rfl) A 35 j0 _ 8 120 Try.underlying22 HJ.out.1 HJ.out.2.1 HJ.out.2.2.1 HJ.out.2.2.2 rfl (by decide) (.slice a6 k c6) k (flatU qs) (by rfl) (own_alloc (own_later5 HOQ.out H6.out) _) ⟨w6.heap.size, 0, none⟩ 1 1 [.int .i64 ro, .slice xa rn xc, .slice xp rk xd, .int .i64 lo, .slice ya ln yc, .slice yp lk yd, .bool br, .bool false] (by rfl) (by rfl) (World.news_of_block (cs := #[.int .i64 ro, .slice xa rn xc, .slice xp rk xd, .int .i64 lo, .slice ya ln yc, .slice yp lk yd, .bool br, .bool false]) (t := 35) (fr := (0, 0)) (heap_alloc_new w6 _)) (by simp [Value.oneCell']) (by omega) (by unfold maxLen; omega) (by omega) (by have := H6.out.size; have := HAS.out; simp; omega) _ rfl (fun gz cz w7 r1 r2 r3 r4 => ?_)
              have HN := HST.out w6 w7 ⟨xa, xc, xp, xd, ya, yc, yp, yd⟩ gz cz H6.out (HXR.out w6 H56.out) (HXL.out w6 (Below.refl _ _)) r1 r2 r3
              have HNN : Hid ((TrAt w1.heap.size A L (k + 1) (.slice (some ⟨gz, 0, none⟩) (k + 1) cz) w7 ∧ w7.ownsRow w1.heap.size 35 8 (.slice (some ⟨g, 0, none⟩) N cv) N (flatU (upd stl ps (k + 1))) ∧ Below w1.heap.size w1 w7 ∧ w7.ownsRow w1.heap.size 3 1 (.slice a2 m c2) m (X.map (Value.int .i64))) ∧ (w7.cell? ⟨g, k * 8, none⟩ = some (.int .i64 lo) ∧ w7.cell? ⟨g, k * 8 + 1, none⟩ = some (.slice la ln lc) ∧ w7.cell? ⟨g, k * 8 + 2, none⟩ = some (.slice lp lk lpc) ∧ w7.cell? ⟨g, k * 8 + 3, none⟩ = some (.int .i64 ro) ∧ w7.cell? ⟨g, k * 8 + 4, none⟩ = some (.slice ra rn rc) ∧ w7.cell? ⟨g, k * 8 + 5, none⟩ = some (.slice rp rk rpc) ∧ w7.cell? ⟨g, k * 8 + 6, none⟩ = some (.bool br))) := HN
              refine hK.out _ _ ?_ (fun hHeld => ?_)
              · exact HNN.out.2
              clear hK K9 HN r1 r2 r3 r4
              try simp only [Act.put, List.setIfInBounds_toArray, List.set_cons_zero, List.set_cons_succ]
              refine wpAnyH_take (i := 21) (v := ?_) rfl (by kernel_rfl) (by kernel_rfl) (by kernel_rfl) (fun _ _ _ h => h) (Or.inl ⟨by rfl, ?_⟩) (by assumption) ?_
              rotate_left
              · intro w hSw; (try dsimp only at hSw); go_simp; try with_reducible rfl
              try simp only [Act.put, List.setIfInBounds_toArray, List.set_cons_zero, List.set_cons_succ]
              refine wpAnyH_done (by kernel_rfl) ?_ _
              refine NoPanic.normal ?_
              clear hHeld
              go_wp2
              go_roundw
              case rel => exact ⟨k + 1, by omega, by go_num, HNN.out.1.2.1, HNN.out.1.1, HNN.out.1.2.2.1, HNN.out.1.2.2.2⟩
              case measure => simp [intOf]; omega
            exact AllReadyH.nil
          exact AllReadyH.nil
        exact AllReadyH.nil
      exact AllReadyH.nil
    · obtain rfl : k = N := by omega
      have HLN := HPS.out.2.2.2
      have hrowL : RowR wr 12 av k (L.map Rl.still) := by
        have hou : OwnU wr w1.heap.size (.slice av k cv) 12 (L.map Rl.still) := by
          refine ⟨ps.map stl, ?_, ?_, fun x hx => ?_⟩
          · rw [← HPS.out.2.2.1, List.map_map, List.map_map]; rfl
          · have h1 := HO.out
            rw [upd_all stl ps k HPS.out.2.1] at h1
            rw [List.length_map, ← HPS.out.2.1]
            exact h1
          · obtain ⟨y, hy, rfl⟩ := List.mem_map.1 hx
            have h2 := (HPS.out.1 y hy).later HBL.out
            exact ⟨h2.1, h2.2⟩
        obtain ⟨a', c', he, hr⟩ := hou.row
        rw [List.length_map, HLN] at he hr
        cases he
        exact hr
      have hrowT : RowR wr 12 a6 k (L.map Rl.turn) := by
        have h1 := HTR.out
        rw [← HLN] at h1
        obtain ⟨a', c', he, hr⟩ := h1.row
        rw [HLN] at he hr
        cases he
        exact hr
      have HRL : Hid (∀ V : World, Below wr.heap.size wr V → RowR V 12 av k (L.map Rl.still) ∧ RowR V 12 a6 k (L.map Rl.turn)) := fun V hV => ⟨hrowL.later hV, hrowT.later hV⟩
      obtain ⟨a2', c2', he2, hc2, _, hrx, hn2⟩ := rd_own2 HOX.out
      cases he2
      have HRX : Hid (∀ V : World, Below wr.heap.size wr V → Rd .i64 V a2 m X) := fun V hV => hrx.later hV
      have HCX : Hid (m ≤ c2 ∧ (a2 = none → c2 = 0)) := ⟨hc2, hn2⟩
      have BW : Hid (Below w.heap.size w wr) := B1.out.trans (HBL.out.mono B1.out.size)
      have HBO : Hid (∀ (V : World) (Ls : List Rl) (ax az : Option Addr) (cx cz zl : Nat) (Z : List Int), Below wr.heap.size wr V → RowR V 12 ax k Ls → Rd .i64 V az zl Z → zl ≤ cz → (az = none → cz = 0) → zl ≤ 1000 → Calls Try.prog 11 #[.slice ax k cx, .slice az zl cz] V fun e w' => ∃ g c, e = .returned (.slice (some ⟨g, 0, none⟩) (zl + 1) c) ∧ (∀ i, i ≤ zl → w'.cell? ⟨g, i, none⟩ = some (.bool (boundAt Ls Z i))) ∧ Below V.heap.size V w') := by
        intro V Ls ax az cx cz zl Z hV hr hR hc hn hz
        refine (boundaries_any 12 Ls Z ax az k cx zl cz V hr (by omega) (by omega) hR hc hn (by omega)).mono ?_
        rintro e w' ⟨v, rfl, ho, hb⟩
        obtain ⟨g, c, rfl, hc⟩ := rowB_at ho (by rw [boundL_len]; omega)
        rw [boundL_len, hR.1] at hc ⊢
        exact ⟨g, c, rfl, fun i hi => by rw [hc i (by omega), boundL_get _ _ _ (by rw [hR.1]; omega)], hb⟩
      obtain ⟨wo, hwo⟩ : ∃ W : World, W = wr := ⟨_, rfl⟩
      subst hwo
      clear hrowL hrowT hrx hc2 hn2 HO HTR HOX HBL HLN
      go_wp2
      go_loopw [7, 9] (fun x7 x9 wr => ∃ s : Nat, s ≤ m ∧ x9 = .int .i64 ((s : Int) - 1) ∧ wr.ownsRow wo.heap.size 3 1 x7 (m - s) ((X.drop s).reverse.map (Value.int .i64)) ∧ Below wo.heap.size wo wr) (fun _ x9 _ => (intOf x9 + 1).toNat)
      case atStart => exact ⟨m, by omega, by go_num, by rw [Nat.sub_self, List.drop_of_length_le (by rw [← HMX.out]; exact Nat.le_refl _)]; exact World.ownsRow_nil _ _ _ _, Below.refl _ _⟩
      case round =>
        obtain ⟨s, hs, hx9, ho, hb⟩ := hrel
        subst hx9
        obtain ⟨va, vc, rfl⟩ := own_sl1 ho
        have HO : Hid (wr.ownsRow wo.heap.size 3 1 (.slice va (m - s) vc) (m - s) ((X.drop s).reverse.map (Value.int .i64))) := ho
        have HB : Hid (Below wo.heap.size wo wr) := hb
        clear ho hb
        rcases Nat.eq_zero_or_pos s with h0 | h0
        · subst h0
          have hm1 : decide (((0 : Nat) : Int) - 1 ≥ 0) = false := by simp
          have ho2 := HO.out
          rw [Nat.sub_zero, List.drop_zero] at ho2
          obtain ⟨va', vc', he3, hc3, _, hr3, hn3⟩ := rd_own2 ho2
          have hva : va = va' ∧ vc = vc' := by simp at he3; exact ⟨he3.1, he3.2⟩
          obtain ⟨rfl, rfl⟩ := hva
          have HRB : Hid (∀ V : World, Below wr.heap.size wr V → Rd .i64 V va m X.reverse) := fun V hV => hr3.later hV
          have HCB : Hid (m ≤ vc ∧ (va = none → vc = 0)) := ⟨hc3, hn3⟩
          have hz0 : m - 0 = m := Nat.sub_zero m
          rw [hz0]
          have HCA : Hid (Calls Try.prog 11 #[.slice av k cv, .slice a2 m c2] wr fun e w' => ∃ g c, e = .returned (.slice (some ⟨g, 0, none⟩) (m + 1) c) ∧ (∀ i, i ≤ m → w'.cell? ⟨g, i, none⟩ = some (.bool (boundAt (L.map Rl.still) X i))) ∧ Below wr.heap.size wr w') := HBO.out wr _ av a2 cv c2 m X HB.out (HRL.out wr HB.out).1 (HRX.out wr HB.out) HCX.out.1 HCX.out.2 (by omega)
          have HCT : Hid (∀ V : World, Below wr.heap.size wr V → Calls Try.prog 11 #[.slice a6 k c6, .slice va m vc] V fun e w' => ∃ g c, e = .returned (.slice (some ⟨g, 0, none⟩) (m + 1) c) ∧ (∀ i, i ≤ m → w'.cell? ⟨g, i, none⟩ = some (.bool (boundAt (L.map Rl.turn) X.reverse i))) ∧ Below V.heap.size V w') := fun V hV => HBO.out V _ a6 va c6 vc m X.reverse (HB.out.trans (hV.mono HB.out.size)) (HRL.out V (HB.out.trans (hV.mono HB.out.size))).2 (HRB.out V hV) HCB.out.1 HCB.out.2 (by omega)
          clear ho2 he3 hc3 hr3 hn3 hz0 HBO HRL HRX
          go_wp2_with fail
          refine HCA.out.mono ?_
          rintro e w5 ⟨ga, ca5, rfl, hca, hb5⟩
          have H5 : Hid (Below wr.heap.size wr w5) := hb5
          have HA5 : Hid (∀ V : World, Below w5.heap.size w5 V → ∀ i, i ≤ m → V.cell? ⟨ga, i, none⟩ = some (.bool (boundAt (L.map Rl.still) X i))) := fun V hV i hi => upC hV (hca i hi)
          clear hca hb5 HCA
          go_wp2_with fail
          refine (HCT.out w5 H5.out).mono ?_
          rintro e w6 ⟨gb, cb6, rfl, hcb, hb6⟩
          have HA6 : Hid (∀ V : World, Below w6.heap.size w6 V → ∀ i, i ≤ m → V.cell? ⟨ga, i, none⟩ = some (.bool (boundAt (L.map Rl.still) X i)) ∧ V.cell? ⟨gb, m - i, none⟩ = some (.bool (boundAt (L.map Rl.still) X i))) := fun V hV i hi => by
            refine ⟨HA5.out V (hb6.trans (hV.mono hb6.size)) i hi, ?_⟩
            have h1 := upC hV (hcb (m - i) (by omega))
            have h2 := bound_turn L X i (by rw [← HMX.out]; exact hi)
            rw [← HMX.out] at h2
            rw [h2] at h1
            exact h1
          have H6 : Hid (Below w.heap.size w w6) := BW.out.trans ((HB.out.trans ((H5.out.trans (hb6.mono H5.out.size)).mono HB.out.size)).mono BW.out.size)
          have hmw : ((m : Int) + 1 == (m : Int) + 1) = true := by simp
          clear hcb hb6 HCT HA5
          go_wp2
          go_loopw [12] (fun x12 wr => ∃ i : Nat, i ≤ m + 1 ∧ x12 = .int .i64 i ∧ Below w6.heap.size w6 wr) (fun x12 _ => m + 1 - (intOf x12).toNat)
          case atStart => exact ⟨0, by omega, rfl, Below.refl _ _⟩
          case round =>
            obtain ⟨i, hi, hx12, hbi⟩ := hrel
            subst hx12
            have HBI : Hid (Below w6.heap.size w6 wr) := hbi
            clear hbi
            by_cases him : i ≤ m
            · obtain ⟨z1, z2⟩ := HA6.out wr HBI.out i him
              obtain ⟨q, hq⟩ : ∃ q, q = boundAt (L.map Rl.still) X i := ⟨_, rfl⟩
              rw [← hq] at z1 z2
              obtain ⟨p, hp⟩ : ∃ p : Nat, p = m - i := ⟨_, rfl⟩
              rw [← hp] at z2
              have hpi : (m : Int) - (i : Int) = (p : Int) := by omega
              have hpi2 : (m : Int) + 1 - 1 - (i : Int) = (p : Int) := by omega
              have hp0 : (0 : Int) ≤ (p : Int) := by omega
              have hpm : (p : Int) < (m : Int) + 1 := by omega
              have hii : (i : Int) < (m : Int) + 1 := by omega
              have hi0 : (0 : Int) ≤ (i : Int) := by omega
              have hqq : (q != q) = false := by simp
              clear hq hp
              go_wp2_with fail
              go_quiet (fail)
              go_wp2
              go_roundw
              case rel => exact ⟨i + 1, by omega, by go_num, below_drewN HBI.out _⟩
              case measure => simp [intOf]; omega
            · have hii : ¬ (i : Int) < (m : Int) + 1 := by omega
              have HE : Hid (Below w.heap.size w wr) := H6.out.trans (HBI.out.mono H6.out.size)
              go_wp2
              go_ret
              exact ⟨rfl, HE.out⟩
        · obtain ⟨q, hq⟩ : ∃ q : Nat, q + 1 = s := ⟨s - 1, by omega⟩
          have hqi : (s : Int) - 1 = (q : Int) := by omega
          rw [hqi]
          obtain ⟨ln, hln⟩ : ∃ ln, ln = m - s := ⟨_, rfl⟩
          rw [← hln] at HO ⊢
          have hql : q < m := by omega
          have hqlx : q < X.length := by rw [← HMX.out]; exact hql
          obtain ⟨b, off, hab, hcl⟩ := (HRX.out wr HB.out).2 (by omega)
          subst hab
          have hcq := hcl q hql
          obtain ⟨x, hx⟩ : ∃ x, x = X.getD q 0 := ⟨_, rfl⟩
          have HBS : Hid ((X.drop q).reverse = (X.drop s).reverse ++ [x] ∧ m - q = ln + 1 ∧ ln + 1 ≤ 16) := ⟨by rw [hx, List.drop_eq_getElem_cons hqlx, List.reverse_cons, hq]; simp [hqlx], by omega, by omega⟩
          rw [← hx] at hcq
          have HNX : Hid (∀ (v : Value) (w9 : World), w9.ownsRow wo.heap.size 3 1 v (ln + 1) ((X.drop s).reverse.map (Value.int .i64) ++ [.int .i64 x]) → w9.ownsRow wo.heap.size 3 1 v (m - q) ((X.drop q).reverse.map (Value.int .i64))) := by
            intro v w9 h
            rw [HBS.out.1, HBS.out.2.1, List.map_append]
            exact h
          have HGR : Hid (∀ w9 : World, (wr.alloc (.cells #[.int .i64 x] 3)).grownBy w9 (Value.slice va ln vc).ownBlock → Below wo.heap.size wo w9) := by
            intro w9 q2
            refine (HB.out.alloc HB.out.size _).grown q2 (by have := HB.out.size; simp; omega) (fun y hy => (HO.out.lt y hy).1)
          have hqm : (q : Int) < (m : Int) := by omega
          have hq0 : (0 : Int) ≤ (q : Int) := by omega
          have HQ : Hid (q + 1 = s ∧ s ≤ m) := ⟨hq, hs⟩
          have HSZ : Hid (wo.heap.size ≤ wr.heap.size) := HB.out.size
          clear hcl hx hln hq hqi hs h0 hqlx
          go_wp2_with (at_builtin; refine wpList_append_lies _ rfl _ _ 23 rfl wo.heap.size 3 i0 _ 1 8 Try.underlying23 HI.out.1 HI.out.2.1 HI.out.2.2.1 HI.out.2.2.2 rfl (by decide) (.slice va ln vc) ln ((X.drop s).reverse.map (Value.int .i64)) rfl (own_later5 HO.out ((Below.refl _ wr).alloc (Nat.le_refl _) _)) ⟨wr.heap.size, 0, none⟩ 1 1 [.int .i64 x] rfl rfl (World.news_of_block (cs := #[.int .i64 x]) (t := 3) (fr := (0, 0)) (heap_alloc_new wr _)) (by simp [Value.oneCell']) (by omega) (by have := HBS.out.2.2; unfold maxLen; omega) (by have := HBS.out.2.2; omega) (by have := HSZ.out; simp; omega) _ rfl (fun z cap5 w9 hown hgrow hat hlt5 => ?_); have HO9 : Hid _ := HNX.out _ _ hown; have HB9 : Hid (Below wo.heap.size wo w9) := HGR.out _ hgrow; clear hown hgrow hat hlt5)
          go_roundw
          case rel => exact ⟨q, by have := HQ.out; omega, by go_num, HO9.out, HB9.out⟩
          case measure => first | (simp [intOf]; done) | (have := HQ.out; simp [intOf]; omega)
end Go.Proofs.Ytjbhfonokgkalaa
