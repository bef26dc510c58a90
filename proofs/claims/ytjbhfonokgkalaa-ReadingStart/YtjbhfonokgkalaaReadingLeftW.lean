/- The walk of ReadingLeft. -/
import Derived.Test.YtjbhfonokgkalaaReaEn
import Derived.Test.YtjbhfonokgkalaaReaMa
namespace Go.Proofs.Ytjbhfonokgkalaa
open Go.RowKit
set_option linter.unusedVariables false
set_option linter.unusedSimpArgs false

/-- A rule without its right side, and where it lies. -/
def noRl (r : Rl) : Rl := ⟨r.left, nilNd, r.brk, r.start⟩
def noR (x : Rl × RlP) : Rl × RlP := (noRl x.1, ⟨x.2.la, x.2.lc, x.2.lp, x.2.lpc, none, 0, none, 0⟩)
theorem noR_at {w : World} {x : Rl × RlP} (h : RlAt w 12 x.1 x.2) : RlAt w 12 (noR x).1 (noR x).2 := ⟨h.1, InV.leaf w 11 0 [] none 0 (rd_nil _ _) (by simp)⟩
theorem flatU_noR (ps : List (Rl × RlP)) (i : Nat) (hi : i < ps.length) : flatU (ps.set i (noR ps[i])) = (((flatU ps).set (i * 8 + 3) (.int .i64 0)).set (i * 8 + 4) (.slice none 0 0)).set (i * 8 + 5) (.slice none 0 0) := by
  apply List.ext_getElem?
  intro p
  obtain ⟨a, j, hj, rfl⟩ : ∃ a j, j < 8 ∧ p = a * 8 + j := ⟨p / 8, p % 8, by omega, by omega⟩
  rw [flatU_get _ a j hj]
  by_cases ha : a = i
  · subst ha
    have hl := flatU_len ps
    have h0 := flatU_get ps a j hj
    rw [List.getElem?_eq_getElem hi] at h0
    rw [List.getElem?_set_self hi]
    match j, hj with
    | 0, _ => rw [List.getElem?_set_ne (by omega), List.getElem?_set_ne (by omega), List.getElem?_set_ne (by omega), h0]; rfl
    | 1, _ => rw [List.getElem?_set_ne (by omega), List.getElem?_set_ne (by omega), List.getElem?_set_ne (by omega), h0]; rfl
    | 2, _ => rw [List.getElem?_set_ne (by omega), List.getElem?_set_ne (by omega), List.getElem?_set_ne (by omega), h0]; rfl
    | 3, _ => rw [List.getElem?_set_ne (by omega), List.getElem?_set_ne (by omega), List.getElem?_set_self (by omega)]; rfl
    | 4, _ => rw [List.getElem?_set_ne (by omega), List.getElem?_set_self (by simp; omega)]; rfl
    | 5, _ => rw [List.getElem?_set_self (by simp; omega)]; rfl
    | 6, _ => rw [List.getElem?_set_ne (by omega), List.getElem?_set_ne (by omega), List.getElem?_set_ne (by omega), h0]; rfl
    | 7, _ => rw [List.getElem?_set_ne (by omega), List.getElem?_set_ne (by omega), List.getElem?_set_ne (by omega), h0]; rfl
  · rw [List.getElem?_set_ne (Ne.symm ha), List.getElem?_set_ne (by omega), List.getElem?_set_ne (by omega), List.getElem?_set_ne (by omega), flatU_get _ a j hj]
/-- Three cells set in a row of the call's own. -/
theorem own_set8 {w : World} {B : Nat} {e : TypeId} {n g cap : Nat} {vs : List Value} (h : w.ownsRow B e 8 (.slice (some ⟨g, 0, none⟩) n cap) n vs) (i : Nat) (u : Value) : (w.setCell ⟨g, i, none⟩ u).ownsRow B e 8 (.slice (some ⟨g, 0, none⟩) n cap) n (vs.set i u) := by
  refine ⟨by simpa using h.1, ?_⟩
  rcases h.2 with ⟨hv, h0⟩ | ⟨g', cap', cur, hv, hb, hg, hnc, hm, hs, ht⟩
  · cases hv
  · cases hv
    refine .inr ⟨g, cap, cur.setIfInBounds i u, rfl, hb, heap_setCell_same w g i cur e u hg, hnc, hm, by simpa using hs, ?_⟩
    rw [Array.toList_setIfInBounds, List.take_set, ht]
/-- The first so many without their right sides. -/
def noRs (ps : List (Rl × RlP)) (k : Nat) : List (Rl × RlP) := (ps.take k).map noR ++ ps.drop k
theorem noRs_len (ps : List (Rl × RlP)) (k : Nat) : (noRs ps k).length = ps.length := by unfold noRs; simp; omega
theorem noRs_at (ps : List (Rl × RlP)) (k : Nat) (hk : k < ps.length) : (noRs ps k)[k]? = some ps[k] := by
  unfold noRs
  rw [List.getElem?_append_right (by simp; omega)]
  simp [show min k ps.length = k by omega, hk]
theorem noRs_set (ps : List (Rl × RlP)) (k : Nat) (hk : k < ps.length) : (noRs ps k).set k (noR ps[k]) = noRs ps (k + 1) := by
  unfold noRs
  rw [List.set_append_right _ _ (by simp; omega)]
  have e : k - ((ps.take k).map noR).length = 0 := by simp; omega
  rw [e, List.drop_eq_getElem_cons hk, List.set_cons_zero, List.take_succ_eq_append_getElem hk, List.map_append, List.append_assoc]
  rfl
theorem noRs_all (ps : List (Rl × RlP)) (k : Nat) (hk : k = ps.length) : noRs ps k = ps.map noR := by
  unfold noRs
  rw [hk, List.take_length, List.drop_length, List.append_nil]
theorem noRs_rl {w : World} (ps : List (Rl × RlP)) (k : Nat) (h : ∀ x ∈ ps, RlAt w 12 x.1 x.2) : ∀ x ∈ noRs ps k, RlAt w 12 x.1 x.2 := by
  intro x hx
  rcases List.mem_append.1 hx with hx | hx
  · obtain ⟨y, hy, rfl⟩ := List.mem_map.1 hx
    exact noR_at (h y (List.mem_of_mem_take hy))
  · exact h x (List.mem_of_mem_drop hx)
theorem src_rd {w : World} {ad : Option Addr} {m c : Nat} {ns : List Int} (h : Rd .i64 w ad m ns) (hn : ad = none → c = 0) : SrcAt w ad m c 1 (ns.map (Value.int .i64)) := by
  refine ⟨by simp [h.1], fun ha => ⟨?_, hn ha⟩, fun a ha j u hu => ?_, fun u hu => ?_⟩
  · rcases Nat.eq_zero_or_pos m with h0 | h0
    · exact h0
    · obtain ⟨b, off, e, _⟩ := h.2 h0
      rw [ha] at e
      cases e
  · rw [ha] at h
    exact rd_news h j u hu
  · obtain ⟨b, _, rfl⟩ := List.mem_map.1 hu
    rfl
/-- Rows of unlike types lie in unlike blocks. -/
theorem own_apart {w : World} {B B' : Nat} {e e' : TypeId} {s s' n n' g cap : Nat} {v : Value} {vs vs' : List Value} (h : w.ownsRow B e s (.slice (some ⟨g, 0, none⟩) n cap) n vs) (h' : w.ownsRow B' e' s' v n' vs') (hne : e ≠ e') (y : Nat) (hy : v.ownBlock = some y) : y ≠ g := by
  intro hyg
  subst hyg
  rcases h.2 with ⟨hv, _⟩ | ⟨g1, c1, cur1, hv, _, hg1, _⟩
  · cases hv
  · rcases h'.2 with ⟨hv', _⟩ | ⟨g2, c2, cur2, hv', _, hg2, _⟩
    · rw [hv'] at hy; cases hy
    · rw [hv'] at hy
      cases hy
      cases hv
      rw [hg1] at hg2
      cases hg2
      exact hne rfl
theorem own_cells8 {w : World} {B : Nat} {e : TypeId} {n : Nat} {a : Option Addr} {cap : Nat} {vs : List Value} (h : w.ownsRow B e 8 (.slice a n cap) n vs) (hn : 0 < n) : ∃ g, a = some ⟨g, 0, none⟩ ∧ B ≤ g ∧ (∀ j, w.frozen? ⟨g, j, none⟩ = false) ∧ ∀ i, i < n * 8 → w.cell? ⟨g, i, none⟩ = vs[i]? := by
  rcases h.2 with ⟨hv, h0⟩ | ⟨g, cap', cur, hv, hb, hg, hnc, hm, hs, ht⟩
  · omega
  · cases hv
    refine ⟨g, rfl, hb, Lib.frozen_of_heap hg, fun i hi => ?_⟩
    rw [cell_of_row w g i _ _ _ hg, ← ht, List.getElem?_take, if_pos (by omega)]
    simp
/-- The world with a rule's right side taken away. -/
def F3z (W : World) (g o : Nat) : World := ((W.setCell ⟨g, o + 3, none⟩ (.int .i64 0)).setCell ⟨g, o + 4, none⟩ (.slice none 0 0)).setCell ⟨g, o + 5, none⟩ (.slice none 0 0)
theorem f3z_below {B : Nat} {w W : World} (h : Below B w W) (g o : Nat) (hg : B ≤ g) : Below B w (F3z W g o) :=
  ((h.setCell (p := ⟨g, o + 3, none⟩) hg _).setCell (p := ⟨g, o + 4, none⟩) hg _).setCell (p := ⟨g, o + 5, none⟩) hg _
theorem f3z_other (W : World) (g o y : Nat) (hy : y ≠ g) : (F3z W g o).heap[y]? = W.heap[y]? := by
  unfold F3z
  rw [Below.heap_setCell _ _ _ _ (fun e => hy e), Below.heap_setCell _ _ _ _ (fun e => hy e), Below.heap_setCell _ _ _ _ (fun e => hy e)]
set_option maxRecDepth 100000 in
set_option maxHeartbeats 16000000 in
theorem readingLeft_walk (D : Nat) (l : List Rl) (xs0 ys0 : List Int) (al a b : Option Addr) (n c len0 cap lenb capb : Nat) (w : World) (hrow : RowR w D al n l) (hn : n ≤ 140737488355328) (hrd : Rd .i64 w a len0 xs0) (hcap : len0 ≤ cap) (hcm : cap ≤ 9223372036854775807) (hnone : a = none → cap = 0) (hrdb : Rd .i64 w b lenb ys0) (hcapb : lenb ≤ capb) (hcmb : capb ≤ 9223372036854775807) (hnoneb : b = none → capb = 0) :
    Calls Try.prog 6 #[.slice al n c, .slice a len0 cap, .slice b lenb capb] w fun e w' => e = .returned (.bool true) ∧ Below w.heap.size w w' := by
  obtain ⟨len, hlen⟩ : ∃ len : Nat, (len : Int) = min (len0 : Int) 8 := ⟨min len0 8, by omega⟩
  have hmin := min_run len0 len 8 hlen
  have hcut0 := cutI_to a len0 cap len (by omega)
  obtain ⟨lb, hlb⟩ : ∃ lb : Nat, (lb : Int) = min (lenb : Int) 8 := ⟨min lenb 8, by omega⟩
  have hminb := min_run lenb lb 8 hlb
  have hcutb := cutI_to b lenb capb lb (by omega)
  obtain ⟨Y, hY⟩ : ∃ Y, Y = ys0.take lb := ⟨_, rfl⟩
  have HRB : Hid (∀ V : World, Below w.heap.size w V → SrcAt V b lb capb 1 (Y.map (Value.int .i64))) := fun V hV => by rw [hY]; exact src_rd ((hrdb.take lb (by omega)).later hV) hnoneb
  have HF : Hid (∀ W, Below w.heap.size w W → Calls Try.prog 10 #[.slice al n c, .slice a len cap] W (FewPost2 al l (xs0.take len) W)) := fun W hW => few_any2 D l (xs0.take len) al a n c len cap W (hrow.later hW) hn ((hrd.take len (by omega)).later hW) (by omega) hcm hnone
  obtain ⟨i0, ji, jz0, jz1, jz2⟩ := info_parts info_i
  have HJ : Hid (Try.prog.info? 3 = some i0 ∧ i0.zero = some (.int .i64 0) ∧ i0.size = 1 ∧ i0.bytes = 8) := ⟨ji, jz0, jz1, jz2⟩
  have hl8 : len ≤ 8 := by omega
  have hlb8 : lb ≤ 8 := by omega
  have HYL : Hid (Y.length = lb) := by rw [hY]; show _ = _; simp [hrdb.1]; omega
  clear hrow hn hrd hcap hcm hnone hrdb hcapb hcmb hnoneb hlen hlb hY ji jz0 jz1 jz2
  go_enter Try.func6, Try.ntmps6
  go_wp2_with fail
  refine (shown_any w).mono ?_
  rintro e w1 ⟨rfl, hb1⟩
  have B1 : Hid (Below w.heap.size w w1) := hb1
  clear hb1
  go_wp2_with fail
  refine (HF.out w1 B1.out).mono ?_
  rintro e w2 ⟨v1, a2, c2, ps, rfl, hps, hou, hrl, hox, hb2⟩
  obtain ⟨X, hX⟩ : ∃ X, X = (xs0.take len).take 16 := ⟨_, rfl⟩
  obtain ⟨m, hm⟩ : ∃ m, m = X.length := ⟨_, rfl⟩
  have hm8 : m ≤ 8 := by rw [hm, hX]; simp; omega
  rw [← hX, ← hm] at hox ⊢
  obtain ⟨N, hN⟩ : ∃ N, N = ps.length := ⟨_, rfl⟩
  have hN10 : N ≤ 10 := by have h1 := fewR_len l; rw [← hps] at h1; simp at h1; omega
  rw [← hN] at hou
  obtain ⟨av, cv, rfl⟩ := own_sl1 hou
  obtain ⟨a2', c2', he, hc2, hc2m, hrdx, hn2⟩ := rd_own2 hox
  cases he
  have B2 : Hid (Below w.heap.size w w2) := B1.out.trans (hb2.mono B1.out.size)
  have HW2 : Hid (Below w1.heap.size w1 w2) := hb2
  have HPS : Hid ((∀ x ∈ ps, RlAt w1 12 x.1 x.2) ∧ N = ps.length) := ⟨fun x hx => (hrl x hx).1, hN⟩
  have HOU : Hid (w2.ownsRow w1.heap.size 35 8 (.slice av N cv) N (flatU (noRs ps 0))) := by
    show World.ownsRow _ _ _ _ _ _ _
    rw [show noRs ps 0 = ps by simp [noRs]]
    exact hou
  have HRX : Hid (Rd .i64 w2 a2 m X ∧ m ≤ c2 ∧ (a2 = none → c2 = 0) ∧ m = X.length) := ⟨hrdx, hc2, hn2, hm⟩
  have HOX : Hid (w2.ownsRow w1.heap.size 3 1 (.slice a2 m c2) m (X.map (Value.int .i64))) := hox
  have hNi : (N : Int) ≤ 10 := by omega
  have hmi : (m : Int) ≤ 8 := by omega
  clear hou hrl hox hb2 hps hX hm hN hc2 hc2m hrdx hn2 HF hmin hcut0
  go_wp2
  go_loopw [8] (fun x8 wr => ∃ k : Nat, k ≤ N ∧ x8 = .int .i64 k ∧ wr.ownsRow w1.heap.size 35 8 (.slice av N cv) N (flatU (noRs ps k)) ∧ Below w1.heap.size w1 wr ∧ wr.ownsRow w1.heap.size 3 1 (.slice a2 m c2) m (X.map (Value.int .i64))) (fun x8 _ => N - (intOf x8).toNat)
  case atStart => exact ⟨0, by omega, rfl, HOU.out, HW2.out, HOX.out⟩
  case round =>
    obtain ⟨k, hk, hx8, ho, hbl, hx⟩ := hrel
    subst hx8
    have HO : Hid (wr.ownsRow w1.heap.size 35 8 (.slice av N cv) N (flatU (noRs ps k))) := ho
    have HBL : Hid (Below w1.heap.size w1 wr) := hbl
    have HX : Hid (wr.ownsRow w1.heap.size 3 1 (.slice a2 m c2) m (X.map (Value.int .i64))) := hx
    clear ho hbl hx
    by_cases hlt : k < N
    · obtain ⟨g, rfl, hBg, hfz, hcell⟩ := own_cells8 HO.out (by omega)
      have hkp : k < ps.length := by rw [← HPS.out.2]; exact hlt
      have hfl := flatU_len (noRs ps k)
      rw [noRs_len, ← HPS.out.2] at hfl
      have some8 : ∀ j, j < 8 → ∃ v, wr.cell? ⟨g, k * 8 + j, none⟩ = some v := fun j hj => ⟨_, (hcell (k * 8 + j) (by omega)).trans (List.getElem?_eq_getElem (by omega))⟩
      obtain ⟨u3, t3⟩ := some8 3 (by omega)
      obtain ⟨u4, t4⟩ := some8 4 (by omega)
      obtain ⟨u5, t5⟩ := some8 5 (by omega)
      have f3 := hfz (k * 8 + 3)
      have f4 := hfz (k * 8 + 4)
      have f5 := hfz (k * 8 + 5)
      obtain ⟨wF, hwF⟩ : ∃ wF, wF = F3z wr g (k * 8) := ⟨_, rfl⟩
      have HNX : Hid (wF.ownsRow w1.heap.size 35 8 (.slice (some ⟨g, 0, none⟩) N cv) N (flatU (noRs ps (k + 1))) ∧ Below w1.heap.size w1 wF ∧ wF.ownsRow w1.heap.size 3 1 (.slice a2 m c2) m (X.map (Value.int .i64))) := by
        rw [hwF]
        refine ⟨?_, f3z_below HBL.out g _ hBg, ?_⟩
        · have h1 := own_set8 (own_set8 (own_set8 HO.out (k * 8 + 3) (.int .i64 0)) (k * 8 + 4) (.slice none 0 0)) (k * 8 + 5) (.slice none 0 0)
          have hkn : k < (noRs ps k).length := by rw [noRs_len]; exact hkp
          have e1 : (noRs ps k)[k] = ps[k] := by
            have := noRs_at ps k hkp
            rw [List.getElem?_eq_getElem hkn] at this
            exact Option.some.inj this
          rw [← flatU_noR (noRs ps k) k hkn, e1, noRs_set ps k hkp] at h1
          exact h1
        · exact own_same HX.out (fun y hy => f3z_other wr g _ y (own_apart HO.out HX.out (by decide) y hy))
      unfold F3z at hwF
      clear hcell some8 hfl
      have hki : (k : Int) < (N : Int) := by omega
      have hk0 : (0 : Int) ≤ (k : Int) := by omega
      go_wp2
      rw [← hwF]
      clear hwF
      go_roundw
      case rel => exact ⟨k + 1, by omega, by go_num, HNX.out.1, HNX.out.2.1, HNX.out.2.2⟩
      case measure => simp [intOf]; omega
    · obtain rfl : k = N := by omega
      obtain ⟨L, hLL⟩ : ∃ L, L = (ps.map noR).map (fun x => x.1) := ⟨_, rfl⟩
      have hLn : L.length = k := by rw [hLL, HPS.out.2]; simp
      have HLR : Hid (∀ r ∈ L, r.right = nilNd) := by
        intro r hr
        rw [hLL] at hr
        simp only [List.map_map, List.mem_map, Function.comp] at hr
        obtain ⟨x, _, rfl⟩ := hr
        rfl
      have hou : OwnU wr w1.heap.size (.slice av k cv) 12 L := by
        refine ⟨ps.map noR, hLL.symm, ?_, fun x hx => ?_⟩
        · have h1 := HO.out
          rw [noRs_all ps k HPS.out.2] at h1
          rw [List.length_map, ← HPS.out.2]
          exact h1
        · obtain ⟨y, hy, rfl⟩ := List.mem_map.1 hx
          exact noR_at ((HPS.out.1 y hy).later HBL.out)
      obtain ⟨av', cv', he, hrw⟩ := hou.row
      rw [hLn] at he hrw
      cases he
      have HRW : Hid (RowR wr 12 av k L) := hrw
      have HBX : Hid (∀ (V : World) (Z : List Int) (az : Option Addr) (zl cz : Nat), Below wr.heap.size wr V → Rd .i64 V az zl Z → zl ≤ cz → (az = none → cz = 0) → zl ≤ 1000 → Calls Try.prog 11 #[.slice av k cv, .slice az zl cz] V fun e w' => ∃ g c, e = .returned (.slice (some ⟨g, 0, none⟩) (zl + 1) c) ∧ (∀ i, i ≤ zl → w'.cell? ⟨g, i, none⟩ = some (.bool (boundAt L Z i))) ∧ Below V.heap.size V w') := by
        intro V Z az zl cz hV hR hc hn hz
        refine (boundaries_any 12 L Z av az k cv zl cz V (HRW.out.later hV) (by omega) (by omega) hR hc hn (by omega)).mono ?_
        rintro e w' ⟨v, rfl, ho, hb⟩
        obtain ⟨g, c, rfl, hc⟩ := rowB_at ho (by rw [boundL_len]; omega)
        rw [boundL_len, hR.1] at hc ⊢
        exact ⟨g, c, rfl, fun i hi => by rw [hc i (by omega), boundL_get _ _ _ (by rw [hR.1]; omega)], hb⟩
      have BW : Hid (Below w.heap.size w wr) := B1.out.trans (HBL.out.mono B1.out.size)
      have HRX2 : Hid (Rd .i64 wr a2 m X) := by
        obtain ⟨a', c', he, _, _, h⟩ := rd_own HX.out
        cases he
        exact h
      clear hLL hou hrw
      go_wp2_with fail
      refine (HBX.out wr X a2 m c2 (Below.refl _ _) HRX2.out HRX.out.2.1 HRX.out.2.2.1 (by omega)).mono ?_
      rintro e w3 ⟨g1, c1, rfl, hc1, hb3⟩
      have B3 : Hid (Below wr.heap.size wr w3) := hb3
      have BW3 : Hid (Below w.heap.size w w3) := BW.out.trans (hb3.mono BW.out.size)
      have HC1 : Hid (∀ (V : World) (i : Nat), Below w3.heap.size w3 V → i ≤ m → V.cell? ⟨g1, i, none⟩ = some (.bool (boundAt L X i))) := fun V i hV hi => upC hV (hc1 i hi)
      have HSX : Hid (∀ V : World, Below w3.heap.size w3 V → SrcAt V a2 m c2 1 (X.map (Value.int .i64))) := fun V hV => src_rd ((HRX2.out.later B3.out).later hV) HRX.out.2.2.1
      clear hc1 hb3
      go_upto_region 8 with fail
      refine wp_region_any (by kernel_rfl) ?_
      try (change wpAny _ _ _ _ _ _ _ (World.drew _))
      refine wpAny_take (i := 0) (v := ?_) rfl (by kernel_rfl) (by kernel_rfl) (by kernel_rfl) (fun _ _ _ h => h) (Or.inl ⟨by rfl, ?_⟩) ?_
      rotate_left
      · intro w; go_simp; try with_reducible rfl
      go_simp
      refine wpAny_take (i := 2) (v := ?_) rfl (by kernel_rfl) (by kernel_rfl) (by kernel_rfl) (fun _ _ _ h => h) (Or.inl ⟨by rfl, ?_⟩) ?_
      rotate_left
      · intro w; go_simp; try with_reducible rfl
      go_simp
      refine wpAny_take (i := 4) (v := ?_) rfl (by kernel_rfl) (by kernel_rfl) (by kernel_rfl) (fun _ _ _ h => h) (Or.inl ⟨by rfl, ?_⟩) ?_
      rotate_left
      · intro w; go_simp; try with_reducible rfl
      go_simp
      refine wpAny_take (i := 5) (v := ?_) rfl (by kernel_rfl) (by kernel_rfl) (by kernel_rfl) (fun _ _ _ h => h) (Or.inl ⟨by rfl, ?_⟩) ?_
      rotate_left
      · intro w; go_simp; try with_reducible rfl
      go_simp
      refine wpAny_take (i := 6) (v := ?_) rfl (by kernel_rfl) (by kernel_rfl) (by kernel_rfl) (fun _ _ _ h => h) (Or.inl ⟨by rfl, ?_⟩) ?_
      rotate_left
      · intro w; go_simp; try with_reducible rfl
      go_simp
      refine wpAny_take (i := 7) (v := ?_) rfl (by kernel_rfl) (by kernel_rfl) (by kernel_rfl) (fun _ _ _ h => h) (Or.inl ⟨by rfl, ?_⟩) ?_
      rotate_left
      · intro w; go_simp; try with_reducible rfl
      go_simp
      refine wpAny_take (i := 8) (v := ?_) rfl (by kernel_rfl) (by kernel_rfl) (by kernel_rfl) (fun _ _ _ h => h) (Or.inl ⟨by rfl, ?_⟩) ?_
      rotate_left
      · intro w; go_simp; try with_reducible rfl
      go_simp
      refine wpAny_ready (rs := [1]) (by kernel_rfl) (by simp) ?_
      refine AllReady.cons rfl (fun K hK => ?_) ?_
      · skip
        go_simp
        refine hK _ _ ?_
        clear hK K
        refine wpAny_ready (rs := [3]) (by kernel_rfl) (by simp) ?_
        refine AllReady.cons rfl (fun K hK => ?_) ?_
        · skip
          refine step_append_src (by rfl) _ _ 23 (by rfl) w3.heap.size 3 i0 _ 1 8 Try.underlying23 HJ.out.1 HJ.out.2.1 HJ.out.2.2.1 HJ.out.2.2.2 rfl (by decide) (.slice (some ⟨w3.heap.size, 0, none⟩) 0 0) 0 [] (by rfl) (by have h3 := World.ownsRow_made (base := w3.heap.size) (e := 3) (size := 1) w3.drew #[] 0 (by simp) (by simp [maxLen]) rfl; exact h3) a2 m c2 (X.map (Value.int .i64)) (by rfl) (HSX.out _ ((Below.refl _ w3).drew.alloc (by simp) _)) (by unfold maxLen; omega) (by omega) (by first | (simp; done) | (simp; omega) | omega) (fun v' w4 h1 h2 => ?_)
          obtain ⟨av4, cv4, rfl⟩ := own_sl1 h1
          rw [Nat.zero_add, List.nil_append] at h1
          rw [Nat.zero_add]
          have HA4 : Hid (w4.ownsRow w3.heap.size 3 1 (.slice av4 m cv4) m (X.map (Value.int .i64))) := h1
          have H4 : Hid (Below w3.heap.size w3 w4) := (((Below.refl _ w3).drew.alloc (by simp) _)).grown h2 (by first | (simp; done) | (simp; omega) | omega) (fun k hk => by cases hk; first | (simp; done) | (simp; omega) | omega)
          refine hK _ _ ?_
          clear hK K h1 h2
          try simp only [Act.put, List.setIfInBounds_toArray, List.set_cons_zero, List.set_cons_succ]
          refine wpAny_ready (rs := [9]) (by kernel_rfl) (by simp) ?_
          refine AllReady.cons rfl (fun K hK => ?_) ?_
          · skip
            refine step_append_src (by rfl) _ _ 23 (by rfl) w3.heap.size 3 i0 _ 1 8 Try.underlying23 HJ.out.1 HJ.out.2.1 HJ.out.2.2.1 HJ.out.2.2.2 rfl (by decide) (.slice av4 m cv4) m (X.map (Value.int .i64)) (by rfl) HA4.out b lb capb (Y.map (Value.int .i64)) (by rfl) (HRB.out _ (BW3.out.trans (H4.out.mono BW3.out.size))) (by unfold maxLen; omega) (by omega) H4.out.size (fun v' w5 h1 h2 => ?_)
            rw [← List.map_append] at h1
            obtain ⟨av5, cv5, rfl, hc5, _, hr5, hn5⟩ := rd_own2 h1
            have H5 : Hid (Below w3.heap.size w3 w5) := H4.out.grown h2 H4.out.size (fun y hy => (HA4.out.lt y hy).1)
            have HR5 : Hid (Rd .i64 w5 av5 (m + lb) (X ++ Y) ∧ m + lb ≤ cv5 ∧ (av5 = none → cv5 = 0)) := ⟨hr5, hc5, hn5⟩
            refine hK _ _ ?_
            clear hK K h1 h2 hc5 hr5 hn5
            try simp only [Act.put, List.setIfInBounds_toArray, List.set_cons_zero, List.set_cons_succ]
            refine wpAny_ready (rs := [10]) (by kernel_rfl) (by simp) ?_
            refine AllReady.cons rfl (fun K hK => ?_) ?_
            · skip
              go_simp
              refine (HBX.out w5 (X ++ Y) av5 (m + lb) cv5 (B3.out.trans (H5.out.mono B3.out.size)) HR5.out.1 HR5.out.2.1 HR5.out.2.2 (by omega)).mono ?_
              rintro e w6 ⟨g6, c6, rfl, hc6, hb6⟩
              have H6 : Hid (Below w3.heap.size w3 w6) := H5.out.trans (hb6.mono H5.out.size)
              have HC6 : Hid (∀ (V : World) (i : Nat), Below w6.heap.size w6 V → i < m → V.cell? ⟨g6, i, none⟩ = some (.bool (boundAt L X i))) := fun V i hV hi => by
                have h1 := upC hV (hc6 i (by omega))
                rw [bound_left L HLR.out X Y i (by rw [← HRX.out.2.2.2]; exact hi)] at h1
                exact h1
              clear hc6 hb6
              try dsimp only
              refine hK _ _ ?_
              clear hK K
              try simp only [Act.put, List.setIfInBounds_toArray, List.set_cons_zero, List.set_cons_succ]
              refine wpAny_take (i := 11) (v := ?_) rfl (by kernel_rfl) (by kernel_rfl) (by kernel_rfl) (fun _ _ _ h => h) (Or.inl ⟨by rfl, ?_⟩) ?_
              rotate_left
              · intro w; go_simp; try with_reducible rfl
              go_simp
              refine wpAny_done (by kernel_rfl) ?_ _
              have hlbi : (lb : Int) ≤ 8 := by omega
              obtain ⟨M, hM⟩ : ∃ M, M = m + lb + 1 := ⟨_, rfl⟩
              rw [← hM]
              have hMi : (m : Int) + 1 ≤ (M : Int) := by omega
              have hMm2 : decide ((M : Int) < (m : Int) + 1) = false := by simp; omega
              clear hM
              go_wp2
              go_loopw [11] (fun x11 wr => ∃ p : Nat, p ≤ m ∧ x11 = .int .i64 p ∧ Below w6.heap.size w6 wr) (fun x11 _ => m - (intOf x11).toNat)
              case atStart => exact ⟨0, by omega, rfl, Below.refl _ _⟩
              case round =>
                obtain ⟨p, hp, hx11, hbp⟩ := hrel
                subst hx11
                have HBP : Hid (Below w6.heap.size w6 wr) := hbp
                clear hbp
                by_cases hpm : p < m
                · have z1 := HC1.out wr p (H6.out.trans (HBP.out.mono H6.out.size)) (by omega)
                  have z2 := HC6.out wr p HBP.out hpm
                  obtain ⟨q, hq⟩ : ∃ q, q = boundAt L X p := ⟨_, rfl⟩
                  rw [← hq] at z1 z2
                  have hpi : (p : Int) < (m : Int) := by omega
                  have hpi1 : (p : Int) < (m : Int) + 1 := by omega
                  have hpM : (p : Int) < (M : Int) := by omega
                  have hp0 : (0 : Int) ≤ (p : Int) := by omega
                  have hqq : (q != q) = false := by simp
                  clear hq
                  go_wp2_with fail
                  go_quiet (fail)
                  go_wp2
                  go_roundw
                  case rel => exact ⟨p + 1, by omega, by go_num, below_drewN HBP.out _⟩
                  case measure => simp [intOf]; omega
                · have hpi : ¬ (p : Int) < (m : Int) := by omega
                  have HBE : Hid (Below w.heap.size w wr) := BW3.out.trans ((H6.out.trans (HBP.out.mono H6.out.size)).mono BW3.out.size)
                  go_wp2
                  go_ret
                  exact ⟨rfl, HBE.out⟩
            exact AllReady.nil
          exact AllReady.nil
        exact AllReady.nil
      exact AllReady.nil
end Go.Proofs.Ytjbhfonokgkalaa
