/- The walk of pieceOf: the states of an expression, by how deep it is. -/
import Derived.Test.YtjbhfonokgkalaaNfaD
import Derived.Deep.RegionWith
namespace Go.Proofs.Ytjbhfonokgkalaa
open Go.RowKit
set_option linter.unusedVariables false
set_option linter.unusedSimpArgs false

/-- Pieces as they lie in a row. -/
def flatP (ps : List (Nat × Nat)) : List Value := ps.flatMap fun p => [nI p.1, nI p.2]
theorem flatP_get : (ps : List (Nat × Nat)) → (i : Nat) → (hi : i < ps.length) → (flatP ps)[i * 2]? = some (nI ps[i].1) ∧ (flatP ps)[i * 2 + 1]? = some (nI ps[i].2)
  | [], i, hi => by simp at hi
  | p :: r, 0, _ => ⟨rfl, rfl⟩
  | p :: r, i + 1, hi => by
    have ih := flatP_get r i (by simpa using hi)
    show (nI p.1 :: nI p.2 :: flatP r)[(i + 1) * 2]? = _ ∧ (nI p.1 :: nI p.2 :: flatP r)[(i + 1) * 2 + 1]? = _
    rw [show (i + 1) * 2 = i * 2 + 1 + 1 by omega]
    simpa using ih
theorem flatP_snoc (ps : List (Nat × Nat)) (q : Nat × Nat) : flatP (ps ++ [q]) = flatP ps ++ [nI q.1, nI q.2] := by simp [flatP]
theorem own_prow {w : World} {B : Nat} {a : Option Addr} {n c : Nat} {ps : List (Nat × Nat)} (h : w.ownsRow B 68 2 (.slice a n c) n (flatP ps)) (hn : n = ps.length) : PRow w a ps := by
  intro hp
  rcases h.2 with ⟨hv, h0⟩ | ⟨g, cap, cur, hv, hb, hg, hnc, hm, hs, ht⟩
  · omega
  · cases hv
    refine ⟨g, 0, cur, (0, 0), rfl, hg, fun i hi => ?_⟩
    obtain ⟨h1, h2⟩ := flatP_get ps i hi
    rw [← ht, List.getElem?_take, if_pos (by omega)] at h1 h2
    simp only [Array.getElem?_toList] at h1 h2
    rw [Nat.zero_add]
    exact ⟨h1, h2⟩
theorem own_keep {B A : Nat} {w w' : World} {v : Value} {n : Nat} {xs : List Value} (h : w.ownsRow A 68 2 v n xs) (hs : MStep B w w') : w'.ownsRow A 68 2 v n xs := by
  refine ⟨h.1, ?_⟩
  rcases h.2 with hn | ⟨g, cap, cur, hv, hb, hg, rest⟩
  · exact .inl hn
  · exact .inr ⟨g, cap, cur, hv, hb, (hs.keep g cur _ _ hg (by decide) (by decide) (by decide)).trans hg, rest⟩
theorem MStep.grown {B : Nat} {w w1 w2 : World} {row : Option Nat} (h : MStep B w w1) (hg : w1.grownBy w2 row) (hB : B ≤ w.heap.size) (hr : ∀ k, row = some k → w.heap.size ≤ k) : MStep B w w2 := by
  refine ⟨h.below.grown hg (Nat.le_trans hB h.below.size) (fun k hk => Nat.le_trans hB (hr k hk)), fun k cs t fr hk t1 t2 t3 => ?_⟩
  have hk0 := (Array.getElem?_eq_some_iff.1 hk).1
  rw [hg.block k (by have := h.below.size; omega) (fun e => by have := hr k e.symm; omega), h.keep k cs t fr hk t1 t2 t3]
/-- An append to a row of pieces leaves a machine. -/
theorem MAt.grown {B U A n : Nat} {w w' : World} {bm : Nat} {l : List St} {st en : Nat} {v : Value} {xs : List Value} (h : MAt B U w bm l st en) (hv : w.ownsRow A 68 2 v n xs) (hg : w.grownBy w' v.ownBlock) : MAt B U w' bm l st en := by
  obtain ⟨h0, h1, h2, vv, h3, ys, cv, nv, h4⟩ := h
  refine ⟨h0, h1, Nat.le_trans h2 hg.size, vv, (hg.block bm (Array.getElem?_eq_some_iff.1 h3).1 (fun e => own_ne hv h3 (by decide) e.symm)).trans h3, ys, cv, nv, h4.kept hg (own_ne2 h4.1 hv (by decide)) (fun i hi => ?_)⟩
  obtain ⟨s, hs⟩ : ∃ s, l[i]? = some s := ⟨_, List.getElem?_eq_getElem hi⟩
  obtain ⟨_, _, _, a4, a5, _⟩ := h4.2 i s hs
  exact ⟨own_ne2 a4 hv (by decide), own_ne2 a5 hv (by decide)⟩
/-- What pieceOf leaves. -/
def PoPost (B : Nat) (n : Nd) (bm : Nat) (l : List St) (st en : Nat) (w : World) (e : Ending) (w' : World) : Prop :=
  e = .returned (.agg #[nI (n.piece l).2.1, nI (n.piece l).2.2]) ∧ MAt B w'.heap.size w' bm (n.piece l).1 st en ∧ MStep B w w'
def PoC (D : Nat) : Prop := ∀ (n : Nd) (ca pa : Option Addr) (cc pc U : Nat) (w0 w : World) (bm : Nat) (l : List St) (st en : Nat), InV w0.heap.size w0 D n [.int .i64 n.op, .slice ca n.cl.length cc, .slice pa (toL n.kids).length pc] → Below w0.heap.size w0 w → n.right → MAt w0.heap.size U w bm l st en → szS l + 9 * n.cnt ≤ 800000 →
  Calls Try.prog 49 #[.pointer (some ⟨bm, 0, none⟩), .agg #[.int .i64 n.op, .slice ca n.cl.length cc, .slice pa (toL n.kids).length pc]] w (PoPost w0.heap.size n bm l st en w)
/-- Where pieceOf's loop stands. -/
def PoAt (B H : Nat) (kl : List Nd) (op : Int) (ca pa : Option Addr) (cn cc K pc bm : Nat) (l : List St) (st en k : Nat) (v : Value) (w wr : World) : Prop :=
  wr.ownsRow (H + 2) 68 2 v k (flatP (piecesL (kl.take k) l).2) ∧ MAt B wr.heap.size wr bm (piecesL (kl.take k) l).1 st en ∧ MStep B w wr ∧
    wr.heap[H]? = some (.cells #[.int .i64 op, .slice ca cn cc, .slice pa K pc] 33) ∧ wr.heap[H + 1]? = some (.cells #[.int .i64 0, .int .i64 0] 68)
set_option maxHeartbeats 16000000 in
theorem po_up (D : Nat) (HP : PoC D) : PoC (D + 1) := by
  intro n ca pa cc pc U w0 w bm l st en hin hb0 hri hm hsz
  have HPC : Hid (PoC D) := HP
  have HIN : Hid (InV w0.heap.size w0 (D + 1) n [.int .i64 n.op, .slice ca n.cl.length cc, .slice pa (toL n.kids).length pc]) := hin
  obtain ⟨B, hB⟩ : ∃ B, B = w0.heap.size := ⟨_, rfl⟩
  obtain ⟨op, hop⟩ : ∃ op, op = n.op := ⟨_, rfl⟩
  obtain ⟨cn, hcn⟩ : ∃ cn, cn = n.cl.length := ⟨_, rfl⟩
  obtain ⟨kl, hkl⟩ : ∃ kl, kl = toL n.kids := ⟨_, rfl⟩
  obtain ⟨K, hK⟩ : ∃ K, K = kl.length := ⟨_, rfl⟩
  have hcnt := cnt_eq n
  rw [← hkl] at hcnt
  have hkc := cntL_len kl
  have HKR : Hid (∀ x, x ∈ kl → x.right) := by rw [hkl]; exact right_kid _ hri.2.2.1
  have HTK : Hid (∀ k, ∀ x, x ∈ kl.take k → x.right) := fun k x hx => HKR.out x (List.mem_of_mem_take hx)
  have HSZ : Hid (∀ k, k ≤ kl.length → szS (piecesL (kl.take k) l).1 + 2 * k ≤ 800000) := by
    intro k hk
    have h1 := sz_piecesL (kl.take k) (HTK.out k) l
    have h2 : (kl.take k).length = k := by simp; omega
    have h3 : cntL (kl.take k) ≤ cntL kl := by
      have ha : ∀ a b : List Nd, cntL (a ++ b) = cntL a + cntL b := fun a b => by simp [cntL]
      have : cntL kl = cntL (kl.take k) + cntL (kl.drop k) := by rw [← ha, List.take_append_drop]
      omega
    rw [h2] at h1
    omega
  have HCS : Hid (∀ k (hk : k < kl.length), szS (piecesL (kl.take k) l).1 + 9 * kl[k].cnt ≤ 800000) := by
    intro k hk
    have h1 := sz_piecesL (kl.take k) (HTK.out k) l
    have h3 := cntL_take kl k hk
    omega
  have hKi : (K : Int) ≤ 800000 := by omega
  obtain ⟨j0, ji, jz0, jz1, jz2⟩ := info_parts info_Pi
  have HJ : Hid (Try.prog.info? 68 = some j0 ∧ j0.zero = some (.agg #[.int .i64 0, .int .i64 0]) ∧ j0.size = 2 ∧ j0.bytes = 16) := ⟨ji, jz0, jz1, jz2⟩
  obtain ⟨CZ, hCZ⟩ : ∃ CZ, CZ = madeCells (Value.agg #[.int .i64 0, .int .i64 0]).cells (K * 2) := ⟨_, rfl⟩
  have hmk : ∀ W : World, (Instr.makeSlice 87 (.int .i64 0) (.int .i64 (K : Int))).run Try.prog W = .ok (.slice (some ⟨W.heap.size, 0, none⟩) 0 K) (W.alloc (.cells CZ 68)) := by
    intro W
    have := run_make (P := Try.prog) W 87 68 j0 _ Try.underlying87 ji jz0 .i64 .i64 0 (K : Int) (by omega) (by omega) (by rw [jz2]; omega) (by omega)
    rw [show ((K : Int)).toNat = K by omega, jz1, ← hCZ] at this
    exact this
  obtain ⟨H, hH⟩ : ∃ H, H = w.heap.size := ⟨_, rfl⟩
  obtain ⟨W1, hW1⟩ : ∃ W1, W1 = (w.alloc (.cells #[.int .i64 op, .slice ca cn cc, .slice pa K pc] 33)).alloc (.cells #[.int .i64 0, .int .i64 0] 68) := ⟨_, rfl⟩
  have hz1 : W1.heap.size = H + 2 := by rw [hW1, hH]; simp
  obtain ⟨W0, hW0⟩ : ∃ W0, W0 = W1.alloc (.cells CZ 68) := ⟨_, rfl⟩
  have HB1 : Hid (Below w.heap.size w W1) := by rw [hW1]; exact ((Below.refl _ w).alloc (Nat.le_refl _) _).alloc (by simp) _
  have HB0 : Hid (Below w.heap.size w W0) := by rw [hW0]; exact HB1.out.alloc HB1.out.size _
  have hax1 : W1.heap[H]? = some (.cells #[.int .i64 op, .slice ca cn cc, .slice pa K pc] 33) := by
    rw [hW1, hH]
    exact (((Below.refl _ (w.alloc _)).alloc (Nat.le_refl _) _).block w.heap.size (by simp)).trans (heap_alloc_new w _)
  have hbx1 : W1.heap[H + 1]? = some (.cells #[.int .i64 0, .int .i64 0] 68) := by
    have := heap_alloc_new (w.alloc (.cells #[.int .i64 op, .slice ca cn cc, .slice pa K pc] 33)) (.cells #[.int .i64 0, .int .i64 0] 68)
    rw [show (w.alloc (.cells #[.int .i64 op, .slice ca cn cc, .slice pa K pc] 33)).heap.size = w.heap.size + 1 by simp] at this
    rw [hW1, hH]
    exact this
  have hup : ∀ b, b < H + 2 → W0.heap[b]? = W1.heap[b]? := fun b hb => by rw [hW0]; exact ((Below.refl _ W1).alloc (Nat.le_refl _) _).block b (by omega)
  have HST : Hid (PoAt B H kl op ca pa cn cc K pc bm l st en 0 (.slice (some ⟨H + 2, 0, none⟩) 0 K) w W0) := by
    rw [hB]
    refine ⟨?_, ?_, MStep.of_below HB0.out hm.base, (hup H (by omega)).trans hax1, (hup (H + 1) (by omega)).trans hbx1⟩
    · have h1 := World.ownsRow_made (base := H + 2) (e := 68) (size := 2) W1 CZ K (by omega) (by unfold maxLen; omega) (by rw [hCZ, size_madeCells])
      rw [hz1, ← hW0] at h1
      exact h1
    · exact (hm.later HB0.out).up (Nat.le_trans hm.2.2.1 HB0.out.size) (Nat.le_refl _)
  have e2 : W1.cell? ⟨H, 2, none⟩ = some (.slice pa K pc) := cell_of_row W1 H 2 _ _ _ hax1
  have d2 : W0.cell? ⟨H, 2, none⟩ = some (.slice pa K pc) := cell_of_row W0 H 2 _ _ _ ((hup H (by omega)).trans hax1)
  have HHB : Hid (H = w.heap.size ∧ B ≤ w.heap.size ∧ B = w0.heap.size ∧ Below w0.heap.size w0 w) := ⟨hH, by rw [hB]; exact hm.base, hB, hb0⟩
  have HKL : Hid (kl = toL n.kids ∧ K = kl.length ∧ op = n.op ∧ cn = n.cl.length) := ⟨hkl, hK, hop, hcn⟩
  have HRI : Hid (n.right) := hri
  rw [← hB, ← hop, ← hcn, ← hkl, ← hK]
  clear HP hin hb0 hri hm hsz hcnt hkc ji jz0 jz1 jz2 hCZ hax1 hbx1 hup hop hcn hkl hK hB
  go_enter Try.func49, Try.ntmps49
  go_upto_region 1 with fail
  rw [← hH, ← hW1]
  clear hW1 hH
  go_upto_region 2 with fail
  rw [← hW0]
  clear hW0 hz1
  go_wp2
  go_loopw [5, 15] (fun x5 x15 wr => ∃ k : Nat, k ≤ K ∧ x15 = .int .i64 k ∧ PoAt B H kl op ca pa cn cc K pc bm l st en k x5 w wr) (fun _ x15 _ => K - (intOf x15).toNat)
  case atStart => exact ⟨0, by omega, rfl, HST.out⟩
  case round =>
    obtain ⟨k, hk, hx15, hat⟩ := hrel
    subst hx15
    have HAT := hat
    obtain ⟨ho, hmm, hss, hx0, hx1⟩ := hat
    obtain ⟨av, cv, rfl⟩ := own_sl1 ho
    have HO : Hid (wr.ownsRow (H + 2) 68 2 (.slice av k cv) k (flatP (piecesL (kl.take k) l).2)) := ho
    have HM : Hid (MAt B wr.heap.size wr bm (piecesL (kl.take k) l).1 st en) := hmm
    have HS : Hid (MStep B w wr) := hss
    have HX0 : Hid (wr.heap[H]? = some (.cells #[.int .i64 op, .slice ca cn cc, .slice pa K pc] 33)) := hx0
    have HX1 : Hid (wr.heap[H + 1]? = some (.cells #[.int .i64 0, .int .i64 0] 68)) := hx1
    clear HAT ho hmm hss hx0 hx1
    have HW0 : Hid (Below w0.heap.size w0 wr) := by
      obtain ⟨_, _, q3, q4⟩ := HHB.out
      have := HS.out.below
      rw [q3] at this
      exact q4.trans this
    by_cases hlt : k < K
    · have hkn : k < kl.length := by rw [← HKL.out.2.1]; exact hlt
      have hkn' : k < (toL n.kids).length := by rw [← HKL.out.1]; exact hkn
      obtain ⟨b, off, xa, xc, ya, yc, d', hpa, hkid, hd', c0', c1', c2'⟩ := HIN.out.kid k hkn'
      obtain rfl : d' = D := by omega
      subst hpa
      obtain ⟨x, hx⟩ : ∃ x, x = (toL n.kids)[k] := ⟨_, rfl⟩
      have hxk : x = kl[k] := by rw [hx]; simp only [HKL.out.1]
      rw [← hx] at hkid c0' c1' c2'
      have c0 := upC HW0.out c0'
      have c1 := upC HW0.out c1'
      have c2 := upC HW0.out c2'
      obtain ⟨xo, hxo⟩ : ∃ xo, xo = x.op := ⟨_, rfl⟩
      obtain ⟨xn, hxn⟩ : ∃ xn, xn = x.cl.length := ⟨_, rfl⟩
      obtain ⟨xk, hxk2⟩ : ∃ xk, xk = (toL x.kids).length := ⟨_, rfl⟩
      obtain ⟨W1, hW1⟩ : ∃ W1, W1 = wr.alloc (.cells #[.int .i64 xo, .slice xa xn xc, .slice ya xk yc] 33) := ⟨_, rfl⟩
      have HBW : Hid (Below wr.heap.size wr W1) := by rw [hW1]; exact (Below.refl _ wr).alloc (Nat.le_refl _) _
      have HC : Hid (Calls Try.prog 49 #[.pointer (some ⟨bm, 0, none⟩), .agg #[.int .i64 xo, .slice xa xn xc, .slice ya xk yc]] W1 (PoPost B x bm (piecesL (kl.take k) l).1 st en W1)) := by
        have q3 := HHB.out.2.2.1
        have h1 := HM.out.later HBW.out
        rw [q3] at h1
        rw [hxo, hxn, hxk2, q3]
        refine HPC.out x xa ya xc yc _ w0 W1 bm _ st en hkid (HW0.out.trans (HBW.out.mono HW0.out.size)) (HKR.out x (by rw [hxk]; exact List.getElem_mem hkn)) h1 ?_
        rw [hxk]
        exact HCS.out k hkn
      have HNX : Hid (piecesL (kl.take (k + 1)) l = ((x.piece (piecesL (kl.take k) l).1).1, (piecesL (kl.take k) l).2 ++ [(x.piece (piecesL (kl.take k) l).1).2])) := by
        show _ = _
        rw [take_snoc kl k hkn, ← hxk, piecesL_snoc]
      rw [← hxo] at c0
      rw [← hxn] at c1
      rw [← hxk2] at c2
      clear hkid c0' c1' c2' hxo hxn hxk2 hx hxk
      go_wp2_with fail
      rw [← hW1]
      clear hW1 c0 c1 c2
      refine HC.out.mono ?_
      rintro e w2 ⟨rfl, hm2, hs2⟩
      obtain ⟨p1, hp1⟩ : ∃ p1, p1 = (x.piece (piecesL (kl.take k) l).1).2.1 := ⟨_, rfl⟩
      obtain ⟨p2, hp2⟩ : ∃ p2, p2 = (x.piece (piecesL (kl.take k) l).1).2.2 := ⟨_, rfl⟩
      rw [← hp1, ← hp2]
      have hs02 := HS.out.trans ((MStep.of_below HBW.out HM.out.base).trans hs2)
      have ho2 := own_keep HO.out ((MStep.of_below HBW.out HM.out.base).trans hs2)
      have HO2 : Hid (w2.ownsRow (H + 2) 68 2 (.slice av k cv) k (flatP (piecesL (kl.take k) l).2)) := ho2
      have HX02 : Hid (w2.heap[H]? = some (.cells #[.int .i64 op, .slice ca cn cc, .slice (some ⟨b, off, none⟩) K pc] 33)) := (((MStep.of_below HBW.out HM.out.base).trans hs2).keep H _ _ _ HX0.out (by decide) (by decide) (by decide)).trans HX0.out
      have HX12 : Hid (w2.heap[H + 1]? = some (.cells #[.int .i64 0, .int .i64 0] 68)) := (((MStep.of_below HBW.out HM.out.base).trans hs2).keep (H + 1) _ _ _ HX1.out (by decide) (by decide) (by decide)).trans HX1.out
      have HFIN : Hid (∀ (g cap : Nat) (w4 : World), w4.ownsRow (H + 2) 68 2 (.slice (some ⟨g, 0, none⟩) (k + 1) cap) (k + 1) (flatP (piecesL (kl.take k) l).2 ++ [nI p1, nI p2]) → (w2.alloc (.cells #[nI p1, nI p2] 68)).grownBy w4 (Value.slice av k cv).ownBlock →
          PoAt B H kl op ca (some ⟨b, off, none⟩) cn cc K pc bm l st en (k + 1) (.slice (some ⟨g, 0, none⟩) (k + 1) cap) w w4) := by
        intro g cap w4 q1 q2
        have hbz : Below w2.heap.size w2 (w2.alloc (.cells #[nI p1, nI p2] 68)) := (Below.refl _ w2).alloc (Nat.le_refl _) _
        have hoz := own_later5 HO2.out hbz
        have hblk : ∀ y, (Value.slice av k cv).ownBlock = some y → H + 2 ≤ y := fun y hy => (hoz.lt y hy).1
        have hsw := (hs02.trans (MStep.of_below hbz hm2.base)).grown q2 HHB.out.2.1 (fun y hy => by have := hblk y hy; have := HHB.out.1; omega)
        refine ⟨?_, ?_, hsw, ?_, ?_⟩
        · rw [HNX.out, flatP_snoc, ← hp1, ← hp2]; exact q1
        · rw [HNX.out]
          exact ((hm2.later hbz).grown hoz q2).up (Nat.le_trans hbz.size q2.size) (Nat.le_refl _)
        · have h1 := (hbz.block H (Array.getElem?_eq_some_iff.1 HX02.out).1).trans HX02.out
          exact (q2.block H (Array.getElem?_eq_some_iff.1 h1).1 (fun e => by have := hblk H e.symm; omega)).trans h1
        · have h1 := (hbz.block (H + 1) (Array.getElem?_eq_some_iff.1 HX12.out).1).trans HX12.out
          exact (q2.block (H + 1) (Array.getElem?_eq_some_iff.1 h1).1 (fun e => by have := hblk (H + 1) e.symm; omega)).trans h1
      have HHS : Hid (H + 2 ≤ w2.heap.size) := by
        have := (Array.getElem?_eq_some_iff.1 HX12.out).1
        show _ ≤ _
        omega
      clear hm2 hs2 hs02 ho2 hp1 hp2 HC HNX
      unfold nI at HFIN ⊢
      go_wp2_with (at_builtin; refine wpList_append_lies _ rfl _ _ 87 rfl (H + 2) 68 j0 _ 2 16 Try.underlying87 HJ.out.1 HJ.out.2.1 HJ.out.2.2.1 HJ.out.2.2.2 rfl (by decide) (.slice av k cv) k (flatP (piecesL (kl.take k) l).2) rfl (own_later5 HO2.out ((Below.refl _ w2).alloc (Nat.le_refl _) _)) ⟨w2.heap.size, 0, none⟩ 1 1 [.int .i64 (p1 : Int), .int .i64 (p2 : Int)] rfl rfl (World.news_of_block (cs := #[.int .i64 (p1 : Int), .int .i64 (p2 : Int)]) (t := 68) (fr := (0, 0)) (heap_alloc_new w2 _)) (by simp [Value.oneCell']) (by omega) (by unfold maxLen; omega) (by omega) (by have := HHS.out; simp; omega) _ rfl (fun g cap w4 q1 q2 q3 q4 => ?_); have HF : Hid (PoAt B H kl op ca (some ⟨b, off, none⟩) cn cc K pc bm l st en (k + 1) (.slice (some ⟨g, 0, none⟩) (k + 1) cap) w w4) := HFIN.out g cap w4 q1 q2; clear q1 q2 q3 q4)
      go_roundw
      case rel => exact ⟨k + 1, by omega, by go_num, HF.out⟩
      case measure => simp [intOf]; omega
    · obtain rfl : k = K := by omega
      have htk : kl.take k = kl := List.take_of_length_le (by rw [← HKL.out.2.1]; exact Nat.le_refl _)
      have hstr := piecesL_struct kl HKR.out l
      have hsz := HSZ.out k (by rw [← HKL.out.2.1]; exact Nat.le_refl _)
      rw [htk] at HO HM hsz
      obtain ⟨PS, hPS⟩ : ∃ PS, PS = (piecesL kl l).2 := ⟨_, rfl⟩
      obtain ⟨L1, hL1⟩ : ∃ L1, L1 = (piecesL kl l).1 := ⟨_, rfl⟩
      have HPI : Hid (n.piece l = nodeP op n.cl PS L1) := by
        show _ = _
        rw [piece_eq, ← HKL.out.1, ← hPS, ← hL1, HKL.out.2.2.1]
      rw [← hPS] at HO hstr
      rw [← hL1] at HM hsz hstr
      have hpl : PS.length = k := by rw [hstr.2.2, ← HKL.out.2.1]
      have HPR : Hid (PRow wr av PS) := own_prow HO.out hpl.symm
      have HPN : Hid (PS.length = k ∧ (∀ p, p ∈ PS → p.2 < L1.length) ∧ szS L1 + 2 * k ≤ 800000 ∧ (op = 4 ∨ op = 5 → k = 1)) := ⟨hpl, fun p hp => (hstr.2.1.1 p hp).2.2.2, hsz, fun h => by
        rw [HKL.out.2.2.1] at h
        have := HRI.out.1 h
        rw [HKL.out.2.1, HKL.out.1]
        exact this⟩
      have f0 : wr.cell? ⟨H, 0, none⟩ = some (.int .i64 op) := cell_of_row wr H 0 _ _ _ HX0.out
      have f1 : wr.cell? ⟨H, 1, none⟩ = some (.slice ca cn cc) := cell_of_row wr H 1 _ _ _ HX0.out
      have HPUT : Hid (∀ (V : World) (M : List St) (x y : Value), MAt B V.heap.size V bm M st en → MStep B wr V → (V.cell? ⟨H + 1, 0, none⟩ = some (.int .i64 0) ∧ V.cell? ⟨H + 1, 1, none⟩ = some (.int .i64 0) ∧ V.frozen? ⟨H + 1, 0, none⟩ = false ∧ V.frozen? ⟨H + 1, 1, none⟩ = false) ∧ MAt B ((V.setCell ⟨H + 1, 0, none⟩ x).setCell ⟨H + 1, 1, none⟩ y).heap.size ((V.setCell ⟨H + 1, 0, none⟩ x).setCell ⟨H + 1, 1, none⟩ y) bm M st en ∧ MStep B w ((V.setCell ⟨H + 1, 0, none⟩ x).setCell ⟨H + 1, 1, none⟩ y)) := by
        intro V M x y hV hs
        have hb := (hs.keep (H + 1) _ _ _ HX1.out (by decide) (by decide) (by decide)).trans HX1.out
        exact ⟨⟨cell_of_row V (H + 1) 0 _ _ _ hb, cell_of_row V (H + 1) 1 _ _ _ hb, Lib.frozen_of_heap hb 0, Lib.frozen_of_heap hb 1⟩, put_piece hV (HS.out.trans hs) HHB.out.2.1 (by have := HHB.out.1; omega) hb⟩
      clear hstr hsz hPS hL1 hpl htk
      by_cases o1 : op = 1
      · subst o1
        have hpe : n.piece l = (leads (L1 ++ [⟨true, n.cl, []⟩, st0]) [(L1.length, L1.length + 1)], (L1.length, L1.length + 1)) := by rw [HPI.out]; simp [nodeP]
        have HC : Hid (Calls Try.prog 63 #[.pointer (some ⟨bm, 0, none⟩), .slice ca cn cc] wr fun e w' => e = .returned (.agg #[nI (n.piece l).2.1, nI (n.piece l).2.2]) ∧ MAt B w'.heap.size w' bm (n.piece l).1 st en ∧ MStep B wr w') := by
          rw [hpe, HKL.out.2.2.2]
          exact reader_any B wr.heap.size wr bm L1 st en n.cl ca cc HM.out (HIN.out.classes.1.later HW0.out) HIN.out.nilc HRI.out.2.1.2 (by have := HPN.out.2.2.1; omega)
        clear hpe
        obtain ⟨p1, hp1⟩ : ∃ p1, p1 = (n.piece l).2.1 := ⟨_, rfl⟩
        obtain ⟨p2, hp2⟩ : ∃ p2, p2 = (n.piece l).2.2 := ⟨_, rfl⟩
        rw [← hp1, ← hp2] at HC
        have HPP : Hid (p1 = (n.piece l).2.1 ∧ p2 = (n.piece l).2.2) := ⟨hp1, hp2⟩
        clear hp1 hp2
        go_wp2_with fail
        refine HC.out.mono ?_
        rintro e w4 ⟨rfl, hm4, hs4⟩
        obtain ⟨⟨k0, k1, k2, k3⟩, hf⟩ := HPUT.out w4 _ (.int .i64 (p1 : Int)) (.int .i64 (p2 : Int)) hm4 hs4
        have HF : Hid (MAt B ((w4.setCell ⟨H + 1, 0, none⟩ (.int .i64 (p1 : Int))).setCell ⟨H + 1, 1, none⟩ (.int .i64 (p2 : Int))).heap.size ((w4.setCell ⟨H + 1, 0, none⟩ (.int .i64 (p1 : Int))).setCell ⟨H + 1, 1, none⟩ (.int .i64 (p2 : Int))) bm (n.piece l).1 st en ∧ MStep B w ((w4.setCell ⟨H + 1, 0, none⟩ (.int .i64 (p1 : Int))).setCell ⟨H + 1, 1, none⟩ (.int .i64 (p2 : Int)))) := hf
        clear hf hm4 hs4 HC
        unfold nI
        go_wp2
        refine bodyPost_ret (v := .agg #[.int .i64 (p1 : Int), .int .i64 (p2 : Int)]) ?_ rfl ⟨by rw [← HPP.out.1, ← HPP.out.2]; rfl, HF.out⟩
        rw [results_cell_one rfl]
        go_simp
      by_cases o3 : op = 3
      · subst o3
        have hpe : n.piece l = (leads (L1 ++ [st0, st0]) (forkEs L1.length (L1.length + 1) PS), (L1.length, L1.length + 1)) := by rw [HPI.out]; simp [nodeP]
        have HC : Hid (Calls Try.prog 64 #[.pointer (some ⟨bm, 0, none⟩), .slice av k cv] wr fun e w' => e = .returned (.agg #[nI (n.piece l).2.1, nI (n.piece l).2.2]) ∧ MAt B w'.heap.size w' bm (n.piece l).1 st en ∧ MStep B wr w') := by
          have h1 := fork_any B wr.heap.size wr bm L1 st en av cv PS HM.out HPR.out HPN.out.2.1 (by have := HPN.out; omega)
          rw [HPN.out.1] at h1
          rw [hpe]
          exact h1
        clear hpe
        obtain ⟨p1, hp1⟩ : ∃ p1, p1 = (n.piece l).2.1 := ⟨_, rfl⟩
        obtain ⟨p2, hp2⟩ : ∃ p2, p2 = (n.piece l).2.2 := ⟨_, rfl⟩
        rw [← hp1, ← hp2] at HC
        have HPP : Hid (p1 = (n.piece l).2.1 ∧ p2 = (n.piece l).2.2) := ⟨hp1, hp2⟩
        clear hp1 hp2 o1
        go_wp2_with fail
        refine HC.out.mono ?_
        rintro e w4 ⟨rfl, hm4, hs4⟩
        obtain ⟨⟨k0, k1, k2, k3⟩, hf⟩ := HPUT.out w4 _ (.int .i64 (p1 : Int)) (.int .i64 (p2 : Int)) hm4 hs4
        have HF : Hid (MAt B ((w4.setCell ⟨H + 1, 0, none⟩ (.int .i64 (p1 : Int))).setCell ⟨H + 1, 1, none⟩ (.int .i64 (p2 : Int))).heap.size ((w4.setCell ⟨H + 1, 0, none⟩ (.int .i64 (p1 : Int))).setCell ⟨H + 1, 1, none⟩ (.int .i64 (p2 : Int))) bm (n.piece l).1 st en ∧ MStep B w ((w4.setCell ⟨H + 1, 0, none⟩ (.int .i64 (p1 : Int))).setCell ⟨H + 1, 1, none⟩ (.int .i64 (p2 : Int)))) := hf
        clear hf hm4 hs4 HC
        unfold nI
        go_wp2
        refine bodyPost_ret (v := .agg #[.int .i64 (p1 : Int), .int .i64 (p2 : Int)]) ?_ rfl ⟨by rw [← HPP.out.1, ← HPP.out.2]; rfl, HF.out⟩
        rw [results_cell_one rfl]
        go_simp
      by_cases o4 : op = 4
      · subst o4
        have hk1 : k = 1 := HPN.out.2.2.2 (.inl rfl)
        obtain ⟨q, hq⟩ := one_of (HPN.out.1.trans hk1)
        have hpe : n.piece l = (leads (L1 ++ [st0]) [(L1.length, q.1), (q.2, L1.length)], (L1.length, L1.length)) := by rw [HPI.out, hq]; simp [nodeP]
        have HC : Hid (Calls Try.prog 65 #[.pointer (some ⟨bm, 0, none⟩), .agg #[nI q.1, nI q.2]] wr fun e w' => e = .returned (.agg #[nI (n.piece l).2.1, nI (n.piece l).2.2]) ∧ MAt B w'.heap.size w' bm (n.piece l).1 st en ∧ MStep B wr w') := by
          rw [hpe]
          exact loop_any B wr.heap.size wr bm L1 st en q.1 q.2 HM.out (HPN.out.2.1 q (by rw [hq]; simp)) (by have := HPN.out; omega)
        clear hpe
        obtain ⟨gb, goff, hav, g0, g1⟩ := HPR.out.at 0 (by rw [HPN.out.1, hk1]; omega)
        subst hav
        simp only [hq, List.getElem_cons_zero, Nat.zero_mul, Nat.add_zero] at g0 g1
        obtain ⟨q1, hq1⟩ : ∃ q1, q1 = q.1 := ⟨_, rfl⟩
        obtain ⟨q2, hq2⟩ : ∃ q2, q2 = q.2 := ⟨_, rfl⟩
        rw [← hq1] at g0 HC
        rw [← hq2] at g1 HC
        obtain ⟨p1, hp1⟩ : ∃ p1, p1 = (n.piece l).2.1 := ⟨_, rfl⟩
        obtain ⟨p2, hp2⟩ : ∃ p2, p2 = (n.piece l).2.2 := ⟨_, rfl⟩
        rw [← hp1, ← hp2] at HC
        have HPP : Hid (p1 = (n.piece l).2.1 ∧ p2 = (n.piece l).2.2) := ⟨hp1, hp2⟩
        unfold nI at g0 g1 HC
        have hk0 : (0 : Int) < (k : Int) := by omega
        clear hp1 hp2 o1 o3 hq hq1 hq2 hk1
        go_wp2_with fail
        refine HC.out.mono ?_
        rintro e w4 ⟨rfl, hm4, hs4⟩
        obtain ⟨⟨k0, k1, k2, k3⟩, hf⟩ := HPUT.out w4 _ (.int .i64 (p1 : Int)) (.int .i64 (p2 : Int)) hm4 hs4
        have HF : Hid (MAt B ((w4.setCell ⟨H + 1, 0, none⟩ (.int .i64 (p1 : Int))).setCell ⟨H + 1, 1, none⟩ (.int .i64 (p2 : Int))).heap.size ((w4.setCell ⟨H + 1, 0, none⟩ (.int .i64 (p1 : Int))).setCell ⟨H + 1, 1, none⟩ (.int .i64 (p2 : Int))) bm (n.piece l).1 st en ∧ MStep B w ((w4.setCell ⟨H + 1, 0, none⟩ (.int .i64 (p1 : Int))).setCell ⟨H + 1, 1, none⟩ (.int .i64 (p2 : Int)))) := hf
        clear hf hm4 hs4 HC g0 g1
        go_wp2
        refine bodyPost_ret (v := .agg #[.int .i64 (p1 : Int), .int .i64 (p2 : Int)]) ?_ rfl ⟨by rw [← HPP.out.1, ← HPP.out.2]; rfl, HF.out⟩
        rw [results_cell_one rfl]
        go_simp
      by_cases o5 : op = 5
      · subst o5
        have hk1 : k = 1 := HPN.out.2.2.2 (.inr rfl)
        obtain ⟨q, hq⟩ := one_of (HPN.out.1.trans hk1)
        obtain ⟨N, hN⟩ : ∃ N, N = L1.length := ⟨_, rfl⟩
        have hpe : n.piece l = (leads ((L1 ++ [st0]) ++ [st0, st0]) (forkEs (L1 ++ [st0]).length ((L1 ++ [st0]).length + 1) [q, (N, N)]), ((L1 ++ [st0]).length, (L1 ++ [st0]).length + 1)) := by rw [HPI.out, hq, hN]; simp [nodeP]
        have hs1 : szS (L1 ++ [st0]) = szS L1 + 1 := by rw [szS_append]; rfl
        have HRW : Hid (∀ V : World, Below wr.heap.size wr V → Calls Try.prog 66 #[.pointer (some ⟨bm, 0, none⟩), .slice none 0 0] V fun e w' => e = .returned (.agg #[nI N, nI N]) ∧ MAt B w'.heap.size w' bm (L1 ++ [st0]) st en ∧ MStep B wr w') := by
          intro V hV
          refine (row_any B wr.heap.size V bm L1 st en none 0 [] (HM.out.later hV) (fun h => by simp at h) (fun p hp => by simp at hp) (by have := HPN.out; simp; omega)).mono ?_
          rintro e w' ⟨rfl, h1, h2⟩
          exact ⟨by rw [hN]; rfl, h1, (MStep.of_below hV HM.out.base).trans h2⟩
        have HFK : Hid (∀ V : World, MAt B V.heap.size V bm (L1 ++ [st0]) st en → Calls Try.prog 64 #[.pointer (some ⟨bm, 0, none⟩), .slice (some ⟨V.heap.size, 0, none⟩) 2 2] (V.alloc (.cells #[nI q.1, nI q.2, nI N, nI N] 68)) fun e w' => e = .returned (.agg #[nI (n.piece l).2.1, nI (n.piece l).2.2]) ∧ MAt B w'.heap.size w' bm (n.piece l).1 st en ∧ MStep B V w') := by
          intro V hV
          have hbz : Below V.heap.size V (V.alloc (.cells #[nI q.1, nI q.2, nI N, nI N] 68)) := (Below.refl _ V).alloc (Nat.le_refl _) _
          rw [hpe]
          refine (fork_any B V.heap.size _ bm (L1 ++ [st0]) st en (some ⟨V.heap.size, 0, none⟩) 2 [q, (N, N)] (hV.later hbz) (fun _ => ⟨V.heap.size, 0, _, _, rfl, heap_alloc_new V _, fun i hi => ?_⟩) (fun p hp => ?_) (by have := HPN.out; simp; omega)).mono ?_
          · match i, hi with
            | 0, _ => exact ⟨rfl, rfl⟩
            | 1, _ => exact ⟨rfl, rfl⟩
          · simp at hp
            rcases hp with rfl | rfl
            · have := HPN.out.2.1 p (by rw [hq]; simp)
              simp
              omega
            · simp [hN]
          · rintro e w' ⟨rfl, h1, h2⟩
            exact ⟨rfl, h1, (MStep.of_below hbz hV.base).trans h2⟩
        clear hpe
        have HGG : Hid (∃ gb goff, av = some ⟨gb, goff, none⟩ ∧ ∀ V : World, MStep B wr V → V.cell? ⟨gb, goff, none⟩ = some (nI q.1) ∧ V.cell? ⟨gb, goff + 1, none⟩ = some (nI q.2)) := by
          obtain ⟨gb, goff, hav, _, _⟩ := HPR.out.at 0 (by rw [HPN.out.1, hk1]; omega)
          refine ⟨gb, goff, hav, fun V hV => ?_⟩
          obtain ⟨gb', goff', hav', g0, g1⟩ := (HPR.out.keep hV).at 0 (by rw [HPN.out.1, hk1]; omega)
          rw [hav] at hav'
          cases hav'
          simp only [hq, List.getElem_cons_zero, Nat.zero_mul, Nat.add_zero] at g0 g1
          exact ⟨g0, g1⟩
        obtain ⟨q1, hq1⟩ : ∃ q1, q1 = q.1 := ⟨_, rfl⟩
        obtain ⟨q2, hq2⟩ : ∃ q2, q2 = q.2 := ⟨_, rfl⟩
        rw [← hq1, ← hq2] at HGG HFK
        obtain ⟨gb, goff, hav, HGC0⟩ := HGG.out
        subst hav
        have HGC : Hid (∀ V : World, MStep B wr V → V.cell? ⟨gb, goff, none⟩ = some (nI q1) ∧ V.cell? ⟨gb, goff + 1, none⟩ = some (nI q2)) := HGC0
        obtain ⟨p1, hp1⟩ : ∃ p1, p1 = (n.piece l).2.1 := ⟨_, rfl⟩
        obtain ⟨p2, hp2⟩ : ∃ p2, p2 = (n.piece l).2.2 := ⟨_, rfl⟩
        rw [← hp1, ← hp2] at HFK
        have HPP : Hid (p1 = (n.piece l).2.1 ∧ p2 = (n.piece l).2.2) := ⟨hp1, hp2⟩
        unfold nI at HGC HFK HRW
        have hk0 : (0 : Int) < (k : Int) := by omega
        obtain ⟨g0, g1⟩ := HGC.out wr (MStep.of_below (Below.refl _ _) HM.out.base)
        clear hp1 hp2 o1 o3 o4 hq hq1 hq2 hk1 HGC0 hN hs1 HGG
        go_wp2_with fail
        go_region_with (first
          | (go_at_call 66; refine (HRW.out _ (Below.refl _ _).drew).mono ?_; rintro e w5 ⟨rfl, hm5, hs5⟩; have HM5 : Hid (MAt B w5.heap.size w5 bm (L1 ++ [st0]) st en) := hm5; have HS5 : Hid (MStep B wr w5) := hs5; have gg := HGC.out w5 hs5; have g05 := gg.1; have g15 := gg.2; clear hm5 hs5 gg)
          | (go_at_call 64; refine (HFK.out _ HM5.out).mono ?_; rintro e w6 ⟨rfl, hm6, hs6⟩; have hpp := HPUT.out w6 _ (.int .i64 (p1 : Int)) (.int .i64 (p2 : Int)) hm6 (HS5.out.trans hs6); have k0 := hpp.1.1; have k1 := hpp.1.2.1; have k2 := hpp.1.2.2.1; have k3 := hpp.1.2.2.2; have HF : Hid (MAt B ((w6.setCell ⟨H + 1, 0, none⟩ (.int .i64 (p1 : Int))).setCell ⟨H + 1, 1, none⟩ (.int .i64 (p2 : Int))).heap.size ((w6.setCell ⟨H + 1, 0, none⟩ (.int .i64 (p1 : Int))).setCell ⟨H + 1, 1, none⟩ (.int .i64 (p2 : Int))) bm (n.piece l).1 st en ∧ MStep B w ((w6.setCell ⟨H + 1, 0, none⟩ (.int .i64 (p1 : Int))).setCell ⟨H + 1, 1, none⟩ (.int .i64 (p2 : Int)))) := hpp.2; clear hpp hm6 hs6))
        all_goals
          go_wp2
          refine bodyPost_ret (v := .agg #[.int .i64 (p1 : Int), .int .i64 (p2 : Int)]) ?_ rfl ⟨by rw [← HPP.out.1, ← HPP.out.2]; rfl, HF.out⟩
          rw [results_cell_one rfl]
          go_simp
      · have hpe : n.piece l = (leads (L1 ++ [st0]) (rowEs L1.length PS), (L1.length, rowEnd L1.length PS)) := by rw [HPI.out]; simp [nodeP, o1, o3, o4, o5]
        have HC : Hid (Calls Try.prog 66 #[.pointer (some ⟨bm, 0, none⟩), .slice av k cv] wr fun e w' => e = .returned (.agg #[nI (n.piece l).2.1, nI (n.piece l).2.2]) ∧ MAt B w'.heap.size w' bm (n.piece l).1 st en ∧ MStep B wr w') := by
          have h1 := row_any B wr.heap.size wr bm L1 st en av cv PS HM.out HPR.out HPN.out.2.1 (by have := HPN.out; omega)
          rw [HPN.out.1] at h1
          rw [hpe]
          exact h1
        clear hpe
        obtain ⟨p1, hp1⟩ : ∃ p1, p1 = (n.piece l).2.1 := ⟨_, rfl⟩
        obtain ⟨p2, hp2⟩ : ∃ p2, p2 = (n.piece l).2.2 := ⟨_, rfl⟩
        rw [← hp1, ← hp2] at HC
        have HPP : Hid (p1 = (n.piece l).2.1 ∧ p2 = (n.piece l).2.2) := ⟨hp1, hp2⟩
        clear hp1 hp2
        go_wp2_with fail
        refine HC.out.mono ?_
        rintro e w4 ⟨rfl, hm4, hs4⟩
        obtain ⟨⟨k0, k1, k2, k3⟩, hf⟩ := HPUT.out w4 _ (.int .i64 (p1 : Int)) (.int .i64 (p2 : Int)) hm4 hs4
        have HF : Hid (MAt B ((w4.setCell ⟨H + 1, 0, none⟩ (.int .i64 (p1 : Int))).setCell ⟨H + 1, 1, none⟩ (.int .i64 (p2 : Int))).heap.size ((w4.setCell ⟨H + 1, 0, none⟩ (.int .i64 (p1 : Int))).setCell ⟨H + 1, 1, none⟩ (.int .i64 (p2 : Int))) bm (n.piece l).1 st en ∧ MStep B w ((w4.setCell ⟨H + 1, 0, none⟩ (.int .i64 (p1 : Int))).setCell ⟨H + 1, 1, none⟩ (.int .i64 (p2 : Int)))) := hf
        clear hf hm4 hs4 HC
        unfold nI
        go_wp2
        refine bodyPost_ret (v := .agg #[.int .i64 (p1 : Int), .int .i64 (p2 : Int)]) ?_ rfl ⟨by rw [← HPP.out.1, ← HPP.out.2]; rfl, HF.out⟩
        rw [results_cell_one rfl]
        go_simp
end Go.Proofs.Ytjbhfonokgkalaa
