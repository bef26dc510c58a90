/- The walks of reader, row, fork and loop: pieces put together. -/
import Derived.Test.YtjbhfonokgkalaaNfaB
namespace Go.Proofs.Ytjbhfonokgkalaa
open Go.RowKit
set_option linter.unusedVariables false
set_option linter.unusedSimpArgs false

/-- Pieces in a row in memory. -/
def PRow (w : World) (a : Option Addr) (ps : List (Nat × Nat)) : Prop := 0 < ps.length → ∃ b off cs fr, a = some ⟨b, off, none⟩ ∧ w.heap[b]? = some (.cells cs 68 fr) ∧ ∀ i (hi : i < ps.length), cs[off + i * 2]? = some (nI ps[i].1) ∧ cs[off + i * 2 + 1]? = some (nI ps[i].2)
theorem PRow.keep {B : Nat} {w w' : World} {a : Option Addr} {ps : List (Nat × Nat)} (h : PRow w a ps) (hs : MStep B w w') : PRow w' a ps := by
  intro hp
  obtain ⟨b, off, cs, fr, h1, h2, h3⟩ := h hp
  exact ⟨b, off, cs, fr, h1, (hs.keep b cs _ fr h2 (by decide) (by decide) (by decide)).trans h2, h3⟩
theorem PRow.later {w w' : World} {a : Option Addr} {ps : List (Nat × Nat)} (h : PRow w a ps) (hb : Below w.heap.size w w') : PRow w' a ps := by
  intro hp
  obtain ⟨b, off, cs, fr, h1, h2, h3⟩ := h hp
  exact ⟨b, off, cs, fr, h1, (hb.block b (Array.getElem?_eq_some_iff.1 h2).1).trans h2, h3⟩
theorem PRow.at {w : World} {a : Option Addr} {ps : List (Nat × Nat)} (h : PRow w a ps) (i : Nat) (hi : i < ps.length) : ∃ b off, a = some ⟨b, off, none⟩ ∧ w.cell? ⟨b, off + i * 2, none⟩ = some (nI ps[i].1) ∧ w.cell? ⟨b, off + i * 2 + 1, none⟩ = some (nI ps[i].2) := by
  obtain ⟨b, off, cs, fr, h1, h2, h3⟩ := h (by omega)
  exact ⟨b, off, h1, (cell_of_row w b _ _ _ _ h2).trans (h3 i hi).1, (cell_of_row w b _ _ _ _ h2).trans (h3 i hi).2⟩
theorem rowEs_snoc : (ps : List (Nat × Nat)) → (a : Nat) → (q : Nat × Nat) → rowEs a (ps ++ [q]) = rowEs a ps ++ [(rowEnd a ps, q.1)] ∧ rowEnd a (ps ++ [q]) = q.2
  | [], a, q => ⟨rfl, rfl⟩
  | p :: r, a, q => by
    obtain ⟨h1, h2⟩ := rowEs_snoc r p.2 q
    simp only [List.cons_append, rowEs, rowEnd, h1, h2]
    exact ⟨trivial, trivial⟩
theorem add0_any (B U : Nat) (w : World) (bm : Nat) (l : List St) (st en : Nat) (h : MAt B U w bm l st en) (hl : l.length ≤ 1000000) :
    Calls Try.prog 81 #[.pointer (some ⟨bm, 0, none⟩), .agg #[.bool false, .slice none 0 0, .slice none 0 0]] w fun e w' => e = .returned (nI l.length) ∧ MAt B w'.heap.size w' bm (l ++ [st0]) st en ∧ MStep B w w' :=
  add_any B U w bm l st en false [] none 0 0 h (World.ownsRow_nil _ _ _ _) hl
theorem MAt.base {B U : Nat} {w : World} {bm : Nat} {l : List St} {st en : Nat} (h : MAt B U w bm l st en) : B ≤ w.heap.size := Nat.le_trans h.2.1 h.2.2.1
/-- A store into a block of another type leaves a machine. -/
theorem MAt.put {B U : Nat} {w : World} {bm : Nat} {l : List St} {st en H j : Nat} {cs : Array Value} {t : TypeId} {fr : Nat × Nat} (v : Value) (h : MAt B U w bm l st en) (hH : w.heap[H]? = some (.cells cs t fr)) (t1 : t ≠ 77) (t2 : t ≠ 3) (t3 : t ≠ 66) : MAt B U (w.setCell ⟨H, j, none⟩ v) bm l st en := by
  obtain ⟨h0, h1, h2, vv, h3, xs, cv, nv, h4⟩ := h
  have hg := grown_cell w H j v
  refine ⟨h0, h1, Nat.le_trans h2 hg.size, vv, (hg.block bm (Array.getElem?_eq_some_iff.1 h3).1 (fun e => ?_)).trans h3, xs, cv, nv, h4.kept hg (.inr (own_ne h4.1 hH (fun e => t1 e.symm))) (fun i hi => ?_)⟩
  · cases e
    rw [hH] at h3
    simp at h3
    exact t3 h3.2.1
  · obtain ⟨s, hs⟩ : ∃ s, l[i]? = some s := ⟨_, List.getElem?_eq_getElem hi⟩
    obtain ⟨_, _, _, a4, a5, _⟩ := h4.2 i s hs
    exact ⟨.inr (own_ne a4 hH (fun e => t2 e.symm)), .inr (own_ne a5 hH (fun e => t2 e.symm))⟩
theorem MStep.put {B : Nat} {w w' : World} {H j : Nat} (v : Value) (h : MStep B w w') (hB : B ≤ w.heap.size) (hH : w.heap.size ≤ H) : MStep B w (w'.setCell ⟨H, j, none⟩ v) := by
  have hg := grown_cell w' H j v
  refine ⟨h.below.setCell (p := ⟨H, j, none⟩) (by show B ≤ H; omega) _, fun k cs t fr hk t1 t2 t3 => ?_⟩
  have hk0 := (Array.getElem?_eq_some_iff.1 hk).1
  have hk1 := h.keep k cs t fr hk t1 t2 t3
  rw [hg.block k (by have := h.below.size; omega) (fun e => by cases e; omega), hk1]
/-- What is left when a piece has been laid into its result. -/
theorem put_piece {B : Nat} {w wr : World} {bm : Nat} {l : List St} {st en H : Nat} {cs : Array Value} {x y : Value} (hm : MAt B wr.heap.size wr bm l st en) (hs : MStep B w wr) (hB : B ≤ w.heap.size) (hH : w.heap.size ≤ H) (hb : wr.heap[H]? = some (.cells cs 68)) :
    MAt B ((wr.setCell ⟨H, 0, none⟩ x).setCell ⟨H, 1, none⟩ y).heap.size ((wr.setCell ⟨H, 0, none⟩ x).setCell ⟨H, 1, none⟩ y) bm l st en ∧ MStep B w ((wr.setCell ⟨H, 0, none⟩ x).setCell ⟨H, 1, none⟩ y) := by
  have h1 := MAt.put (j := 0) x hm hb (by decide) (by decide) (by decide)
  have h2 := MAt.put (j := 1) y h1 (heap_setCell_same wr H 0 _ _ _ hb) (by decide) (by decide) (by decide)
  exact ⟨h2.up (by simp [World.setCell]) (Nat.le_refl _), (hs.put x hB hH).put y hB hH⟩
set_option maxHeartbeats 4000000 in
theorem row_any (B U : Nat) (w : World) (bm : Nat) (l : List St) (st en : Nat) (a : Option Addr) (c : Nat) (ps : List (Nat × Nat)) (h : MAt B U w bm l st en) (hp : PRow w a ps) (hin : ∀ p, p ∈ ps → p.2 < l.length) (hl : szS l + ps.length ≤ 900000) :
    Calls Try.prog 66 #[.pointer (some ⟨bm, 0, none⟩), .slice a ps.length c] w fun e w' => e = .returned (.agg #[nI l.length, nI (rowEnd l.length ps)]) ∧ MAt B w'.heap.size w' bm (leads (l ++ [st0]) (rowEs l.length ps)) st en ∧ MStep B w w' := by
  have hll := szS_len l
  obtain ⟨n, hn⟩ : ∃ n, n = ps.length := ⟨_, rfl⟩
  obtain ⟨W0, hW0⟩ : ∃ W0, W0 = w.alloc (.cells #[.int .i64 0, .int .i64 0] 68) := ⟨_, rfl⟩
  obtain ⟨H, hH⟩ : ∃ H, H = w.heap.size := ⟨_, rfl⟩
  have HB0 : Hid (Below w.heap.size w W0) := by rw [hW0]; exact (Below.refl _ w).alloc (Nat.le_refl _) _
  have HBX : Hid (W0.heap[H]? = some (.cells #[.int .i64 0, .int .i64 0] 68)) := by rw [hW0, hH]; exact heap_alloc_new w _
  have HA : Hid (Calls Try.prog 81 #[.pointer (some ⟨bm, 0, none⟩), .agg #[.bool false, .slice none 0 0, .slice none 0 0]] W0 fun e w' => e = .returned (nI l.length) ∧ MAt B w'.heap.size w' bm (l ++ [st0]) st en ∧ MStep B W0 w') := add0_any B U W0 bm l st en (h.later HB0.out) (by omega)
  have HM0 : Hid (MStep B w W0) := MStep.of_below HB0.out h.base
  have HH : Hid (B ≤ w.heap.size ∧ w.heap.size ≤ H) := ⟨h.base, by omega⟩
  have HP : Hid (PRow W0 a ps) := hp.later HB0.out
  have HIN : Hid (∀ p, p ∈ ps → p.2 < l.length) := hin
  have HL : Hid (szS l + ps.length ≤ 900000) := hl
  have HN : Hid (n = ps.length) := hn
  have hni : (n : Int) ≤ 900000 := by omega
  rw [← hn]
  clear hp hin h hl hn hll
  unfold nI
  go_enter Try.func66, Try.ntmps66
  go_upto_region 1 with fail
  rw [← hH, ← hW0]
  clear hH hW0
  go_wp2_with fail
  refine HA.out.mono ?_
  rintro e w1 ⟨rfl, hm1, hs1⟩
  have HM1 : Hid (MAt B w1.heap.size w1 bm (l ++ [st0]) st en) := hm1
  have HS1 : Hid (MStep B W0 w1) := hs1
  clear hm1 hs1
  unfold nI
  go_wp2
  go_loopw [6, 15] (fun x6 x15 wr => ∃ k : Nat, k ≤ n ∧ x15 = .int .i64 k ∧ x6 = nI (rowEnd l.length (ps.take k)) ∧ MAt B wr.heap.size wr bm (leads (l ++ [st0]) (rowEs l.length (ps.take k))) st en ∧ MStep B W0 wr) (fun _ x15 _ => n - (intOf x15).toNat)
  case atStart => exact ⟨0, by omega, rfl, rfl, HM1.out, HS1.out⟩
  case round =>
    obtain ⟨k, hk, hx15, hx6, hm, hs⟩ := hrel
    subst hx15 hx6
    have HM : Hid (MAt B wr.heap.size wr bm (leads (l ++ [st0]) (rowEs l.length (ps.take k))) st en) := hm
    have HS : Hid (MStep B W0 wr) := hs
    clear hm hs
    by_cases hlt : k < n
    · have hkp : k < ps.length := by rw [← HN.out]; exact hlt
      obtain ⟨b, off, ha, c0, c1⟩ := (HP.out.keep HS.out).at k hkp
      subst ha
      obtain ⟨W1, hW1⟩ : ∃ W1, W1 = wr.alloc (.cells #[nI ps[k].1, nI ps[k].2] 68) := ⟨_, rfl⟩
      have HBW : Hid (Below wr.heap.size wr W1) := by rw [hW1]; exact (Below.refl _ wr).alloc (Nat.le_refl _) _
      have HBK : Hid (W1.heap[wr.heap.size]? = some (.cells #[nI ps[k].1, nI ps[k].2] 68)) := by rw [hW1]; exact heap_alloc_new wr _
      have HSZ : Hid (szS (leads (l ++ [st0]) (rowEs l.length (ps.take k))) ≤ 1000000) := by
        show _ ≤ _
        have h1 := szS_leads (rowEs l.length (ps.take k)) (l ++ [st0])
        rw [rowEs_len, szS_append] at h1
        have h2 : szS [st0] = 1 := rfl
        have h3 : (ps.take k).length ≤ ps.length := by simp; omega
        have := HL.out
        omega
      have HLD : Hid (Calls Try.prog 82 #[.pointer (some ⟨bm, 0, none⟩), nI (rowEnd l.length (ps.take k)), nI ps[k].1] W1 fun e w' => e = .returned (.tuple #[]) ∧ MAt B w'.heap.size w' bm (leads (l ++ [st0]) (rowEs l.length (ps.take (k + 1)))) st en ∧ MStep B W1 w') := by
        have h1 := lead_any B wr.heap.size W1 bm (leads (l ++ [st0]) (rowEs l.length (ps.take k))) st en (rowEnd l.length (ps.take k)) ps[k].1 (HM.out.later HBW.out) (by
          rw [leads_len]
          simp
          rcases rowEnd_mem (ps.take k) l.length with e | e
          · omega
          · obtain ⟨q, hq, e2⟩ := List.mem_map.1 e
            have := HIN.out q (List.mem_of_mem_take hq)
            rw [← e2]
            omega) HSZ.out
        rw [take_snoc ps k hkp, (rowEs_snoc (ps.take k) l.length ps[k]).1, leads_append]
        exact h1
      have HE : Hid (ps[k].2 = rowEnd l.length (ps.take (k + 1))) := by
        show _ = _
        rw [take_snoc ps k hkp, (rowEs_snoc (ps.take k) l.length ps[k]).2]
      obtain ⟨p1, hp1⟩ : ∃ p1, p1 = ps[k].1 := ⟨_, rfl⟩
      obtain ⟨p2, hp2⟩ : ∃ p2, p2 = ps[k].2 := ⟨_, rfl⟩
      obtain ⟨R, hR⟩ : ∃ R, R = rowEnd l.length (ps.take k) := ⟨_, rfl⟩
      rw [← hp1] at c0 hW1 HBK HLD
      rw [← hp2] at c1 hW1 HBK HE
      rw [← hR] at HLD ⊢
      clear hp1 hp2 hR
      unfold nI at c0 c1 hW1 HLD HBK ⊢
      go_wp2_with fail
      rw [← hW1]
      clear hW1 c0 c1
      refine HLD.out.mono ?_
      rintro e w2 ⟨rfl, hm2, hs2⟩
      have HM2 : Hid (MAt B w2.heap.size w2 bm (leads (l ++ [st0]) (rowEs l.length (ps.take (k + 1)))) st en) := hm2
      have HS2 : Hid (MStep B W0 w2) := HS.out.trans ((MStep.of_below HBW.out HM.out.base).trans hs2)
      have d1 : w2.cell? ⟨wr.heap.size, 1, none⟩ = some (.int .i64 (p2 : Int)) := (hs2.cell HBK.out (by decide) (by decide) (by decide)).trans rfl
      clear hm2 hs2
      go_wp2
      go_roundw
      case rel => exact ⟨k + 1, by omega, by go_num, by rw [← HE.out], HM2.out, HS2.out⟩
      case measure => simp [intOf]; omega
    · obtain rfl : k = n := by omega
      have hbx := (HS.out.keep H _ _ _ HBX.out (by decide) (by decide) (by decide)).trans HBX.out
      have d0 : wr.cell? ⟨H, 0, none⟩ = some (.int .i64 0) := cell_of_row wr H 0 _ _ _ hbx
      have d1 : wr.cell? ⟨H, 1, none⟩ = some (.int .i64 0) := cell_of_row wr H 1 _ _ _ hbx
      have df : ∀ q, wr.frozen? ⟨H, q, none⟩ = false := fun q => Lib.frozen_of_heap hbx q
      have df0 := df 0
      have df1 := df 1
      rw [List.take_of_length_le (by rw [← HN.out]; exact Nat.le_refl _)] at HM ⊢
      obtain ⟨R, hR⟩ : ∃ R, R = rowEnd l.length ps := ⟨_, rfl⟩
      rw [← hR]
      have HR : Hid (R = rowEnd l.length ps) := hR
      have HFIN : Hid (MAt B ((wr.setCell ⟨H, 0, none⟩ (.int .i64 (l.length : Int))).setCell ⟨H, 1, none⟩ (.int .i64 (R : Int))).heap.size ((wr.setCell ⟨H, 0, none⟩ (.int .i64 (l.length : Int))).setCell ⟨H, 1, none⟩ (.int .i64 (R : Int))) bm (leads (l ++ [st0]) (rowEs l.length ps)) st en ∧ MStep B w ((wr.setCell ⟨H, 0, none⟩ (.int .i64 (l.length : Int))).setCell ⟨H, 1, none⟩ (.int .i64 (R : Int)))) := put_piece HM.out (HM0.out.trans HS.out) HH.out.1 HH.out.2 hbx
      clear hR hbx df
      unfold nI
      go_wp2
      refine bodyPost_ret (v := .agg #[.int .i64 (l.length : Int), .int .i64 (R : Int)]) ?_ rfl ⟨by rw [HR.out], HFIN.out⟩
      rw [results_cell_one rfl]
      go_simp

theorem forkEs_snoc (f e : Nat) (ps : List (Nat × Nat)) (q : Nat × Nat) : forkEs f e (ps ++ [q]) = forkEs f e ps ++ [(f, q.1), (q.2, e)] := by simp [forkEs]
set_option maxHeartbeats 4000000 in
theorem fork_any (B U : Nat) (w : World) (bm : Nat) (l : List St) (st en : Nat) (a : Option Addr) (c : Nat) (ps : List (Nat × Nat)) (h : MAt B U w bm l st en) (hp : PRow w a ps) (hin : ∀ p, p ∈ ps → p.2 < l.length) (hl : szS l + 2 * ps.length ≤ 900000) :
    Calls Try.prog 64 #[.pointer (some ⟨bm, 0, none⟩), .slice a ps.length c] w fun e w' => e = .returned (.agg #[nI l.length, nI (l.length + 1)]) ∧ MAt B w'.heap.size w' bm (leads (l ++ [st0, st0]) (forkEs l.length (l.length + 1) ps)) st en ∧ MStep B w w' := by
  have hll := szS_len l
  obtain ⟨E, hE⟩ : ∃ E, E = l.length + 1 := ⟨_, rfl⟩
  have HE : Hid (E = l.length + 1) := hE
  rw [← hE]
  obtain ⟨n, hn⟩ : ∃ n, n = ps.length := ⟨_, rfl⟩
  obtain ⟨W0, hW0⟩ : ∃ W0, W0 = w.alloc (.cells #[.int .i64 0, .int .i64 0] 68) := ⟨_, rfl⟩
  obtain ⟨H, hH⟩ : ∃ H, H = w.heap.size := ⟨_, rfl⟩
  have HB0 : Hid (Below w.heap.size w W0) := by rw [hW0]; exact (Below.refl _ w).alloc (Nat.le_refl _) _
  have HBX : Hid (W0.heap[H]? = some (.cells #[.int .i64 0, .int .i64 0] 68)) := by rw [hW0, hH]; exact heap_alloc_new w _
  have HA : Hid (Calls Try.prog 81 #[.pointer (some ⟨bm, 0, none⟩), .agg #[.bool false, .slice none 0 0, .slice none 0 0]] W0 fun e w' => e = .returned (nI l.length) ∧ MAt B w'.heap.size w' bm (l ++ [st0]) st en ∧ MStep B W0 w') := add0_any B U W0 bm l st en (h.later HB0.out) (by omega)
  have HA2 : Hid (∀ V : World, MAt B V.heap.size V bm (l ++ [st0]) st en → Calls Try.prog 81 #[.pointer (some ⟨bm, 0, none⟩), .agg #[.bool false, .slice none 0 0, .slice none 0 0]] V fun e w' => e = .returned (nI E) ∧ MAt B w'.heap.size w' bm (l ++ [st0, st0]) st en ∧ MStep B V w') := by
    intro V hV
    have h1 := add0_any B V.heap.size V bm (l ++ [st0]) st en hV (by simp; omega)
    rw [List.append_assoc] at h1
    simp only [List.length_append, List.length_singleton] at h1
    rw [← hE] at h1
    exact h1
  have HM0 : Hid (MStep B w W0) := MStep.of_below HB0.out h.base
  have HH : Hid (B ≤ w.heap.size ∧ w.heap.size ≤ H) := ⟨h.base, by omega⟩
  have HP : Hid (PRow W0 a ps) := hp.later HB0.out
  have HIN : Hid (∀ p, p ∈ ps → p.2 < l.length) := hin
  have HL : Hid (szS l + 2 * ps.length ≤ 900000) := hl
  have HN : Hid (n = ps.length) := hn
  have hni : (n : Int) ≤ 900000 := by omega
  rw [← hn]
  clear hp hin h hl hn hll hE
  unfold nI
  go_enter Try.func64, Try.ntmps64
  go_upto_region 1 with fail
  rw [← hH, ← hW0]
  clear hH hW0
  go_wp2_with fail
  refine HA.out.mono ?_
  rintro e w1 ⟨rfl, hm1, hs1⟩
  have HC2 := HA2.out w1 hm1
  have HC : Hid (Calls Try.prog 81 #[.pointer (some ⟨bm, 0, none⟩), .agg #[.bool false, .slice none 0 0, .slice none 0 0]] w1 fun e w' => e = .returned (nI E) ∧ MAt B w'.heap.size w' bm (l ++ [st0, st0]) st en ∧ MStep B w1 w') := HC2
  have HS1 : Hid (MStep B W0 w1) := hs1
  clear hm1 hs1 HC2 HA HA2
  unfold nI
  go_wp2_with fail
  refine HC.out.mono ?_
  rintro e w2 ⟨rfl, hm2, hs2⟩
  obtain ⟨W2, hW2⟩ : ∃ W2, W2 = w2.alloc (.cells #[.int .i64 (l.length : Int), .int .i64 (E : Int)] 68) := ⟨_, rfl⟩
  obtain ⟨G, hG⟩ : ∃ G, G = w2.heap.size := ⟨_, rfl⟩
  have HBG : Hid (Below w2.heap.size w2 W2) := by rw [hW2]; exact (Below.refl _ w2).alloc (Nat.le_refl _) _
  have HGX : Hid (W2.heap[G]? = some (.cells #[.int .i64 (l.length : Int), .int .i64 (E : Int)] 68)) := by rw [hW2, hG]; exact heap_alloc_new w2 _
  have HM2 : Hid (MAt B W2.heap.size W2 bm (l ++ [st0, st0]) st en) := (hm2.later HBG.out).up HBG.out.size (Nat.le_refl _)
  have HS2 : Hid (MStep B W0 W2) := (HS1.out.trans hs2).trans (MStep.of_below HBG.out hm2.base)
  clear hm2 hs2 HC
  unfold nI
  go_upto_region 2 with fail
  rw [← hG, ← hW2]
  clear hG hW2
  go_wp2
  go_loopw [17] (fun x17 wr => ∃ k : Nat, k ≤ n ∧ x17 = .int .i64 k ∧ MAt B wr.heap.size wr bm (leads (l ++ [st0, st0]) (forkEs l.length E (ps.take k))) st en ∧ MStep B W2 wr) (fun x17 _ => n - (intOf x17).toNat)
  case atStart => exact ⟨0, by omega, rfl, HM2.out, MStep.of_below (Below.refl _ _) HM2.out.base⟩
  case round =>
    obtain ⟨k, hk, hx17, hm, hs⟩ := hrel
    subst hx17
    have HM : Hid (MAt B wr.heap.size wr bm (leads (l ++ [st0, st0]) (forkEs l.length E (ps.take k))) st en) := hm
    have HS : Hid (MStep B W2 wr) := hs
    have hgx := (hs.keep G _ _ _ HGX.out (by decide) (by decide) (by decide)).trans HGX.out
    have HGR : Hid (wr.heap[G]? = some (.cells #[.int .i64 (l.length : Int), .int .i64 (E : Int)] 68)) := hgx
    clear hm hs hgx
    by_cases hlt : k < n
    · have hkp : k < ps.length := by rw [← HN.out]; exact hlt
      obtain ⟨b, off, ha, c0, c1⟩ := ((HP.out.keep HS2.out).keep HS.out).at k hkp
      subst ha
      obtain ⟨W1, hW1⟩ : ∃ W1, W1 = wr.alloc (.cells #[nI ps[k].1, nI ps[k].2] 68) := ⟨_, rfl⟩
      have HBW : Hid (Below wr.heap.size wr W1) := by rw [hW1]; exact (Below.refl _ wr).alloc (Nat.le_refl _) _
      have HBK : Hid (W1.heap[wr.heap.size]? = some (.cells #[nI ps[k].1, nI ps[k].2] 68)) := by rw [hW1]; exact heap_alloc_new wr _
      have HSZ : Hid (szS (leads (l ++ [st0, st0]) (forkEs l.length E (ps.take k))) + 1 ≤ 1000000) := by
        show _ ≤ _
        have h1 := szS_leads (forkEs l.length E (ps.take k)) (l ++ [st0, st0])
        rw [forkEs_len, szS_append] at h1
        have h2 : szS [st0, st0] = 2 := rfl
        have h3 : (ps.take k).length ≤ ps.length := by simp; omega
        have := HL.out
        omega
      have HLD : Hid (Calls Try.prog 82 #[.pointer (some ⟨bm, 0, none⟩), nI l.length, nI ps[k].1] W1 fun e w' => e = .returned (.tuple #[]) ∧ MAt B w'.heap.size w' bm (leadS (leads (l ++ [st0, st0]) (forkEs l.length E (ps.take k))) l.length ps[k].1) st en ∧ MStep B W1 w') :=
        lead_any B wr.heap.size W1 bm _ st en l.length ps[k].1 (HM.out.later HBW.out) (by rw [leads_len]; simp) (by have := HSZ.out; omega)
      have HLE : Hid (∀ V : World, MAt B V.heap.size V bm (leadS (leads (l ++ [st0, st0]) (forkEs l.length E (ps.take k))) l.length ps[k].1) st en → Calls Try.prog 82 #[.pointer (some ⟨bm, 0, none⟩), nI ps[k].2, nI E] V fun e w' => e = .returned (.tuple #[]) ∧ MAt B w'.heap.size w' bm (leads (l ++ [st0, st0]) (forkEs l.length E (ps.take (k + 1)))) st en ∧ MStep B V w') := by
        intro V hV
        have h1 := lead_any B V.heap.size V bm _ st en ps[k].2 E hV (by
          have := HIN.out ps[k] (List.getElem_mem hkp)
          simp only [leadS, List.length_modify, leads_len, List.length_append]
          omega) (by
          have h2 := szS_lead (leads (l ++ [st0, st0]) (forkEs l.length E (ps.take k))) l.length ps[k].1
          have := HSZ.out
          omega)
        rw [take_snoc ps k hkp, forkEs_snoc, leads_append]
        exact h1
      obtain ⟨p1, hp1⟩ : ∃ p1, p1 = ps[k].1 := ⟨_, rfl⟩
      obtain ⟨p2, hp2⟩ : ∃ p2, p2 = ps[k].2 := ⟨_, rfl⟩
      rw [← hp1] at c0 hW1 HBK HLD HLE
      rw [← hp2] at c1 hW1 HBK HLE
      have hgb : W1.heap[G]? = some (.cells #[.int .i64 (l.length : Int), .int .i64 (E : Int)] 68) := (HBW.out.block G (Array.getElem?_eq_some_iff.1 HGR.out).1).trans HGR.out
      have HGB : Hid (W1.heap[G]? = some (.cells #[.int .i64 (l.length : Int), .int .i64 (E : Int)] 68)) := hgb
      have hneg : ¬ (G = wr.heap.size) := by have := (Array.getElem?_eq_some_iff.1 HGR.out).1; omega
      have g0 : wr.cell? ⟨G, 0, none⟩ = some (.int .i64 (l.length : Int)) := cell_of_row wr G 0 _ _ _ HGR.out
      have k0 : W1.cell? ⟨G, 0, none⟩ = some (.int .i64 (l.length : Int)) := cell_of_row W1 G 0 _ _ _ HGB.out
      clear hp1 hp2 hgb
      unfold nI at c0 c1 hW1 HLD HBK
      rw [hW1] at k0
      go_wp2_with fail
      rw [← hW1]
      clear hW1 c0 c1 g0 k0
      refine HLD.out.mono ?_
      rintro e w3 ⟨rfl, hm3, hs3⟩
      have HLF : Hid (Calls Try.prog 82 #[.pointer (some ⟨bm, 0, none⟩), nI p2, nI E] w3 fun e w' => e = .returned (.tuple #[]) ∧ MAt B w'.heap.size w' bm (leads (l ++ [st0, st0]) (forkEs l.length E (ps.take (k + 1)))) st en ∧ MStep B w3 w') := HLE.out w3 hm3
      have HS3 : Hid (MStep B W2 w3) := HS.out.trans ((MStep.of_below HBW.out HM.out.base).trans hs3)
      have d1 : w3.cell? ⟨wr.heap.size, 1, none⟩ = some (.int .i64 (p2 : Int)) := (hs3.cell HBK.out (by decide) (by decide) (by decide)).trans rfl
      have d2 : w3.cell? ⟨G, 1, none⟩ = some (.int .i64 (E : Int)) := (hs3.cell HGB.out (by decide) (by decide) (by decide)).trans rfl
      clear hm3 hs3 HLD HLE
      unfold nI at HLF
      go_wp2_with fail
      refine HLF.out.mono ?_
      rintro e w4 ⟨rfl, hm4, hs4⟩
      have HM4 : Hid (MAt B w4.heap.size w4 bm (leads (l ++ [st0, st0]) (forkEs l.length E (ps.take (k + 1)))) st en) := hm4
      have HS4 : Hid (MStep B W2 w4) := HS3.out.trans hs4
      clear hm4 hs4 d1 d2
      go_wp2
      go_roundw
      case rel => exact ⟨k + 1, by omega, by go_num, HM4.out, HS4.out⟩
      case measure => simp [intOf]; omega
    · obtain rfl : k = n := by omega
      have hss := HS2.out.trans HS.out
      have hbx := (hss.keep H _ _ _ HBX.out (by decide) (by decide) (by decide)).trans HBX.out
      have d0 : wr.cell? ⟨H, 0, none⟩ = some (.int .i64 0) := cell_of_row wr H 0 _ _ _ hbx
      have d1 : wr.cell? ⟨H, 1, none⟩ = some (.int .i64 0) := cell_of_row wr H 1 _ _ _ hbx
      have g0 : wr.cell? ⟨G, 0, none⟩ = some (.int .i64 (l.length : Int)) := cell_of_row wr G 0 _ _ _ HGR.out
      have g1 : wr.cell? ⟨G, 1, none⟩ = some (.int .i64 (E : Int)) := cell_of_row wr G 1 _ _ _ HGR.out
      have df0 : wr.frozen? ⟨H, 0, none⟩ = false := Lib.frozen_of_heap hbx 0
      have df1 : wr.frozen? ⟨H, 1, none⟩ = false := Lib.frozen_of_heap hbx 1
      rw [List.take_of_length_le (by rw [← HN.out]; exact Nat.le_refl _)] at HM
      have HFIN : Hid (MAt B ((wr.setCell ⟨H, 0, none⟩ (.int .i64 (l.length : Int))).setCell ⟨H, 1, none⟩ (.int .i64 (E : Int))).heap.size ((wr.setCell ⟨H, 0, none⟩ (.int .i64 (l.length : Int))).setCell ⟨H, 1, none⟩ (.int .i64 (E : Int))) bm (leads (l ++ [st0, st0]) (forkEs l.length E ps)) st en ∧ MStep B w ((wr.setCell ⟨H, 0, none⟩ (.int .i64 (l.length : Int))).setCell ⟨H, 1, none⟩ (.int .i64 (E : Int)))) := put_piece HM.out (HM0.out.trans hss) HH.out.1 HH.out.2 hbx
      clear hbx hss
      go_wp2
      refine bodyPost_ret (v := .agg #[.int .i64 (l.length : Int), .int .i64 (E : Int)]) ?_ rfl ⟨rfl, HFIN.out⟩
      rw [results_cell_one rfl]
      go_simp
set_option maxHeartbeats 4000000 in
theorem loop_any (B U : Nat) (w : World) (bm : Nat) (l : List St) (st en : Nat) (p1 p2 : Nat) (h : MAt B U w bm l st en) (hin : p2 < l.length) (hl : szS l ≤ 900000) :
    Calls Try.prog 65 #[.pointer (some ⟨bm, 0, none⟩), .agg #[nI p1, nI p2]] w fun e w' => e = .returned (.agg #[nI l.length, nI l.length]) ∧ MAt B w'.heap.size w' bm (leads (l ++ [st0]) [(l.length, p1), (p2, l.length)]) st en ∧ MStep B w w' := by
  have hll := szS_len l
  obtain ⟨W0, hW0⟩ : ∃ W0, W0 = (w.alloc (.cells #[nI p1, nI p2] 68)).alloc (.cells #[.int .i64 0, .int .i64 0] 68) := ⟨_, rfl⟩
  obtain ⟨H, hH⟩ : ∃ H, H = w.heap.size := ⟨_, rfl⟩
  have HB0 : Hid (Below w.heap.size w W0) := by rw [hW0]; exact ((Below.refl _ w).alloc (Nat.le_refl _) _).alloc (by simp) _
  have HAX : Hid (W0.heap[H]? = some (.cells #[nI p1, nI p2] 68)) := by
    rw [hW0, hH]
    exact (((Below.refl _ (w.alloc _)).alloc (Nat.le_refl _) _).block w.heap.size (by simp)).trans (heap_alloc_new w _)
  have HBX : Hid (W0.heap[H + 1]? = some (.cells #[.int .i64 0, .int .i64 0] 68)) := by
    rw [hW0, hH]
    have := heap_alloc_new (w.alloc (.cells #[nI p1, nI p2] 68)) (.cells #[.int .i64 0, .int .i64 0] 68)
    rw [show (w.alloc (.cells #[nI p1, nI p2] 68)).heap.size = w.heap.size + 1 by simp] at this
    exact this
  have HA : Hid (Calls Try.prog 81 #[.pointer (some ⟨bm, 0, none⟩), .agg #[.bool false, .slice none 0 0, .slice none 0 0]] W0 fun e w' => e = .returned (nI l.length) ∧ MAt B w'.heap.size w' bm (l ++ [st0]) st en ∧ MStep B W0 w') := add0_any B U W0 bm l st en (h.later HB0.out) (by omega)
  have HM0 : Hid (MStep B w W0) := MStep.of_below HB0.out h.base
  have HH : Hid (B ≤ w.heap.size ∧ w.heap.size ≤ H + 1) := ⟨h.base, by omega⟩
  have h2 : szS (l ++ [st0]) = szS l + 1 := by rw [szS_append]; rfl
  have HL1 : Hid (∀ V : World, MAt B V.heap.size V bm (l ++ [st0]) st en → Calls Try.prog 82 #[.pointer (some ⟨bm, 0, none⟩), nI l.length, nI p1] V fun e w' => e = .returned (.tuple #[]) ∧ MAt B w'.heap.size w' bm (leadS (l ++ [st0]) l.length p1) st en ∧ MStep B V w') :=
    fun V hV => lead_any B V.heap.size V bm _ st en l.length p1 hV (by simp) (by omega)
  have HL2 : Hid (∀ V : World, MAt B V.heap.size V bm (leadS (l ++ [st0]) l.length p1) st en → Calls Try.prog 82 #[.pointer (some ⟨bm, 0, none⟩), nI p2, nI l.length] V fun e w' => e = .returned (.tuple #[]) ∧ MAt B w'.heap.size w' bm (leads (l ++ [st0]) [(l.length, p1), (p2, l.length)]) st en ∧ MStep B V w') :=
    fun V hV => lead_any B V.heap.size V bm (leadS (l ++ [st0]) l.length p1) st en p2 l.length hV (by simp [leadS]; omega) (by have := szS_lead (l ++ [st0]) l.length p1; omega)
  clear h hin hl hll h2
  unfold nI at hW0 HAX ⊢
  go_enter Try.func65, Try.ntmps65
  go_upto_region 1 with fail
  rw [← hH, ← hW0]
  clear hH hW0
  go_wp2_with fail
  refine HA.out.mono ?_
  rintro e w1 ⟨rfl, hm1, hs1⟩
  have HC1 : Hid (Calls Try.prog 82 #[.pointer (some ⟨bm, 0, none⟩), nI l.length, nI p1] w1 fun e w' => e = .returned (.tuple #[]) ∧ MAt B w'.heap.size w' bm (leadS (l ++ [st0]) l.length p1) st en ∧ MStep B w1 w') := HL1.out w1 hm1
  have HS1 : Hid (MStep B W0 w1) := hs1
  have d0 : w1.cell? ⟨H, 0, none⟩ = some (.int .i64 (p1 : Int)) := (hs1.cell HAX.out (by decide) (by decide) (by decide)).trans rfl
  clear hm1 hs1 HA HL1
  unfold nI at HC1 ⊢
  go_wp2_with fail
  refine HC1.out.mono ?_
  rintro e w2 ⟨rfl, hm2, hs2⟩
  have HC2 : Hid (Calls Try.prog 82 #[.pointer (some ⟨bm, 0, none⟩), nI p2, nI l.length] w2 fun e w' => e = .returned (.tuple #[]) ∧ MAt B w'.heap.size w' bm (leads (l ++ [st0]) [(l.length, p1), (p2, l.length)]) st en ∧ MStep B w2 w') := HL2.out w2 hm2
  have HS2 : Hid (MStep B W0 w2) := HS1.out.trans hs2
  have d1 : w2.cell? ⟨H, 1, none⟩ = some (.int .i64 (p2 : Int)) := (HS2.out.cell HAX.out (by decide) (by decide) (by decide)).trans rfl
  clear hm2 hs2 HL2 d0
  unfold nI at HC2
  go_wp2_with fail
  refine HC2.out.mono ?_
  rintro e wr ⟨rfl, hm3, hs3⟩
  have hss := HS2.out.trans hs3
  have hbx := (hss.keep (H + 1) _ _ _ HBX.out (by decide) (by decide) (by decide)).trans HBX.out
  have e0 : wr.cell? ⟨H + 1, 0, none⟩ = some (.int .i64 0) := cell_of_row wr (H + 1) 0 _ _ _ hbx
  have e1 : wr.cell? ⟨H + 1, 1, none⟩ = some (.int .i64 0) := cell_of_row wr (H + 1) 1 _ _ _ hbx
  have df0 : wr.frozen? ⟨H + 1, 0, none⟩ = false := Lib.frozen_of_heap hbx 0
  have df1 : wr.frozen? ⟨H + 1, 1, none⟩ = false := Lib.frozen_of_heap hbx 1
  have HFIN : Hid (MAt B ((wr.setCell ⟨H + 1, 0, none⟩ (.int .i64 (l.length : Int))).setCell ⟨H + 1, 1, none⟩ (.int .i64 (l.length : Int))).heap.size ((wr.setCell ⟨H + 1, 0, none⟩ (.int .i64 (l.length : Int))).setCell ⟨H + 1, 1, none⟩ (.int .i64 (l.length : Int))) bm (leads (l ++ [st0]) [(l.length, p1), (p2, l.length)]) st en ∧ MStep B w ((wr.setCell ⟨H + 1, 0, none⟩ (.int .i64 (l.length : Int))).setCell ⟨H + 1, 1, none⟩ (.int .i64 (l.length : Int)))) := put_piece hm3 (HM0.out.trans hss) HH.out.1 HH.out.2 hbx
  clear hbx hss hm3 hs3 d1
  go_wp2
  refine bodyPost_ret (v := .agg #[.int .i64 (l.length : Int), .int .i64 (l.length : Int)]) ?_ rfl ⟨rfl, HFIN.out⟩
  rw [results_cell_one rfl]
  go_simp
set_option maxHeartbeats 4000000 in
theorem reader_any (B U : Nat) (w : World) (bm : Nat) (l : List St) (st en : Nat) (cl : List Int) (ca : Option Addr) (cc : Nat) (h : MAt B U w bm l st en) (hrd : Rd .i64 w ca cl.length cl) (hnone : ca = none → cc = 0) (hcl : cl.length ≤ 1000) (hl : szS l ≤ 900000) :
    Calls Try.prog 63 #[.pointer (some ⟨bm, 0, none⟩), .slice ca cl.length cc] w fun e w' => e = .returned (.agg #[nI l.length, nI (l.length + 1)]) ∧ MAt B w'.heap.size w' bm (leads (l ++ [⟨true, cl, []⟩, st0]) [(l.length, l.length + 1)]) st en ∧ MStep B w w' := by
  have hll := szS_len l
  obtain ⟨E, hE⟩ : ∃ E, E = l.length + 1 := ⟨_, rfl⟩
  rw [← hE]
  obtain ⟨cn, hcn⟩ : ∃ cn, cn = cl.length := ⟨_, rfl⟩
  obtain ⟨W0, hW0⟩ : ∃ W0, W0 = w.alloc (.cells #[.int .i64 0, .int .i64 0] 68) := ⟨_, rfl⟩
  obtain ⟨H, hH⟩ : ∃ H, H = w.heap.size := ⟨_, rfl⟩
  have HB0 : Hid (Below w.heap.size w W0) := by rw [hW0]; exact (Below.refl _ w).alloc (Nat.le_refl _) _
  have HBX : Hid (W0.heap[H]? = some (.cells #[.int .i64 0, .int .i64 0] 68)) := by rw [hW0, hH]; exact heap_alloc_new w _
  have HCL : Hid (Calls Try.prog 60 #[.slice ca cn cc] W0 fun e w' => ∃ v, e = .returned v ∧ w'.ownsRow W0.heap.size 3 1 v cl.length (cl.map (Value.int .i64)) ∧ Below W0.heap.size W0 w') := by
    rw [hcn]; exact cloneI_any cl ca cl.length cc W0 (hrd.later HB0.out) hnone (by omega)
  have HMT : Hid (MAt B W0.heap.size W0 bm l st en) := (h.later HB0.out).up (Nat.le_trans h.2.2.1 HB0.out.size) (Nat.le_refl _)
  have HM0 : Hid (MStep B w W0) := MStep.of_below HB0.out h.base
  have HH : Hid (B ≤ w.heap.size ∧ w.heap.size ≤ H) := ⟨h.base, by omega⟩
  have HA1 : Hid (∀ (V : World) (va : Option Addr) (vn vc : Nat), Below W0.heap.size W0 V → V.ownsRow W0.heap.size 3 1 (.slice va vn vc) cl.length (cl.map (Value.int .i64)) → Calls Try.prog 81 #[.pointer (some ⟨bm, 0, none⟩), .agg #[.bool true, .slice va vn vc, .slice none 0 0]] V fun e w' => e = .returned (nI l.length) ∧ MAt B w'.heap.size w' bm (l ++ [⟨true, cl, []⟩]) st en ∧ MStep B V w') :=
    fun V va vn vc hV ho => add_any B W0.heap.size V bm l st en true cl va vn vc (HMT.out.later hV) ho (by omega)
  have HA2 : Hid (∀ V : World, MAt B V.heap.size V bm (l ++ [⟨true, cl, []⟩]) st en → Calls Try.prog 81 #[.pointer (some ⟨bm, 0, none⟩), .agg #[.bool false, .slice none 0 0, .slice none 0 0]] V fun e w' => e = .returned (nI E) ∧ MAt B w'.heap.size w' bm (l ++ [⟨true, cl, []⟩, st0]) st en ∧ MStep B V w') := by
    intro V hV
    have h1 := add0_any B V.heap.size V bm (l ++ [⟨true, cl, []⟩]) st en hV (by simp; omega)
    rw [List.append_assoc] at h1
    simp only [List.length_append, List.length_singleton] at h1
    rw [← hE] at h1
    exact h1
  have HL1 : Hid (∀ V : World, MAt B V.heap.size V bm (l ++ [⟨true, cl, []⟩, st0]) st en → Calls Try.prog 82 #[.pointer (some ⟨bm, 0, none⟩), nI l.length, nI E] V fun e w' => e = .returned (.tuple #[]) ∧ MAt B w'.heap.size w' bm (leads (l ++ [⟨true, cl, []⟩, st0]) [(l.length, E)]) st en ∧ MStep B V w') :=
    fun V hV => lead_any B V.heap.size V bm (l ++ [⟨true, cl, []⟩, st0]) st en l.length E hV (by simp) (by rw [szS_append]; have : szS [⟨true, cl, []⟩, st0] = 2 := rfl; omega)
  rw [← hcn]
  clear h hrd hnone hcl hl hll hE hcn
  unfold nI
  go_enter Try.func63, Try.ntmps63
  go_upto_region 1 with fail
  rw [← hH, ← hW0]
  clear hH hW0
  go_wp2_with fail
  refine HCL.out.mono ?_
  rintro e w1 ⟨v, rfl, ho, hb1⟩
  obtain ⟨va, vc, rfl⟩ := own_sl1 ho
  obtain ⟨vn, hvn⟩ : ∃ vn, vn = cl.length := ⟨_, rfl⟩
  have HC1 : Hid (Calls Try.prog 81 #[.pointer (some ⟨bm, 0, none⟩), .agg #[.bool true, .slice va vn vc, .slice none 0 0]] w1 fun e w' => e = .returned (nI l.length) ∧ MAt B w'.heap.size w' bm (l ++ [⟨true, cl, []⟩]) st en ∧ MStep B w1 w') := HA1.out w1 va vn vc hb1 (by rw [hvn]; exact ho)
  have HS1 : Hid (MStep B W0 w1) := MStep.of_below hb1 HMT.out.base
  rw [← hvn]
  clear ho hb1 hvn HA1 HCL
  go_wp2_with fail
  refine HC1.out.mono ?_
  rintro e w2 ⟨rfl, hm2, hs2⟩
  have HC2 : Hid (Calls Try.prog 81 #[.pointer (some ⟨bm, 0, none⟩), .agg #[.bool false, .slice none 0 0, .slice none 0 0]] w2 fun e w' => e = .returned (nI E) ∧ MAt B w'.heap.size w' bm (l ++ [⟨true, cl, []⟩, st0]) st en ∧ MStep B w2 w') := HA2.out w2 hm2
  have HS2 : Hid (MStep B W0 w2) := HS1.out.trans hs2
  clear hm2 hs2 HC1 HA2
  unfold nI
  go_wp2_with fail
  refine HC2.out.mono ?_
  rintro e w3 ⟨rfl, hm3, hs3⟩
  obtain ⟨W3, hW3⟩ : ∃ W3, W3 = w3.alloc (.cells #[.int .i64 (l.length : Int), .int .i64 (E : Int)] 68) := ⟨_, rfl⟩
  obtain ⟨G, hG⟩ : ∃ G, G = w3.heap.size := ⟨_, rfl⟩
  have HBG : Hid (Below w3.heap.size w3 W3) := by rw [hW3]; exact (Below.refl _ w3).alloc (Nat.le_refl _) _
  have HGX : Hid (W3.heap[G]? = some (.cells #[.int .i64 (l.length : Int), .int .i64 (E : Int)] 68)) := by rw [hW3, hG]; exact heap_alloc_new w3 _
  have HC3 : Hid (Calls Try.prog 82 #[.pointer (some ⟨bm, 0, none⟩), nI l.length, nI E] W3 fun e w' => e = .returned (.tuple #[]) ∧ MAt B w'.heap.size w' bm (leads (l ++ [⟨true, cl, []⟩, st0]) [(l.length, E)]) st en ∧ MStep B W3 w') := HL1.out W3 ((hm3.later HBG.out).up HBG.out.size (Nat.le_refl _))
  have HS3 : Hid (MStep B W0 W3) := (HS2.out.trans hs3).trans (MStep.of_below HBG.out hm3.base)
  clear hm3 hs3 HC2 HL1
  unfold nI at HC3 ⊢
  go_upto_region 2 with fail
  rw [← hG, ← hW3]
  clear hG hW3
  have g0 : W3.cell? ⟨G, 0, none⟩ = some (.int .i64 (l.length : Int)) := cell_of_row W3 G 0 _ _ _ HGX.out
  have g1 : W3.cell? ⟨G, 1, none⟩ = some (.int .i64 (E : Int)) := cell_of_row W3 G 1 _ _ _ HGX.out
  go_wp2_with fail
  refine HC3.out.mono ?_
  rintro e wr ⟨rfl, hm4, hs4⟩
  have hss := HS3.out.trans hs4
  have hbx := (hss.keep H _ _ _ HBX.out (by decide) (by decide) (by decide)).trans HBX.out
  have hgx := (hs4.keep G _ _ _ HGX.out (by decide) (by decide) (by decide)).trans HGX.out
  clear g0 g1
  have g0 : wr.cell? ⟨G, 0, none⟩ = some (.int .i64 (l.length : Int)) := cell_of_row wr G 0 _ _ _ hgx
  have g1 : wr.cell? ⟨G, 1, none⟩ = some (.int .i64 (E : Int)) := cell_of_row wr G 1 _ _ _ hgx
  have e0 : wr.cell? ⟨H, 0, none⟩ = some (.int .i64 0) := cell_of_row wr H 0 _ _ _ hbx
  have e1 : wr.cell? ⟨H, 1, none⟩ = some (.int .i64 0) := cell_of_row wr H 1 _ _ _ hbx
  have df0 : wr.frozen? ⟨H, 0, none⟩ = false := Lib.frozen_of_heap hbx 0
  have df1 : wr.frozen? ⟨H, 1, none⟩ = false := Lib.frozen_of_heap hbx 1
  have HFIN : Hid (MAt B ((wr.setCell ⟨H, 0, none⟩ (.int .i64 (l.length : Int))).setCell ⟨H, 1, none⟩ (.int .i64 (E : Int))).heap.size ((wr.setCell ⟨H, 0, none⟩ (.int .i64 (l.length : Int))).setCell ⟨H, 1, none⟩ (.int .i64 (E : Int))) bm (leads (l ++ [⟨true, cl, []⟩, st0]) [(l.length, E)]) st en ∧ MStep B w ((wr.setCell ⟨H, 0, none⟩ (.int .i64 (l.length : Int))).setCell ⟨H, 1, none⟩ (.int .i64 (E : Int)))) := put_piece hm4 (HM0.out.trans hss) HH.out.1 HH.out.2 hbx
  clear hbx hss hm4 hs4 hgx
  go_wp2
  refine bodyPost_ret (v := .agg #[.int .i64 (l.length : Int), .int .i64 (E : Int)]) ?_ rfl ⟨rfl, HFIN.out⟩
  rw [results_cell_one rfl]
  go_simp
end Go.Proofs.Ytjbhfonokgkalaa
