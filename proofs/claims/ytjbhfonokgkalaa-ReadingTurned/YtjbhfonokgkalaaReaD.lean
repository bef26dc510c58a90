/- The walk of passRow, by what pass leaves of the parts. -/
import Derived.Test.YtjbhfonokgkalaaReaC
namespace Go.Proofs.Ytjbhfonokgkalaa
open Go.RowKit
set_option linter.unusedVariables false

/-- Whether the part of that place begins. -/
def bgAt : List Dn → Bool → Hist → Nat → Bool
  | _, b, _, 0 => b
  | [], b, _, _ + 1 => b
  | k :: r, b, h, i + 1 => bgAt r (k.2 h || (b && k.1)) (nextH k.1 k.2 h) i
/-- Whether the row has ended, as far as the parts ahead of that place tell it. -/
def accAt : List Dn → Bool → Hist → Nat → Bool
  | _, acc, _, 0 => acc
  | [], acc, _, _ + 1 => acc
  | k :: r, acc, h, i + 1 => accAt r (k.2 h || (acc && k.1)) (nextH k.1 k.2 h) i
theorem accAt_len : (ks : List Dn) → (acc : Bool) → (h : Hist) → accAt ks acc h ks.length = rowE acc ks h
  | [], acc, h => rfl
  | k :: r, acc, h => by simp only [List.length_cons, accAt, rowE]; exact accAt_len r _ _
theorem accAt_succ : (ks : List Dn) → (acc : Bool) → (h : Hist) → (k : Nat) → (hk : k < ks.length) → accAt ks acc h (k + 1) = (ks[k].2 ((seqHs ks h).getD k []) || (accAt ks acc h k && ks[k].1))
  | [], _, _, k, hk => by simp at hk
  | x :: r, acc, h, 0, hk => by cases r <;> rfl
  | x :: r, acc, h, k + 1, hk => by
    have := accAt_succ r (x.2 h || (acc && x.1)) (nextH x.1 x.2 h) k (by simpa using hk)
    simpa [accAt, seqHs] using this
theorem bgAt_succ : (ks : List Dn) → (b : Bool) → (h : Hist) → (k : Nat) → (hk : k < ks.length) → bgAt ks b h (k + 1) = (ks[k].2 ((seqHs ks h).getD k []) || (bgAt ks b h k && ks[k].1))
  | [], _, _, k, hk => by simp at hk
  | x :: r, b, h, 0, hk => by cases r <;> rfl
  | x :: r, b, h, k + 1, hk => by
    have := bgAt_succ r (x.2 h || (b && x.1)) (nextH x.1 x.2 h) k (by simpa using hk)
    simpa [bgAt, seqHs] using this
theorem seqHs_cons : (ks : List Dn) → (c : Int) → (b : Bool) → (h : Hist) → (k : Nat) → (hk : k < ks.length) → (seqHs ks ((c, b) :: h)).getD k [] = (c, bgAt ks b h k) :: (seqHs ks h).getD k []
  | [], _, _, _, k, hk => by simp at hk
  | x :: r, c, b, h, 0, hk => by simp [seqHs, bgAt]
  | x :: r, c, b, h, k + 1, hk => by
    have := seqHs_cons r c (x.2 h || (b && x.1)) (nextH x.1 x.2 h) k (by simpa using hk)
    simpa [seqHs, bgAt, nextH] using this
theorem join_at (a b : List Hist) (k : Nat) (hab : a.length = b.length) (hk : k < b.length) : (a.take k ++ b.drop k).getD k [] = b.getD k [] := by
  rw [List.getD_eq_getElem?_getD, List.getElem?_append_right (by simp; omega), List.getElem?_drop, List.getD_eq_getElem?_getD]
  congr 2
  simp
  omega
theorem join_set (a b : List Hist) (k : Nat) (hab : a.length = b.length) (hk : k < b.length) : (a.take k ++ b.drop k).set k (a.getD k []) = a.take (k + 1) ++ b.drop (k + 1) := by
  have h1 : (a.take k).length = k := by simp; omega
  have h2 : a.take (k + 1) = a.take k ++ [a[k]'(by omega)] := by rw [List.take_add_one, List.getElem?_eq_getElem (by omega)]; rfl
  have h3 : a.getD k [] = a[k]'(by omega) := by rw [List.getD_eq_getElem?_getD, List.getElem?_eq_getElem (by omega)]; rfl
  rw [List.set_append_right _ _ (by omega), h1, Nat.sub_self, List.drop_eq_getElem_cons hk, List.set_cons_zero, h2, h3, List.append_assoc]
  rfl

set_option maxHeartbeats 16000000 in
theorem passRow_of (B d : Nat) (HP : PassC B d) (n : Nd) (hk : Hist) (c : Int) (bg : Bool) (e0 : Bool) (b off : Nat) (cur : Array Value) (fp : Nat → Prop) (w : World)
    (hb : w.heap[b]? = some (.cells cur 82 (0, 0))) (hfb : ¬ fp b) (hbB : B ≤ b) (hfB : ∀ x, fp x → B ≤ x) (hB : B ≤ w.heap.size) (hn : NdX (NdV B w d) B w n e0 (seqHs (den n.kids) hk) ((cur.toList.drop off).take 5) fp) :
    Calls Try.prog 83 #[.pointer (some ⟨b, off, none⟩), .int .i64 c, .bool bg] w fun e w' => e = .returned (.tuple #[]) ∧ PxPost B d n (rowE false (den n.kids) ((c, bg) :: hk)) (seqHs (den n.kids) ((c, bg) :: hk)) b off cur fp w w' := by
  have HPC : Hid (PassC B d) := HP
  obtain ⟨ca, cc, pa, pc, hv, hrd, hcb, hcl, hkl, hrow⟩ := hn
  have HV : Hid ((cur.toList.drop off).take 5 = [.int .i64 n.op, .slice ca n.cl.length cc, .slice pa (toL n.kids).length pc, .bool n.emp, .bool e0]) := hv
  obtain ⟨v0, v1, v2, v3, v4⟩ := five_at hv
  have c2 : w.cell? ⟨b, off + 2, none⟩ = some (.slice pa (toL n.kids).length pc) := (cell_of_row w b (off + 2) _ _ _ hb).trans v2
  have c4 : w.cell? ⟨b, off + 4, none⟩ = some (.bool e0) := (cell_of_row w b (off + 4) _ _ _ hb).trans v4
  have f4 : w.frozen? ⟨b, off + 4, none⟩ = false := Lib.frozen_of_heap hb _
  have hw0 : (w.setCell ⟨b, off + 4, none⟩ (.bool false)).heap[b]? = some (.cells (cur.setIfInBounds (off + 4) (.bool false)) 82 (0, 0)) := heap_setCell_same w b (off + 4) cur _ _ hb
  have g2 : (w.setCell ⟨b, off + 4, none⟩ (.bool false)).cell? ⟨b, off + 2, none⟩ = some (.slice pa (toL n.kids).length pc) := by
    rw [cell_of_row _ b (off + 2) _ _ _ hw0, Array.getElem?_setIfInBounds_ne (by omega)]; exact v2
  obtain ⟨N, hN⟩ : ∃ N, N = (toL n.kids).length := ⟨_, rfl⟩
  rw [← hN] at c2 g2
  have hNi : (N : Int) ≤ 2600000000000 := by have := hkl.1; omega
  have HST : Hid (PxAt B d n false (seqHs (den n.kids) hk) pa b off cur fp w (w.setCell ⟨b, off + 4, none⟩ (.bool false))) := by
    refine ⟨hw0, hrow.map (fun g hg hf => ?_) (fun n h vs fq hq hk => hk.frame d (fun g hg hgf => ?_)), by rw [seqHs_len, den_len], Chg.set fp b _ w _⟩
    · exact Below.heap_setCell _ _ _ g (fun e => hfb ((show g = b from e) ▸ hf))
    · refine Below.heap_setCell _ _ _ g (fun e => ?_)
      rcases hgf with hgf | hgf
      · exact hfb ((show g = b from e) ▸ hq g hgf)
      · have : g = b := e
        omega
  have HEND : Hid (∀ wr, PxAt B d n (rowE false (den n.kids) ((c, bg) :: hk)) (seqHs (den n.kids) ((c, bg) :: hk)) pa b off cur fp w wr → PxPost B d n (rowE false (den n.kids) ((c, bg) :: hk)) (seqHs (den n.kids) ((c, bg) :: hk)) b off cur fp w wr) :=
    fun wr h => px_end hB hbB hfB hv hrd hcb hcl hkl h
  have HN : Hid (N = (toL n.kids).length) := hN
  have HFB : Hid (¬ fp b) := hfb
  have HBB : Hid (B ≤ b) := hbB
  have HFF : Hid (∀ x, fp x → B ≤ x) := hfB
  have HBW : Hid (B ≤ w.heap.size) := hB
  obtain ⟨W, hW⟩ : ∃ W, W = w.setCell ⟨b, off + 4, none⟩ (.bool false) := ⟨_, rfl⟩
  rw [← hW] at g2 HST
  clear HP hv hrd hcb hcl hkl hrow v0 v1 v2 v3 v4 hw0 hN hfb hbB hfB hB hb
  go_enter Try.func83, Try.ntmps83
  go_upto_region 1 with fail
  rw [← hW]
  clear hW c2 c4 f4
  go_wp2
  go_loopw [2, 17] (fun x2 x17 wr => ∃ k : Nat, k ≤ N ∧ x17 = .int .i64 k ∧ x2 = .bool (bgAt (den n.kids) bg hk k) ∧ PxAt B d n (accAt (den n.kids) false ((c, bg) :: hk) k) ((seqHs (den n.kids) ((c, bg) :: hk)).take k ++ (seqHs (den n.kids) hk).drop k) pa b off cur fp w wr) (fun _ x17 _ => N - (intOf x17).toNat)
  case atStart => exact ⟨0, by omega, rfl, by cases (den n.kids) <;> rfl, by simpa [accAt] using HST.out⟩
  case round =>
    obtain ⟨k, hk', hx17, hx2, hat⟩ := hrel
    obtain ⟨e, he⟩ : ∃ e, e = accAt (den n.kids) false ((c, bg) :: hk) k := ⟨_, rfl⟩
    obtain ⟨bk, hbk⟩ : ∃ bk, bk = bgAt (den n.kids) bg hk k := ⟨_, rfl⟩
    rw [← he] at hat
    rw [← hbk] at hx2
    subst hx17
    subst hx2
    have HE : Hid (e = accAt (den n.kids) false ((c, bg) :: hk) k) := he
    have HBK : Hid (bk = bgAt (den n.kids) bg hk k) := hbk
    have HAT : Hid (PxAt B d n e ((seqHs (den n.kids) ((c, bg) :: hk)).take k ++ (seqHs (den n.kids) hk).drop k) pa b off cur fp w wr) := hat
    clear hat he g2 hbk
    obtain ⟨v0, v1, v2, v3, v4⟩ := five_at (five_set HV.out (.bool e))
    have d2 : wr.cell? ⟨b, off + 2, none⟩ = some (.slice pa N pc) := by rw [HN.out]; exact (cell_of_row wr b (off + 2) _ _ _ HAT.out.1).trans v2
    clear v0 v1 v2 v3 v4
    by_cases hlt : k < N
    · have hkl : k < (toL n.kids).length := by rw [← HN.out]; exact hlt
      have hkd : k < (den n.kids).length := by rw [den_len]; exact hkl
      obtain ⟨hb1, hrow, hlen, hchg⟩ := HAT.out
      obtain ⟨g, cg, rfl, hg, hfg, hlg, fps, hall⟩ := hrow (by omega)
      obtain ⟨k1, k2, k3, k4⟩ := hall k hkl
      have hgk : ((seqHs (den n.kids) ((c, bg) :: hk)).take k ++ (seqHs (den n.kids) hk).drop k).getD k [] = (seqHs (den n.kids) hk).getD k [] := join_at _ _ k (by rw [seqHs_len, seqHs_len]) (by rw [seqHs_len]; exact hkd)
      rw [hgk] at k4
      have hBwr : B ≤ wr.heap.size := Nat.le_trans HBW.out hchg.size
      obtain ⟨hO, hhO⟩ : ∃ hO, hO = (seqHs (den n.kids) hk).getD k [] := ⟨_, rfl⟩
      rw [← hhO] at k4
      have HHN : Hid ((seqHs (den n.kids) ((c, bg) :: hk)).getD k [] = (c, bk) :: hO) := by show _ = _; rw [seqHs_cons _ _ _ _ k hkd, ← HBK.out, ← hhO]
      obtain ⟨x, hx⟩ : ∃ x, x = (toL n.kids)[k] := ⟨_, rfl⟩
      obtain ⟨eo, heo⟩ : ∃ eo, eo = x.end hO := ⟨_, rfl⟩
      obtain ⟨em, hem⟩ : ∃ em, em = x.emp := ⟨_, rfl⟩
      have hden : (den n.kids)[k] = (x.emp, x.end) := by rw [hx]; exact den_at n.kids k hkl
      have HNX : Hid ((eo || (bk && em)) = bgAt (den n.kids) bg hk (k + 1)) := by show _ = _; rw [bgAt_succ _ _ _ k hkd, ← HBK.out, hden, ← hhO, heo, hem]
      have k4' := k4
      have hfive : ∃ op ca' n1 cc' pa' n2 pc', (cg.toList.drop (k * 5)).take 5 = [.int .i64 op, .slice ca' n1 cc', .slice pa' n2 pc', .bool em, .bool eo] := by
        cases d with
        | zero => exact k4'.elim
        | succ d =>
          obtain ⟨ca', cc', pa', pc', hvv, _⟩ := k4'
          rw [← hx] at hvv
          exact ⟨_, _, _, _, _, _, _, by rw [hem, heo]; exact hvv⟩
      obtain ⟨op', ca', n1', cc', pa', n2', pc', hfv⟩ := hfive
      obtain ⟨_, _, _, y3, y4⟩ := five_at hfv
      have r3 : wr.cell? ⟨g, k * 5 + 3, none⟩ = some (.bool em) := (cell_of_row wr g (k * 5 + 3) _ _ _ hg).trans y3
      have r4 : wr.cell? ⟨g, k * 5 + 4, none⟩ = some (.bool eo) := (cell_of_row wr g (k * 5 + 4) _ _ _ hg).trans y4
      have HC : Hid (Calls Try.prog 78 #[.pointer (some ⟨g, k * 5, none⟩), .int .i64 c, .bool bk] wr fun e w' => e = .returned (.tuple #[]) ∧ PsPost B d x ((c, bk) :: hO) g (k * 5) cg (fps k) wr w') := by
        rw [hx]
        exact HPC.out (toL n.kids)[k] hO c bk g (k * 5) cg (fps k) wr hg k1 (HFF.out g hfg) (fun x hx => HFF.out x (k2 x hx)) hBwr k4
      have HALL : Hid (∀ i (hi : i < (toL n.kids).length), ¬ fps i g ∧ (∀ x, fps i x → fp x) ∧ (∀ j, j < i → ∀ x, fps i x → ¬ fps j x) ∧ NdV B wr d (toL n.kids)[i] (((seqHs (den n.kids) ((c, bg) :: hk)).take k ++ (seqHs (den n.kids) hk).drop k).getD i []) ((cg.toList.drop (i * 5)).take 5) (fps i)) := hall
      have HG : Hid (wr.heap[g]? = some (.cells cg 82 (0, 0)) ∧ fp g ∧ (toL n.kids).length * 5 ≤ cg.size ∧ ((seqHs (den n.kids) ((c, bg) :: hk)).take k ++ (seqHs (den n.kids) hk).drop k).length = (toL n.kids).length ∧ Chg fp b w wr ∧ ¬ fps k g ∧ (∀ x, fps k x → fp x)) := ⟨hg, hfg, hlg, hlen, hchg, k1, k2⟩
      have HB1 : Hid (wr.heap[b]? = some (.cells (cur.setIfInBounds (off + 4) (.bool e)) 82 (0, 0))) := hb1
      have HFV : Hid ((cg.toList.drop (k * 5)).take 5 = [.int .i64 op', .slice ca' n1' cc', .slice pa' n2' pc', .bool em, .bool eo]) := hfv
      have HX : Hid (x = (toL n.kids)[k]) := hx
      have HDN : Hid ((den n.kids)[k] = (em, x.end)) := by rw [hem]; exact hden
      obtain ⟨nx, hnx⟩ : ∃ nx, nx = (eo || (bk && em)) := ⟨_, rfl⟩
      have HPOST : Hid (∀ w2, PsPost B d x ((c, bk) :: hO) g (k * 5) cg (fps k) wr w2 → ∃ en, w2.cell? ⟨b, off + 4, none⟩ = some (.bool e) ∧ w2.frozen? ⟨b, off + 4, none⟩ = false ∧ w2.cell? ⟨g, k * 5 + 4, none⟩ = some (.bool en) ∧ w2.cell? ⟨g, k * 5 + 3, none⟩ = some (.bool em) ∧
          PxAt B d n (accAt (den n.kids) false ((c, bg) :: hk) (k + 1)) ((seqHs (den n.kids) ((c, bg) :: hk)).take (k + 1) ++ (seqHs (den n.kids) hk).drop (k + 1)) (some ⟨g, 0, none⟩) b off cur fp w (w2.setCell ⟨b, off + 4, none⟩ (.bool (en || (e && em))))) := by
        intro w2 ⟨p1, p2, p3⟩
        obtain ⟨q1, q2, q3, q4, q5, q6, q7⟩ := HG.out
        have hbg : b ≠ g := fun h => HFB.out (h ▸ q2)
        have hb2 : w2.heap[b]? = some (.cells (cur.setIfInBounds (off + 4) (.bool e)) 82 (0, 0)) :=
          (p3.block b (Array.getElem?_eq_some_iff.1 HB1.out).1 (fun h => HFB.out (q7 b h)) hbg).trans HB1.out
        obtain ⟨_, _, v2, _, v4⟩ := five_at (five_set HV.out (.bool e))
        obtain ⟨_, _, _, z3, _⟩ := five_at (five_set HFV.out (.bool (x.end ((c, bk) :: hO))))
        refine ⟨x.end ((c, bk) :: hO), (cell_of_row w2 b (off + 4) _ _ _ hb2).trans v4, Lib.frozen_of_heap hb2 _, ?_, (cell_of_row w2 g (k * 5 + 3) _ _ _ p1).trans z3, ?_⟩
        · rw [cell_of_row w2 g (k * 5 + 4) _ _ _ p1, Array.getElem?_setIfInBounds_self_of_lt (by omega)]
        have hst := RowV.step q1 q2 q3 HALL.out HFF.out k hkl ((c, bk) :: hO) (by rw [q4]; exact hkl) (.bool (x.end ((c, bk) :: hO))) p1 (by rw [← HX.out]; exact p2) p3
        have hval : accAt (den n.kids) false ((c, bg) :: hk) (k + 1) = (x.end ((c, bk) :: hO) || (e && em)) := by
          rw [accAt_succ _ _ _ k hkd, ← HE.out, HDN.out, HHN.out]
        have hhs : ((seqHs (den n.kids) ((c, bg) :: hk)).take k ++ (seqHs (den n.kids) hk).drop k).set k ((c, bk) :: hO) = (seqHs (den n.kids) ((c, bg) :: hk)).take (k + 1) ++ (seqHs (den n.kids) hk).drop (k + 1) := by
          rw [← HHN.out]; exact join_set _ _ k (by rw [seqHs_len, seqHs_len]) (by rw [seqHs_len]; exact hkd)
        rw [hhs] at hst
        refine ⟨?_, hst.map (fun x hx hf => ?_) (fun n h vs fq hq hk => hk.frame d (fun x hx hf => ?_)), by rw [← hhs, List.length_set]; exact q4, ?_⟩
        · rw [hval, heap_setCell_same w2 b (off + 4) _ _ _ hb2, set_set]
        · exact Below.heap_setCell _ _ _ x (fun h => HFB.out ((show x = b from h) ▸ hf))
        · refine Below.heap_setCell _ _ _ x (fun h => ?_)
          rcases hf with hf | hf
          · exact HFB.out ((show x = b from h) ▸ hq x hf)
          · have h1 : x = b := h
            have h2 := HBB.out
            omega
        · exact (q5.trans (p3.up q7 q2)).trans (Chg.set fp b _ w2 _)
      rw [← hnx] at HNX
      have HNXV : Hid (nx = (eo || (bk && em))) := hnx
      clear hb1 hrow hlen hchg hg hfg hlg hall k1 k2 k3 k4 k4' hgk hBwr hfv y3 y4 hx heo hem hden hhO hnx HALL HG HB1 HFV HX HDN HHN HAT HE HBK
      cases eo
      all_goals cases bk
      all_goals
        go_upto_region 6 with fail
        go_wp2_with fail
        refine HC.out.mono ?_
        rintro y w2 ⟨rfl, hp2⟩
        obtain ⟨en, m4, mf, n4, n3, hnew⟩ := HPOST.out w2 hp2
        have HNEW : Hid (PxAt B d n (accAt (den n.kids) false ((c, bg) :: hk) (k + 1)) ((seqHs (den n.kids) ((c, bg) :: hk)).take (k + 1) ++ (seqHs (den n.kids) hk).drop (k + 1)) (some ⟨g, 0, none⟩) b off cur fp w (w2.setCell ⟨b, off + 4, none⟩ (.bool (en || (e && em))))) := hnew
        clear hnew hp2 HPOST HC d2 r3 r4
        cases en
        all_goals cases e
        all_goals
          go_wp2
          go_roundw
          case rel => exact ⟨k + 1, by omega, by go_num, by rw [← HNX.out, HNXV.out]; simp, by simpa using HNEW.out⟩
          case measure => simp [intOf]; omega
    · obtain rfl : k = N := by omega
      have HFIN : Hid (PxPost B d n (rowE false (den n.kids) ((c, bg) :: hk)) (seqHs (den n.kids) ((c, bg) :: hk)) b off cur fp w wr) := by
        refine HEND.out wr ?_
        have h1 := HAT.out
        rw [HE.out, List.take_of_length_le (by rw [seqHs_len, den_len]; exact Nat.le_of_eq HN.out.symm), List.drop_of_length_le (by rw [seqHs_len, den_len]; exact Nat.le_of_eq HN.out.symm), List.append_nil, HN.out, ← den_len, accAt_len] at h1
        exact h1
      clear HAT HE HBK
      go_wp2
      go_end0
      exact ⟨rfl, HFIN.out⟩
end Go.Proofs.Ytjbhfonokgkalaa
