/- The walks of passEach and passRow, by what pass leaves of the parts. -/
import Derived.Test.YtjbhfonokgkalaaReaB
namespace Go.Proofs.Ytjbhfonokgkalaa
open Go.RowKit
set_option linter.unusedVariables false

/-- What pass leaves. -/
def PsPost (B d : Nat) (n : Nd) (h' : Hist) (b off : Nat) (cur : Array Value) (fp : Nat → Prop) (w w' : World) : Prop :=
  w'.heap[b]? = some (.cells (cur.setIfInBounds (off + 4) (.bool (n.end h'))) 82 (0, 0)) ∧ NdV B w' d n h' (((cur.setIfInBounds (off + 4) (.bool (n.end h'))).toList.drop off).take 5) fp ∧ Chg fp b w w'
/-- What pass does to an expression no deeper than that. -/
def PassC (B d : Nat) : Prop := ∀ (n : Nd) (h : Hist) (c : Int) (bg : Bool) (b off : Nat) (cur : Array Value) (fp : Nat → Prop) (w : World), w.heap[b]? = some (.cells cur 82 (0, 0)) → ¬ fp b → B ≤ b → (∀ x, fp x → B ≤ x) → B ≤ w.heap.size →
  NdV B w d n h ((cur.toList.drop off).take 5) fp → Calls Try.prog 78 #[.pointer (some ⟨b, off, none⟩), .int .i64 c, .bool bg] w fun e w' => e = .returned (.tuple #[]) ∧ PsPost B d n ((c, bg) :: h) b off cur fp w w'
/-- What passEach and passRow leave. -/
def PxPost (B d : Nat) (n : Nd) (e : Bool) (hs : List Hist) (b off : Nat) (cur : Array Value) (fp : Nat → Prop) (w w' : World) : Prop :=
  w'.heap[b]? = some (.cells (cur.setIfInBounds (off + 4) (.bool e)) 82 (0, 0)) ∧ NdX (NdV B w' d) B w' n e hs (((cur.setIfInBounds (off + 4) (.bool e)).toList.drop off).take 5) fp ∧ Chg fp b w w'
theorem set_set (cur : Array Value) (p : Nat) (u v : Value) : (cur.setIfInBounds p u).setIfInBounds p v = cur.setIfInBounds p v := by simp
/-- Where passEach's, and passRow's, loop stands: what is told of the parts so far, and what they have read. -/
def PxAt (B d : Nat) (n : Nd) (e : Bool) (hs : List Hist) (pa : Option Addr) (b off : Nat) (cur : Array Value) (fp : Nat → Prop) (w wr : World) : Prop :=
  wr.heap[b]? = some (.cells (cur.setIfInBounds (off + 4) (.bool e)) 82 (0, 0)) ∧ RowV (NdV B wr d) wr (toL n.kids) hs pa fp ∧ hs.length = (toL n.kids).length ∧ Chg fp b w wr
theorem any_take_succ (l : List Dn) (k : Nat) (hk : k < l.length) (h : Hist) : (l.take (k + 1)).any (fun x => x.2 h) = ((l.take k).any (fun x => x.2 h) || (l[k]).2 h) := by
  rw [List.take_add_one, List.getElem?_eq_getElem hk, List.any_append]; simp
theorem den_at (f : Fo) (k : Nat) (hk : k < (toL f).length) : (den f)[k]'(by rw [den_len]; exact hk) = ((toL f)[k].emp, (toL f)[k].end) := by
  have : (den f)[k]? = some ((toL f)[k].emp, (toL f)[k].end) := by rw [den_map]; simp [hk]
  exact (List.getElem?_eq_some_iff.1 this).2
theorem mixed_at (N k : Nat) (x y : Hist) (h : k < N) : ((List.replicate N x).take k ++ (List.replicate N y).drop k).getD k [] = y := by
  simp only [List.take_replicate, List.drop_replicate, Nat.min_eq_left (Nat.le_of_lt h)]
  rw [List.getD_eq_getElem?_getD, List.getElem?_append_right (by simp), List.length_replicate, Nat.sub_self, List.getElem?_replicate_of_lt (by omega)]
  rfl
theorem mixed_set (N k : Nat) (x y : Hist) (h : k < N) : ((List.replicate N x).take k ++ (List.replicate N y).drop k).set k x = (List.replicate N x).take (k + 1) ++ (List.replicate N y).drop (k + 1) := by
  simp only [List.take_replicate, List.drop_replicate, Nat.min_eq_left (Nat.le_of_lt h), Nat.min_eq_left (show k + 1 ≤ N from h)]
  rw [List.set_append_right _ _ (by simp), show N - k = (N - (k + 1)) + 1 by omega, List.replicate_succ (n := N - (k + 1)), List.length_replicate, Nat.sub_self, List.replicate_succ' (n := k)]
  simp
theorem px_end {B d : Nat} {n : Nd} {e e0 : Bool} {hs : List Hist} {ca pa : Option Addr} {cc pc b off : Nat} {cur : Array Value} {fp : Nat → Prop} {w wr : World} (hB : B ≤ w.heap.size) (hbB : B ≤ b) (hfB : ∀ x, fp x → B ≤ x)
    (hv : (cur.toList.drop off).take 5 = [.int .i64 n.op, .slice ca n.cl.length cc, .slice pa (toL n.kids).length pc, .bool n.emp, .bool e0]) (hrd : Rd .i64 w ca n.cl.length n.cl) (hcb : 0 < n.cl.length → ∀ x, ca = some x → x.block < B) (hcl : n.cl.length ≤ 140737488355328) (hkl : KOk n)
    (h : PxAt B d n e hs pa b off cur fp w wr) : PxPost B d n e hs b off cur fp w wr := by
  obtain ⟨h1, h2, _, h4⟩ := h
  refine ⟨h1, ⟨ca, cc, pa, pc, five_set hv _, hrd.frame hcb (fun x hx hxB => (h4.below hfB hbB hB).block x hxB), hcb, hcl, hkl, h2⟩, h4⟩

set_option maxHeartbeats 8000000 in
theorem passEach_of (B d : Nat) (HP : PassC B d) (n : Nd) (hk : Hist) (c : Int) (bg : Bool) (e0 : Bool) (hs : List Hist) (b off : Nat) (cur : Array Value) (fp : Nat → Prop) (w : World)
    (hb : w.heap[b]? = some (.cells cur 82 (0, 0))) (hfb : ¬ fp b) (hbB : B ≤ b) (hfB : ∀ x, fp x → B ≤ x) (hB : B ≤ w.heap.size) (hn : NdX (NdV B w d) B w n e0 hs ((cur.toList.drop off).take 5) fp) (hhs : hs = List.replicate (toL n.kids).length hk) :
    Calls Try.prog 84 #[.pointer (some ⟨b, off, none⟩), .int .i64 c, .bool bg] w fun e w' => e = .returned (.tuple #[]) ∧ PxPost B d n (anyE (den n.kids) ((c, bg) :: hk)) (List.replicate (toL n.kids).length ((c, bg) :: hk)) b off cur fp w w' := by
  have HPC : Hid (PassC B d) := HP
  obtain ⟨ca, cc, pa, pc, hv, hrd, hcb, hcl, hkl, hrow⟩ := hn
  have HV : Hid ((cur.toList.drop off).take 5 = [.int .i64 n.op, .slice ca n.cl.length cc, .slice pa (toL n.kids).length pc, .bool n.emp, .bool e0]) := hv
  obtain ⟨v0, v1, v2, v3, v4⟩ := five_at hv
  have c2 : w.cell? ⟨b, off + 2, none⟩ = some (.slice pa (toL n.kids).length pc) := (cell_of_row w b (off + 2) _ _ _ hb).trans v2
  have c4 : w.cell? ⟨b, off + 4, none⟩ = some (.bool e0) := (cell_of_row w b (off + 4) _ _ _ hb).trans v4
  have f4 : w.frozen? ⟨b, off + 4, none⟩ = false := Lib.frozen_of_heap hb _
  have hw0 : (w.setCell ⟨b, off + 4, none⟩ (.bool false)).heap[b]? = some (.cells (cur.setIfInBounds (off + 4) (.bool false)) 82 (0, 0)) := heap_setCell_same w b (off + 4) cur _ _ hb
  have g2 : (w.setCell ⟨b, off + 4, none⟩ (.bool false)).cell? ⟨b, off + 2, none⟩ = some (.slice pa (toL n.kids).length pc) := by
    rw [cell_of_row _ b (off + 2) _ _ _ hw0, Array.getElem?_setIfInBounds_ne (by omega)]; exact v2
  obtain ⟨N, hN⟩ : ∃ N, N = (toL n.kids).length := ⟨_, rfl⟩
  rw [← hN] at c2 g2
  have hNi : (N : Int) ≤ 2600000000000 := by have := hkl.1; omega
  have HST : Hid (PxAt B d n false hs pa b off cur fp w (w.setCell ⟨b, off + 4, none⟩ (.bool false))) := by
    refine ⟨hw0, hrow.map (fun g hg hf => ?_) (fun n h vs fq hq hk => hk.frame d (fun g hg hgf => ?_)), by rw [hhs]; simp, Chg.set fp b _ w _⟩
    · exact Below.heap_setCell _ _ _ g (fun e => hfb ((show g = b from e) ▸ hf))
    · refine Below.heap_setCell _ _ _ g (fun e => ?_)
      rcases hgf with hgf | hgf
      · exact hfb ((show g = b from e) ▸ hq g hgf)
      · have : g = b := e
        omega
  have HEND : Hid (∀ wr, PxAt B d n (anyE (den n.kids) ((c, bg) :: hk)) (List.replicate (toL n.kids).length ((c, bg) :: hk)) pa b off cur fp w wr → PxPost B d n (anyE (den n.kids) ((c, bg) :: hk)) (List.replicate (toL n.kids).length ((c, bg) :: hk)) b off cur fp w wr) :=
    fun wr h => px_end hB hbB hfB hv hrd hcb hcl hkl h
  have HN : Hid (N = (toL n.kids).length) := hN
  have HHS : Hid (hs = List.replicate (toL n.kids).length hk) := hhs
  have HFB : Hid (¬ fp b) := hfb
  have HBB : Hid (B ≤ b) := hbB
  have HFF : Hid (∀ x, fp x → B ≤ x) := hfB
  have HBW : Hid (B ≤ w.heap.size) := hB
  obtain ⟨W, hW⟩ : ∃ W, W = w.setCell ⟨b, off + 4, none⟩ (.bool false) := ⟨_, rfl⟩
  rw [← hW] at g2 HST
  clear HP hv hrd hcb hcl hkl hrow v0 v1 v2 v3 v4 hw0 hN hhs hfb hbB hfB hB hb
  go_enter Try.func84, Try.ntmps84
  go_upto_region 1 with fail
  rw [← hW]
  clear hW c2 c4 f4
  go_wp2
  go_loopw [15] (fun x15 wr => ∃ k : Nat, k ≤ N ∧ x15 = .int .i64 k ∧ PxAt B d n (((den n.kids).take k).any fun x => x.2 ((c, bg) :: hk)) ((List.replicate (toL n.kids).length ((c, bg) :: hk)).take k ++ hs.drop k) pa b off cur fp w wr) (fun x15 _ => N - (intOf x15).toNat)
  case atStart => exact ⟨0, by omega, rfl, by simpa using HST.out⟩
  case round =>
    obtain ⟨k, hk', hx15, hat⟩ := hrel
    subst hx15
    obtain ⟨e, he⟩ : ∃ e, e = (((den n.kids).take k).any fun x => x.2 ((c, bg) :: hk)) := ⟨_, rfl⟩
    rw [← he] at hat
    have HE : Hid (e = (((den n.kids).take k).any fun x => x.2 ((c, bg) :: hk))) := he
    have HAT : Hid (PxAt B d n e ((List.replicate (toL n.kids).length ((c, bg) :: hk)).take k ++ hs.drop k) pa b off cur fp w wr) := hat
    clear hat he g2
    obtain ⟨v0, v1, v2, v3, v4⟩ := five_at (five_set HV.out (.bool e))
    have d2 : wr.cell? ⟨b, off + 2, none⟩ = some (.slice pa N pc) := by rw [HN.out]; exact (cell_of_row wr b (off + 2) _ _ _ HAT.out.1).trans v2
    clear v0 v1 v2 v3 v4
    by_cases hlt : k < N
    · have hkl : k < (toL n.kids).length := by rw [← HN.out]; exact hlt
      obtain ⟨hb1, hrow, hlen, hchg⟩ := HAT.out
      obtain ⟨g, cg, rfl, hg, hfg, hlg, fps, hall⟩ := hrow (by omega)
      obtain ⟨k1, k2, k3, k4⟩ := hall k hkl
      have hgk : ((List.replicate (toL n.kids).length ((c, bg) :: hk)).take k ++ hs.drop k).getD k [] = hk := by
        rw [HHS.out]; exact mixed_at _ k _ _ hkl
      rw [hgk] at k4
      have hBwr : B ≤ wr.heap.size := Nat.le_trans HBW.out hchg.size
      have HC : Hid (Calls Try.prog 78 #[.pointer (some ⟨g, k * 5, none⟩), .int .i64 c, .bool bg] wr fun e w' => e = .returned (.tuple #[]) ∧ PsPost B d (toL n.kids)[k] ((c, bg) :: hk) g (k * 5) cg (fps k) wr w') :=
        HPC.out (toL n.kids)[k] hk c bg g (k * 5) cg (fps k) wr hg k1 (HFF.out g hfg) (fun x hx => HFF.out x (k2 x hx)) hBwr k4
      have HALL : Hid (∀ i (hi : i < (toL n.kids).length), ¬ fps i g ∧ (∀ x, fps i x → fp x) ∧ (∀ j, j < i → ∀ x, fps i x → ¬ fps j x) ∧ NdV B wr d (toL n.kids)[i] (((List.replicate (toL n.kids).length ((c, bg) :: hk)).take k ++ hs.drop k).getD i []) ((cg.toList.drop (i * 5)).take 5) (fps i)) := hall
      have HG : Hid (wr.heap[g]? = some (.cells cg 82 (0, 0)) ∧ fp g ∧ (toL n.kids).length * 5 ≤ cg.size ∧ ((List.replicate (toL n.kids).length ((c, bg) :: hk)).take k ++ hs.drop k).length = (toL n.kids).length ∧ Chg fp b w wr ∧ ¬ fps k g ∧ (∀ x, fps k x → fp x)) := ⟨hg, hfg, hlg, hlen, hchg, k1, k2⟩
      have HB1 : Hid (wr.heap[b]? = some (.cells (cur.setIfInBounds (off + 4) (.bool e)) 82 (0, 0))) := hb1
      clear hb1 hrow hlen hchg hg hfg hlg hall k1 k2 k3 k4 hgk hBwr
      go_upto_region 4 with fail
      go_wp2_with fail
      refine HC.out.mono ?_
      rintro x w2 ⟨rfl, p1, p2, p3⟩
      obtain ⟨q1, q2, q3, q4, q5, q6, q7⟩ := HG.out
      have hbg : b ≠ g := fun h => HFB.out (h ▸ q2)
      have hb2 : w2.heap[b]? = some (.cells (cur.setIfInBounds (off + 4) (.bool e)) 82 (0, 0)) :=
        (p3.block b (Array.getElem?_eq_some_iff.1 HB1.out).1 (fun h => HFB.out (q7 b h)) hbg).trans HB1.out
      obtain ⟨en, hen⟩ : ∃ en, en = (toL n.kids)[k].end ((c, bg) :: hk) := ⟨_, rfl⟩
      rw [← hen] at p1 p2
      obtain ⟨_, _, v2, _, v4⟩ := five_at (five_set HV.out (.bool e))
      have m2 : w2.cell? ⟨b, off + 2, none⟩ = some (.slice (some ⟨g, 0, none⟩) N pc) := by rw [HN.out]; exact (cell_of_row w2 b (off + 2) _ _ _ hb2).trans v2
      have m4 : w2.cell? ⟨b, off + 4, none⟩ = some (.bool e) := (cell_of_row w2 b (off + 4) _ _ _ hb2).trans v4
      have mf : w2.frozen? ⟨b, off + 4, none⟩ = false := Lib.frozen_of_heap hb2 _
      have n4 : w2.cell? ⟨g, k * 5 + 4, none⟩ = some (.bool en) := by
        rw [cell_of_row w2 g (k * 5 + 4) _ _ _ p1, Array.getElem?_setIfInBounds_self_of_lt (by omega)]
      have HNEW : Hid (PxAt B d n (((den n.kids).take (k + 1)).any fun x => x.2 ((c, bg) :: hk)) ((List.replicate (toL n.kids).length ((c, bg) :: hk)).take (k + 1) ++ hs.drop (k + 1)) (some ⟨g, 0, none⟩) b off cur fp w (w2.setCell ⟨b, off + 4, none⟩ (.bool (e || en)))) := by
        have hst := RowV.step q1 q2 q3 HALL.out HFF.out k hkl ((c, bg) :: hk) (by rw [q4]; exact hkl) (.bool en) p1 p2 p3
        have hval : (((den n.kids).take (k + 1)).any fun x => x.2 ((c, bg) :: hk)) = (e || en) := by
          rw [any_take_succ _ k (by rw [den_len]; exact hkl), den_at n.kids k hkl, ← HE.out, hen]
        have hhs : ((List.replicate (toL n.kids).length ((c, bg) :: hk)).take k ++ hs.drop k).set k ((c, bg) :: hk) = (List.replicate (toL n.kids).length ((c, bg) :: hk)).take (k + 1) ++ hs.drop (k + 1) := by
          rw [HHS.out]; exact mixed_set _ k _ _ hkl
        rw [hhs] at hst
        refine ⟨?_, hst.map (fun x hx hf => ?_) (fun n h vs fq hq hk => hk.frame d (fun x hx hf => ?_)), by rw [← hhs, List.length_set]; exact q4, ?_⟩
        · rw [hval, heap_setCell_same w2 b (off + 4) _ _ _ hb2, set_set]
        · exact Below.heap_setCell _ _ _ x (fun h => HFB.out ((show x = b from h) ▸ hf))
        · refine Below.heap_setCell _ _ _ x (fun h => ?_)
          rcases hf with hf | hf
          · exact HFB.out ((show x = b from h) ▸ hq x hf)
          · have h1 : x = b := h
            have h2 := HBB.out
            omega
        · exact (q5.trans (p3.up q7 q2)).trans (Chg.set fp b _ w2 _)
      clear p1 p2 p3 q1 q2 q3 q4 q5 q6 q7 hbg hb2 hen v2 v4 HALL HG HB1 HC HAT HE d2
      cases e with
      | true =>
        go_wp2
        go_roundw
        case rel => exact ⟨k + 1, by omega, by go_num, HNEW.out⟩
        case measure => simp [intOf]; omega
      | false =>
        go_wp2
        go_roundw
        case rel => exact ⟨k + 1, by omega, by go_num, by simpa using HNEW.out⟩
        case measure => simp [intOf]; omega
    · obtain rfl : k = N := by omega
      have HFIN : Hid (PxPost B d n (anyE (den n.kids) ((c, bg) :: hk)) (List.replicate (toL n.kids).length ((c, bg) :: hk)) b off cur fp w wr) := by
        refine HEND.out wr ?_
        have h1 := HAT.out
        rw [HE.out, List.take_of_length_le (by rw [den_len]; exact Nat.le_of_eq HN.out.symm), List.take_of_length_le (by simp; exact Nat.le_of_eq HN.out.symm), HHS.out, List.drop_of_length_le (by simp; exact Nat.le_of_eq HN.out.symm), List.append_nil] at h1
        exact h1
      clear HAT HE
      go_wp2
      go_end0
      exact ⟨rfl, HFIN.out⟩
end Go.Proofs.Ytjbhfonokgkalaa
