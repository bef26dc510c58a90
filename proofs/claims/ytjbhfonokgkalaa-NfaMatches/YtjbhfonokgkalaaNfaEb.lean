/- The walks of has, many and or of the reference: rows of truths. -/
import Derived.Test.YtjbhfonokgkalaaNfaL
import Derived.Test.YtjbhfonokgkalaaNfaEa
namespace Go.Proofs.Ytjbhfonokgkalaa
open Go.RowKit
set_option linter.unusedVariables false
set_option linter.unusedSimpArgs false

/-- A row of truths in memory. -/
def RdB (w : World) (a : Option Addr) (len : Nat) (bs : List Bool) : Prop :=
  bs.length = len ∧ (0 < len → ∃ b off, a = some ⟨b, off, none⟩ ∧ ∀ i, i < len → w.cell? ⟨b, off + i, none⟩ = some (.bool (bs.getD i false)))
theorem RdB.later {w w' : World} {a : Option Addr} {len : Nat} {bs : List Bool} (h : RdB w a len bs) (hb : Below w.heap.size w w') : RdB w' a len bs := by
  refine ⟨h.1, fun hp => ?_⟩
  obtain ⟨b, off, ha, hc⟩ := h.2 hp
  refine ⟨b, off, ha, fun i hi => ?_⟩
  exact (hb.cell (p := ⟨b, off + i, none⟩) (World.block_lt_of_cell? w _ (hc i hi))).trans (hc i hi)
theorem rdB_own {w : World} {B : Nat} {e : TypeId} {v : Value} {n : Nat} {bs : List Bool} (h : w.ownsRow B e 1 v n (bs.map Value.bool)) : ∃ a cap, v = .slice a n cap ∧ n ≤ cap ∧ (a = none → cap = 0) ∧ RdB w a n bs := by
  have hl : bs.length = n := by simpa using h.1
  rcases h.2 with ⟨rfl, rfl⟩ | ⟨g, cap, cur, rfl, hb, hg, hn, hm, hs, ht⟩
  · exact ⟨none, 0, rfl, by omega, fun _ => rfl, hl, fun hp => absurd hp (by omega)⟩
  · refine ⟨_, cap, rfl, hn, (fun h => by cases h), hl, fun hp => ⟨g, 0, rfl, fun i hi => ?_⟩⟩
    rw [cell_of_row w g (0 + i) cur e (0, 0) hg]
    have h1 : (cur.toList.take (n * 1))[i]? = (bs.map Value.bool)[i]? := by rw [ht]
    rw [List.getElem?_take, if_pos (by omega)] at h1
    simp at h1 ⊢
    rw [h1]
    simp [show i < bs.length by omega]
/-- A row of truths that is made. -/
theorem make_b (n : Nat) (hn : n ≤ 1000000) : ∃ CB : Array Value, CB.toList = (List.replicate n false).map Value.bool ∧ CB.size = n ∧ ∀ W : World, (Instr.makeSlice 27 (.int .i64 (n : Int)) (.int .i64 (n : Int))).run Try.prog W = .ok (.slice (some ⟨W.heap.size, 0, none⟩) n n) (W.alloc (.cells CB 4)) := by
  obtain ⟨i0, hi, hz0, hz1, hz2⟩ := info_parts info_b
  refine ⟨madeCells (Value.bool false).cells (n * 1), ?_, by rw [size_madeCells]; omega, fun W => ?_⟩
  · rw [Nat.mul_one, List.map_replicate]; exact made_one _ _
  · have := run_make (P := Try.prog) W 27 4 i0 _ Try.underlying27 hi hz0 .i64 .i64 (n : Int) (n : Int) (by omega) (by omega) (by rw [hz2]; omega) (by omega)
    rw [show ((n : Int)).toNat = n by omega, hz1] at this
    exact this
theorem own_made (w : World) (CB : Array Value) (n : Nat) (bs : List Bool) (h : CB.toList = bs.map Value.bool) (hn : CB.size = n) (hm : n ≤ 1000000) : (w.alloc (.cells CB 4)).ownsRow w.heap.size 4 1 (.slice (some ⟨w.heap.size, 0, none⟩) n n) n (bs.map Value.bool) :=
  ⟨by rw [← h]; simp [hn], .inr ⟨w.heap.size, n, CB, rfl, Nat.le_refl _, heap_alloc_new w _, Nat.le_refl _, by unfold maxLen; omega, by omega, by rw [← h]; exact List.take_of_length_le (by simp [hn])⟩⟩
set_option maxHeartbeats 1000000 in
theorem hasI_any (xs : List Int) (c : Int) (a : Option Addr) (len cap : Nat) (w : World) (hrd : Rd .i64 w a len xs) (hm : len ≤ 9223372036854775806) :
    Calls Try.prog 71 #[.slice a len cap, .int .i64 c] w fun e w' => e = .returned (.bool (decide (c ∈ xs))) ∧ w' = w := by
  have HD : Hid (Rd .i64 w a len xs) := hrd
  have HL : Hid (xs.length = len) := hrd.1
  obtain ⟨R, hR⟩ : ∃ R, R = decide (c ∈ xs) := ⟨_, rfl⟩
  rw [← hR]
  have HR : Hid (R = decide (c ∈ xs)) := hR
  clear hrd hR
  go_enter Try.func71, Try.ntmps71
  go_wp2
  go_loop [5] (fun x8 => ∃ k : Nat, k ≤ len ∧ x8 = .int .i64 k ∧ ∀ j (hj : j < xs.length), j < k → (xs[j] == c) = false) (fun x8 => len - (intOf x8).toNat)
  case atStart => exact ⟨0, by omega, rfl, fun j _ hj => absurd hj (by omega)⟩
  case round =>
    obtain ⟨k, hk, hx8, hat⟩ := hrel
    subst hx8
    have HA : Hid (∀ j (hj : j < xs.length), j < k → (xs[j] == c) = false) := hat
    clear hat
    by_cases hlt : k < len
    · obtain ⟨b, off, rfl, hcl⟩ := HD.out.2 (by omega)
      have hcc := hcl k hlt
      have hkl : k < xs.length := by rw [HL.out]; exact hlt
      obtain ⟨x, hx⟩ : ∃ x, x = xs.getD k 0 := ⟨_, rfl⟩
      have HX : Hid (x = xs[k]) := by show x = xs[k]; rw [hx]; simp [hkl]
      rw [← hx] at hcc
      clear hcl hx
      by_cases he : (x == c) = true
      · have hR : R = true := by
          rw [HR.out, decide_eq_true_eq, ← beq_iff_eq.1 he, HX.out]
          exact List.getElem_mem hkl
        subst hR
        go_wp2
        go_ret
        exact ⟨rfl, rfl⟩
      · rw [Bool.not_eq_true] at he
        have HE : Hid ((x == c) = false) := he
        go_wp2
        go_round
        case rel =>
          refine ⟨k + 1, by omega, by go_num, fun j hj hj2 => ?_⟩
          rcases Nat.lt_or_ge j k with h | h
          · exact HA.out j hj h
          · obtain rfl : j = k := by omega
            rw [← HX.out]; exact HE.out
        case measure => simp [intOf]; omega
    · have hR : R = false := by
        rw [HR.out, decide_eq_false_iff_not]
        intro hm
        obtain ⟨j, hj, e⟩ := List.mem_iff_getElem.1 hm
        have := HA.out j hj (by rw [HL.out] at hj; omega)
        rw [e] at this
        simp at this
      subst hR
      go_wp2
      go_ret
      exact ⟨rfl, rfl⟩
set_option maxHeartbeats 1000000 in
theorem manyB_any (bs : List Bool) (a : Option Addr) (len cap : Nat) (w : World) (hrd : RdB w a len bs) (hm : len ≤ 1000000) :
    Calls Try.prog 73 #[.slice a len cap] w fun e w' => e = .returned (.int .i64 (manyB bs : Int)) ∧ w' = w := by
  have HD : Hid (RdB w a len bs) := hrd
  have HL : Hid (bs.length = len) := hrd.1
  have hli : (len : Int) ≤ 1000000 := by omega
  clear hrd
  go_enter Try.func73, Try.ntmps73
  go_wp2
  go_loop [3, 4] (fun x3 x4 => ∃ k : Nat, k ≤ len ∧ x4 = .int .i64 k ∧ x3 = .int .i64 (manyB (bs.take k) : Int)) (fun _ x4 => len - (intOf x4).toNat)
  case atStart => exact ⟨0, by omega, rfl, by simp [manyB]⟩
  case round =>
    obtain ⟨k, hk, hx4, hx3⟩ := hrel
    obtain ⟨m, hmm⟩ : ∃ m, m = manyB (bs.take k) := ⟨_, rfl⟩
    rw [← hmm] at hx3
    subst hx4
    subst hx3
    have hmb : m ≤ k := by
      have h1 := manyB_le (bs.take k)
      rw [← hmm, List.length_take] at h1
      omega
    have hmi : (m : Int) ≤ 1000000 := by omega
    by_cases hlt : k < len
    · obtain ⟨b, off, rfl, hcl⟩ := HD.out.2 (by omega)
      have hcc := hcl k hlt
      have hkl : k < bs.length := by rw [HL.out]; exact hlt
      obtain ⟨x, hx⟩ : ∃ x, x = bs.getD k false := ⟨_, rfl⟩
      have hxk : x = bs[k] := by rw [hx]; simp [hkl]
      have HNX : Hid (manyB (bs.take (k + 1)) = m + (if x then 1 else 0)) := by
        show _ = _
        rw [take_snoc bs k hkl, manyB_snoc, ← hxk, hmm]
      rw [← hx] at hcc
      clear hcl hx hxk hmm
      cases x
      · go_wp2
        go_round
        case rel => exact ⟨k + 1, by omega, by go_num, by rw [HNX.out]; rfl⟩
        case measure => simp [intOf]; omega
      · go_wp2
        go_round
        case rel => exact ⟨k + 1, by omega, by go_num, by rw [HNX.out]; go_num⟩
        case measure => simp [intOf]; omega
    · have HR : Hid (m = manyB bs) := by
        show _ = _
        rw [hmm, List.take_of_length_le (by rw [HL.out]; omega)]
      clear hmm
      have hnlt : ¬ (k : Int) < (len : Int) := by omega
      go_wp2
      go_ret
      exact ⟨by rw [HR.out]; rfl, rfl⟩
theorem get_bool (L : List Bool) (k m : Nat) (h : (L.map Value.bool).length = m) (hk : k < m) : ∃ z, (L.map Value.bool)[k]? = some (.bool z) := by
  have hl : k < L.length := by simp at h; omega
  exact ⟨L[k], by rw [List.getElem?_map, List.getElem?_eq_getElem hl]; rfl⟩
theorem orB_take_set (a b : List Bool) (hl : a.length = b.length) (k : Nat) (hk : k < a.length) (zs : List Bool) (hz : zs = (orB a b).take k ++ List.replicate (a.length - k) false) : zs.set k (a.getD k false || b.getD k false) = (orB a b).take (k + 1) ++ List.replicate (a.length - (k + 1)) false := by
  have hol := orB_len a b hl
  have hko : k < (orB a b).length := by omega
  have hg : (orB a b)[k] = (a.getD k false || b.getD k false) := by
    have h1 := orB_at a b k hk (by omega)
    rw [List.getElem?_eq_getElem hko] at h1
    rw [Option.some.inj h1]
    simp [hk, show k < b.length by omega]
  rw [hz, List.set_append_right _ _ (by simp; omega), ← hg]
  have e : (k - ((orB a b).take k).length) = 0 := by simp; omega
  rw [e, show a.length - k = (a.length - (k + 1)) + 1 by omega, List.replicate_succ, List.set_cons_zero, List.take_succ_eq_append_getElem hko, List.append_assoc]
  rfl
set_option maxHeartbeats 2000000 in
theorem orB_any (ys bs : List Bool) (a1 a2 : Option Addr) (len c1 c2 : Nat) (w : World) (h1 : RdB w a1 len ys) (h2 : RdB w a2 len bs) (hm : len ≤ 1000) :
    Calls Try.prog 72 #[.slice a1 len c1, .slice a2 len c2] w fun e w' => ∃ v, e = .returned v ∧ w'.ownsRow w.heap.size 4 1 v len ((orB ys bs).map Value.bool) ∧ Below w.heap.size w w' := by
  obtain ⟨CB, hcb, hcs, hmk⟩ := make_b len (by omega)
  have HL : Hid (ys.length = len ∧ bs.length = len) := ⟨h1.1, h2.1⟩
  have HO0 : Hid ((w.alloc (.cells CB 4)).ownsRow w.heap.size 4 1 (.slice (some ⟨w.heap.size, 0, none⟩) len len) len (((orB ys bs).take 0 ++ List.replicate (len - 0) false).map Value.bool)) := own_made w CB len _ (by simpa using hcb) hcs (by omega)
  have HB0 : Hid (Below w.heap.size w (w.alloc (.cells CB 4))) := (Below.refl _ w).alloc (Nat.le_refl _) _
  have HA : Hid (RdB w a1 len ys) := h1
  have HB : Hid (RdB w a2 len bs) := h2
  have hli : (len : Int) ≤ 1000 := by omega
  obtain ⟨g, hg⟩ : ∃ g, g = w.heap.size := ⟨_, rfl⟩
  have HG : Hid (g = w.heap.size) := hg
  clear hcb hcs h1 h2 hg
  go_enter Try.func72, Try.ntmps72
  go_wp2
  go_loopw [6] (fun x6 wr => ∃ k : Nat, k ≤ len ∧ x6 = .int .i64 k ∧ wr.ownsRow w.heap.size 4 1 (.slice (some ⟨w.heap.size, 0, none⟩) len len) len (((orB ys bs).take k ++ List.replicate (len - k) false).map Value.bool) ∧ Below w.heap.size w wr) (fun x6 _ => len - (intOf x6).toNat)
  case atStart => exact ⟨0, by omega, rfl, HO0.out, HB0.out⟩
  case round =>
    obtain ⟨k, hk, hx6, ho, hbl⟩ := hrel
    subst hx6
    have HO : Hid (wr.ownsRow w.heap.size 4 1 (.slice (some ⟨w.heap.size, 0, none⟩) len len) len (((orB ys bs).take k ++ List.replicate (len - k) false).map Value.bool)) := ho
    have HBL : Hid (Below w.heap.size w wr) := hbl
    clear ho hbl hmk HO0 HB0
    by_cases hlt : k < len
    · obtain ⟨b1, o1, rfl, e1⟩ := (HA.out.later HBL.out).2 (by omega)
      obtain ⟨b2, o2, rfl, e2⟩ := (HB.out.later HBL.out).2 (by omega)
      have t1 := e1 k hlt
      have t2 := e2 k hlt
      obtain ⟨x, hx⟩ : ∃ x, x = ys.getD k false := ⟨_, rfl⟩
      obtain ⟨y, hy⟩ : ∃ y, y = bs.getD k false := ⟨_, rfl⟩
      obtain ⟨g2, hg2, _, cur, hcur, hcell⟩ := own_cells1 HO.out (by omega)
      have hgg : w.heap.size = g2 := by simpa using hg2
      have t3 := hcell k hlt
      have hfz := Lib.frozen_of_heap hcur
      obtain ⟨z, hz⟩ : ∃ z, (((orB ys bs).take k ++ List.replicate (len - k) false).map Value.bool)[k]? = some (.bool z) := get_bool _ k len (by have := HO.out.1; omega) hlt
      rw [hz] at t3
      have HNX : Hid ((wr.setCell ⟨w.heap.size, k, none⟩ (.bool (x || y))).ownsRow w.heap.size 4 1 (.slice (some ⟨w.heap.size, 0, none⟩) len len) len (((orB ys bs).take (k + 1) ++ List.replicate (len - (k + 1)) false).map Value.bool)) := by
        have h1 := own_set1 HO.out k (.bool (x || y))
        have h2 := orB_take_set ys bs (by rw [HL.out.1, HL.out.2]) k (by rw [HL.out.1]; exact hlt) _ (by rw [HL.out.1])
        rw [HL.out.1] at h2
        rw [← h2, List.map_set, ← hx, ← hy]
        exact h1
      have HB2 : Hid (Below w.heap.size w (wr.setCell ⟨w.heap.size, k, none⟩ (.bool (x || y)))) := HBL.out.setCell (p := ⟨w.heap.size, k, none⟩) (Nat.le_refl _) _
      rw [← hx] at t1
      rw [← hy] at t2
      rw [← hgg] at t3 hfz
      clear e1 e2 hx hy hcell hcur hz hg2 hgg
      cases x
      · go_wp2
        go_roundw
        case rel => exact ⟨k + 1, by omega, by go_num, HNX.out, HB2.out⟩
        case measure => simp [intOf]; omega
      · go_wp2
        go_roundw
        case rel => exact ⟨k + 1, by omega, by go_num, HNX.out, HB2.out⟩
        case measure => simp [intOf]; omega
    · obtain rfl : k = len := by omega
      have HF : Hid (wr.ownsRow w.heap.size 4 1 (.slice (some ⟨w.heap.size, 0, none⟩) k k) k ((orB ys bs).map Value.bool)) := by
        have h1 := HO.out
        rw [Nat.sub_self, List.replicate_zero, List.append_nil, List.take_of_length_le (by rw [orB_len _ _ (by rw [HL.out.1, HL.out.2]), HL.out.1]; exact Nat.le_refl _)] at h1
        exact h1
      go_wp2
      go_ret
      exact ⟨_, rfl, HF.out, HBL.out⟩
end Go.Proofs.Ytjbhfonokgkalaa
