/- In one text: BasT, NfaEb, NfaEc, NfaEd, NfaEe. -/
import Derived.Test.YthdeadmnicmgfaaDoorJ01
import Derived.Test.YthdeadmnicmgfaaDoorJ22
import Derived.Test.YthdeadmnicmgfaaDoorJ02
import Derived.Laws.CopyOwn
/- Rows of truths in memory; no function of the program is named here. -/
namespace Go.Proofs.YthdeadmnicmgfaaDoor
open Go.RowKit
set_option linter.unusedVariables false
set_option linter.unusedSimpArgs false

/-- A row of truths in memory. -/
def RdT (w : World) (a : Option Addr) (len : Nat) (bs : List Bool) : Prop :=
  bs.length = len ∧ (0 < len → ∃ b off, a = some ⟨b, off, none⟩ ∧ ∀ i, i < len → w.cell? ⟨b, off + i, none⟩ = some (.bool (bs.getD i false)))
theorem RdT.later {w w' : World} {a : Option Addr} {len : Nat} {bs : List Bool} (h : RdT w a len bs) (hb : Below w.heap.size w w') : RdT w' a len bs := by
  refine ⟨h.1, fun hp => ?_⟩
  obtain ⟨b, off, ha, hc⟩ := h.2 hp
  refine ⟨b, off, ha, fun i hi => ?_⟩
  exact (hb.cell (p := ⟨b, off + i, none⟩) (World.block_lt_of_cell? w _ (hc i hi))).trans (hc i hi)
theorem rdT_own {w : World} {B : Nat} {e : TypeId} {v : Value} {n : Nat} {bs : List Bool} (h : w.ownsRow B e 1 v n (bs.map Value.bool)) : ∃ a cap, v = .slice a n cap ∧ n ≤ cap ∧ (a = none → cap = 0) ∧ RdT w a n bs := by
  have hl : bs.length = n := by simpa using h.1
  rcases h.2 with ⟨rfl, rfl⟩ | ⟨g, cap, cur, rfl, hb, hg, hn, hm, hs, ht⟩
  · exact ⟨none, 0, rfl, by omega, fun _ => rfl, hl, fun hp => absurd hp (by omega)⟩
  · refine ⟨_, cap, rfl, hn, (fun h => by cases h), hl, fun hp => ⟨g, 0, rfl, fun i hi => ?_⟩⟩
    rw [cell_of_row w g (0 + i) cur e (0, 0) hg]
    have h1 : (cur.toList.take (n * 1))[i]? = (bs.map Value.bool)[i]? := by rw [ht]
    rw [List.getElem?_take, if_pos (by omega)] at h1
    simp at h1 ⊢
    rw [h1]
    simp [show i < bs.length by omega]
theorem get_bool (L : List Bool) (k m : Nat) (h : (L.map Value.bool).length = m) (hk : k < m) : ∃ z, (L.map Value.bool)[k]? = some (.bool z) := by
  have hl : k < L.length := by simp at h; omega
  exact ⟨L[k], by rw [List.getElem?_map, List.getElem?_eq_getElem hl]; rfl⟩
end Go.Proofs.YthdeadmnicmgfaaDoor

/- The walks of has, many and or of the reference: rows of truths. -/
namespace Go.Proofs.YthdeadmnicmgfaaDoor
open Go.RowKit
set_option linter.unusedVariables false
set_option linter.unusedSimpArgs false

theorem made_rowT (v : Value) (n : Nat) : (madeCells #[v] n).toList = List.replicate n v := by
  apply List.ext_getElem
  · simp [size_madeCells]
  · intro i h1 h2
    simp [madeCells, Nat.mod_one]
/-- A row of truths that is made. -/
theorem make_b (n : Nat) (hn : n ≤ 1000000) : ∃ CB : Array Value, CB.toList = (List.replicate n false).map Value.bool ∧ CB.size = n ∧ ∀ W : World, (Instr.makeSlice 71 (.int .i64 (n : Int)) (.int .i64 (n : Int))).run Tryd.prog W = .ok (.slice (some ⟨W.heap.size, 0, none⟩) n n) (W.alloc (.cells CB 4)) := by
  obtain ⟨i0, hi, hz0, hz1, hz2⟩ := info_parts info_b
  refine ⟨madeCells (Value.bool false).cells (n * 1), ?_, by rw [size_madeCells]; omega, fun W => ?_⟩
  · rw [Nat.mul_one, List.map_replicate]; exact made_rowT _ _
  · have := run_make (P := Tryd.prog) W 71 4 i0 _ Tryd.underlying71 hi hz0 .i64 .i64 (n : Int) (n : Int) (by omega) (by omega) (by rw [hz2]; omega) (by omega)
    rw [show ((n : Int)).toNat = n by omega, hz1] at this
    exact this
theorem own_made (w : World) (CB : Array Value) (n : Nat) (bs : List Bool) (h : CB.toList = bs.map Value.bool) (hn : CB.size = n) (hm : n ≤ 1000000) : (w.alloc (.cells CB 4)).ownsRow w.heap.size 4 1 (.slice (some ⟨w.heap.size, 0, none⟩) n n) n (bs.map Value.bool) :=
  ⟨by rw [← h]; simp [hn], .inr ⟨w.heap.size, n, CB, rfl, Nat.le_refl _, heap_alloc_new w _, Nat.le_refl _, by unfold maxLen; omega, by omega, by rw [← h]; exact List.take_of_length_le (by simp [hn])⟩⟩
set_option maxHeartbeats 1000000 in
theorem hasI_any (xs : List Int) (c : Int) (a : Option Addr) (len cap : Nat) (w : World) (hrd : Rd .i64 w a len xs) (hm : len ≤ 9223372036854775806) :
    Calls Tryd.prog 78 #[.slice a len cap, .int .i64 c] w fun e w' => e = .returned (.bool (decide (c ∈ xs))) ∧ w' = w := by
  have HD : Hid (Rd .i64 w a len xs) := hrd
  have HL : Hid (xs.length = len) := hrd.1
  obtain ⟨R, hR⟩ : ∃ R, R = decide (c ∈ xs) := ⟨_, rfl⟩
  rw [← hR]
  have HR : Hid (R = decide (c ∈ xs)) := hR
  clear hrd hR
  go_enter Tryd.func78, Tryd.ntmps78
  go_wp2
  go_loop [5] (fun x8 => ∃ k : Nat, k ≤ len ∧ x8 = .int .i64 k ∧ ∀ j (hj : j < xs.length), j < k → (xs[j] == c) = false) (fun x8 => len - (intOf x8).toNat)
  case atStart => exact ⟨0, by omega, rfl, fun j _ hj => absurd hj (by omega)⟩
  case round =>
    obtain ⟨k, hk, hx8, hat⟩ := hrel
    subst hx8
    have HA : Hid (∀ j (hj : j < xs.length), j < k → (xs[j] == c) = false) := hat
    clear hat
    by_cases hlt : k < len
    · obtain ⟨b, off, rfl, hcl⟩ := HD.out.2 (by omega)
      have hcc := hcl k hlt
      have hkl : k < xs.length := by rw [HL.out]; exact hlt
      obtain ⟨x, hx⟩ : ∃ x, x = xs.getD k 0 := ⟨_, rfl⟩
      have HX : Hid (x = xs[k]) := by show x = xs[k]; rw [hx]; simp [hkl]
      rw [← hx] at hcc
      clear hcl hx
      by_cases he : (x == c) = true
      · have hR : R = true := by
          rw [HR.out, decide_eq_true_eq, ← beq_iff_eq.1 he, HX.out]
          exact List.getElem_mem hkl
        subst hR
        go_wp2
        go_ret
        exact ⟨rfl, rfl⟩
      · rw [Bool.not_eq_true] at he
        have HE : Hid ((x == c) = false) := he
        go_wp2
        go_round
        case rel =>
          refine ⟨k + 1, by omega, by go_num, fun j hj hj2 => ?_⟩
          rcases Nat.lt_or_ge j k with h | h
          · exact HA.out j hj h
          · obtain rfl : j = k := by omega
            rw [← HX.out]; exact HE.out
        case measure => simp [intOf]; omega
    · have hR : R = false := by
        rw [HR.out, decide_eq_false_iff_not]
        intro hm
        obtain ⟨j, hj, e⟩ := List.mem_iff_getElem.1 hm
        have := HA.out j hj (by rw [HL.out] at hj; omega)
        rw [e] at this
        simp at this
      subst hR
      go_wp2
      go_ret
      exact ⟨rfl, rfl⟩
set_option maxHeartbeats 1000000 in
theorem manyB_any (bs : List Bool) (a : Option Addr) (len cap : Nat) (w : World) (hrd : RdT w a len bs) (hm : len ≤ 1000000) :
    Calls Tryd.prog 80 #[.slice a len cap] w fun e w' => e = .returned (.int .i64 (manyB bs : Int)) ∧ w' = w := by
  have HD : Hid (RdT w a len bs) := hrd
  have HL : Hid (bs.length = len) := hrd.1
  have hli : (len : Int) ≤ 1000000 := by omega
  clear hrd
  go_enter Tryd.func80, Tryd.ntmps80
  go_wp2
  go_loop [3, 4] (fun x3 x4 => ∃ k : Nat, k ≤ len ∧ x4 = .int .i64 k ∧ x3 = .int .i64 (manyB (bs.take k) : Int)) (fun _ x4 => len - (intOf x4).toNat)
  case atStart => exact ⟨0, by omega, rfl, by simp [manyB]⟩
  case round =>
    obtain ⟨k, hk, hx4, hx3⟩ := hrel
    obtain ⟨m, hmm⟩ : ∃ m, m = manyB (bs.take k) := ⟨_, rfl⟩
    rw [← hmm] at hx3
    subst hx4
    subst hx3
    have hmb : m ≤ k := by
      have h1 := manyB_le (bs.take k)
      rw [← hmm, List.length_take] at h1
      omega
    have hmi : (m : Int) ≤ 1000000 := by omega
    by_cases hlt : k < len
    · obtain ⟨b, off, rfl, hcl⟩ := HD.out.2 (by omega)
      have hcc := hcl k hlt
      have hkl : k < bs.length := by rw [HL.out]; exact hlt
      obtain ⟨x, hx⟩ : ∃ x, x = bs.getD k false := ⟨_, rfl⟩
      have hxk : x = bs[k] := by rw [hx]; simp [hkl]
      have HNX : Hid (manyB (bs.take (k + 1)) = m + (if x then 1 else 0)) := by
        show _ = _
        rw [take_snoc bs k hkl, manyB_snoc, ← hxk, hmm]
      rw [← hx] at hcc
      clear hcl hx hxk hmm
      cases x
      · go_wp2
        go_round
        case rel => exact ⟨k + 1, by omega, by go_num, by rw [HNX.out]; rfl⟩
        case measure => simp [intOf]; omega
      · go_wp2
        go_round
        case rel => exact ⟨k + 1, by omega, by go_num, by rw [HNX.out]; go_num⟩
        case measure => simp [intOf]; omega
    · have HR : Hid (m = manyB bs) := by
        show _ = _
        rw [hmm, List.take_of_length_le (by rw [HL.out]; omega)]
      clear hmm
      have hnlt : ¬ (k : Int) < (len : Int) := by omega
      go_wp2
      go_ret
      exact ⟨by rw [HR.out]; rfl, rfl⟩
theorem orB_take_set (a b : List Bool) (hl : a.length = b.length) (k : Nat) (hk : k < a.length) (zs : List Bool) (hz : zs = (orB a b).take k ++ List.replicate (a.length - k) false) : zs.set k (a.getD k false || b.getD k false) = (orB a b).take (k + 1) ++ List.replicate (a.length - (k + 1)) false := by
  have hol := orB_len a b hl
  have hko : k < (orB a b).length := by omega
  have hg : (orB a b)[k] = (a.getD k false || b.getD k false) := by
    have h1 := orB_at a b k hk (by omega)
    rw [List.getElem?_eq_getElem hko] at h1
    rw [Option.some.inj h1]
    simp [hk, show k < b.length by omega]
  rw [hz, List.set_append_right _ _ (by simp; omega), ← hg]
  have e : (k - ((orB a b).take k).length) = 0 := by simp; omega
  rw [e, show a.length - k = (a.length - (k + 1)) + 1 by omega, List.replicate_succ, List.set_cons_zero, List.take_succ_eq_append_getElem hko, List.append_assoc]
  rfl
set_option maxHeartbeats 2000000 in
theorem orB_any (ys bs : List Bool) (a1 a2 : Option Addr) (len c1 c2 : Nat) (w : World) (h1 : RdT w a1 len ys) (h2 : RdT w a2 len bs) (hm : len ≤ 1000) :
    Calls Tryd.prog 79 #[.slice a1 len c1, .slice a2 len c2] w fun e w' => ∃ v, e = .returned v ∧ w'.ownsRow w.heap.size 4 1 v len ((orB ys bs).map Value.bool) ∧ Below w.heap.size w w' := by
  obtain ⟨CB, hcb, hcs, hmk⟩ := make_b len (by omega)
  have HL : Hid (ys.length = len ∧ bs.length = len) := ⟨h1.1, h2.1⟩
  have HO0 : Hid ((w.alloc (.cells CB 4)).ownsRow w.heap.size 4 1 (.slice (some ⟨w.heap.size, 0, none⟩) len len) len (((orB ys bs).take 0 ++ List.replicate (len - 0) false).map Value.bool)) := own_made w CB len _ (by simpa using hcb) hcs (by omega)
  have HB0 : Hid (Below w.heap.size w (w.alloc (.cells CB 4))) := (Below.refl _ w).alloc (Nat.le_refl _) _
  have HA : Hid (RdT w a1 len ys) := h1
  have HB : Hid (RdT w a2 len bs) := h2
  have hli : (len : Int) ≤ 1000 := by omega
  obtain ⟨g, hg⟩ : ∃ g, g = w.heap.size := ⟨_, rfl⟩
  have HG : Hid (g = w.heap.size) := hg
  clear hcb hcs h1 h2 hg
  go_enter Tryd.func79, Tryd.ntmps79
  go_wp2
  go_loopw [6] (fun x6 wr => ∃ k : Nat, k ≤ len ∧ x6 = .int .i64 k ∧ wr.ownsRow w.heap.size 4 1 (.slice (some ⟨w.heap.size, 0, none⟩) len len) len (((orB ys bs).take k ++ List.replicate (len - k) false).map Value.bool) ∧ Below w.heap.size w wr) (fun x6 _ => len - (intOf x6).toNat)
  case atStart => exact ⟨0, by omega, rfl, HO0.out, HB0.out⟩
  case round =>
    obtain ⟨k, hk, hx6, ho, hbl⟩ := hrel
    subst hx6
    have HO : Hid (wr.ownsRow w.heap.size 4 1 (.slice (some ⟨w.heap.size, 0, none⟩) len len) len (((orB ys bs).take k ++ List.replicate (len - k) false).map Value.bool)) := ho
    have HBL : Hid (Below w.heap.size w wr) := hbl
    clear ho hbl hmk HO0 HB0
    by_cases hlt : k < len
    · obtain ⟨b1, o1, rfl, e1⟩ := (HA.out.later HBL.out).2 (by omega)
      obtain ⟨b2, o2, rfl, e2⟩ := (HB.out.later HBL.out).2 (by omega)
      have t1 := e1 k hlt
      have t2 := e2 k hlt
      obtain ⟨x, hx⟩ : ∃ x, x = ys.getD k false := ⟨_, rfl⟩
      obtain ⟨y, hy⟩ : ∃ y, y = bs.getD k false := ⟨_, rfl⟩
      obtain ⟨g2, hg2, _, cur, hcur, hcell⟩ := own_cells1 HO.out (by omega)
      have hgg : w.heap.size = g2 := by simpa using hg2
      have t3 := hcell k hlt
      have hfz := Lib.frozen_of_heap hcur
      obtain ⟨z, hz⟩ : ∃ z, (((orB ys bs).take k ++ List.replicate (len - k) false).map Value.bool)[k]? = some (.bool z) := get_bool _ k len (by have := HO.out.1; omega) hlt
      rw [hz] at t3
      have HNX : Hid ((wr.setCell ⟨w.heap.size, k, none⟩ (.bool (x || y))).ownsRow w.heap.size 4 1 (.slice (some ⟨w.heap.size, 0, none⟩) len len) len (((orB ys bs).take (k + 1) ++ List.replicate (len - (k + 1)) false).map Value.bool)) := by
        have h1 := own_set1 HO.out k (.bool (x || y))
        have h2 := orB_take_set ys bs (by rw [HL.out.1, HL.out.2]) k (by rw [HL.out.1]; exact hlt) _ (by rw [HL.out.1])
        rw [HL.out.1] at h2
        rw [← h2, List.map_set, ← hx, ← hy]
        exact h1
      have HB2 : Hid (Below w.heap.size w (wr.setCell ⟨w.heap.size, k, none⟩ (.bool (x || y)))) := HBL.out.setCell (p := ⟨w.heap.size, k, none⟩) (Nat.le_refl _) _
      rw [← hx] at t1
      rw [← hy] at t2
      rw [← hgg] at t3 hfz
      clear e1 e2 hx hy hcell hcur hz hg2 hgg
      cases x
      · go_wp2
        go_roundw
        case rel => exact ⟨k + 1, by omega, by go_num, HNX.out, HB2.out⟩
        case measure => simp [intOf]; omega
      · go_wp2
        go_roundw
        case rel => exact ⟨k + 1, by omega, by go_num, HNX.out, HB2.out⟩
        case measure => simp [intOf]; omega
    · obtain rfl : k = len := by omega
      have HF : Hid (wr.ownsRow w.heap.size 4 1 (.slice (some ⟨w.heap.size, 0, none⟩) k k) k ((orB ys bs).map Value.bool)) := by
        have h1 := HO.out
        rw [Nat.sub_self, List.replicate_zero, List.append_nil, List.take_of_length_le (by rw [orB_len _ _ (by rw [HL.out.1, HL.out.2]), HL.out.1]; exact Nat.le_refl _)] at h1
        exact h1
      go_wp2
      go_ret
      exact ⟨_, rfl, HF.out, HBL.out⟩
end Go.Proofs.YthdeadmnicmgfaaDoor

/- The walk of Ends of the reference: where rows end that an expression fits. -/
namespace Go.Proofs.YthdeadmnicmgfaaDoor
open Go.RowKit
set_option linter.unusedVariables false
set_option linter.unusedSimpArgs false

/-- What Ends leaves. -/
def EnPost (L : List Int → Prop) (xs : List Int) (F : List Bool) (m : Nat) (w : World) (e : Ending) (w' : World) : Prop :=
  ∃ v G, e = .returned v ∧ w'.ownsRow w.heap.size 4 1 v m (G.map Value.bool) ∧ EndsR L xs F G ∧ Below w.heap.size w w'
def EnC (D : Nat) : Prop := ∀ (n : Nd) (d : Nat) (ca pa : Option Addr) (cc pc : Nat) (B : Nat) (w : World) (xs : List Int) (F : List Bool) (a fa : Option Addr) (len m cap fc : Nat), InV B w D n [.int .i64 n.op, .slice ca n.cl.length cc, .slice pa (toL n.kids).length pc] → okN d n = true → Rd .i64 w a len xs → len ≤ 100 → m = len + 1 → RdT w fa m F →
  Calls Tryd.prog 48 #[.agg #[.int .i64 n.op, .slice ca n.cl.length cc, .slice pa (toL n.kids).length pc], .slice a len cap, .slice fa m fc] w (EnPost n.fits xs F m w)
theorem rcB_cases {op : Int} {k : Nat} (h : rcB op k = true) : (op = 0 ∧ k = 0) ∨ (op = 1 ∧ k = 0) ∨ op = 2 ∨ op = 3 ∨ (op = 4 ∧ k = 1) ∨ (op = 5 ∧ k = 1) := by
  unfold rcB at h
  split at h
  · rename_i h1; simp at h; rcases h1 with rfl | rfl <;> simp [h]
  · split at h
    · rename_i h1; rcases h1 with rfl | rfl <;> simp
    · split at h
      · rename_i h1; simp at h; rcases h1 with rfl | rfl <;> simp [h]
      · cases h
theorem own_splice {w : World} {B g m : Nat} {cur : List Value} {F : List Bool} (hb : B ≤ g) (hm : m ≤ 1000000) (hc : cur.length = m) (hF : F.length = m) (hg : w.heap[g]? = some (.cells (splice cur 0 (F.map Value.bool)).toArray 4 (0, 0))) : w.ownsRow B 4 1 (.slice (some ⟨g, 0, none⟩) m m) m (F.map Value.bool) := by
  have e : splice cur 0 (F.map Value.bool) = F.map Value.bool := by
    unfold splice
    rw [List.take_zero, List.nil_append, List.drop_eq_nil_of_le (by simp; omega), List.append_nil]
  rw [e] at hg
  exact ⟨by simpa using hF, .inr ⟨g, m, _, rfl, hb, hg, Nat.le_refl _, by unfold maxLen; omega, by simp [hF], by simp; exact List.take_of_length_le (by simp [hF])⟩⟩
theorem bool_cells (F : List Bool) : ∀ v ∈ F.map Value.bool, v.oneCell' = true := by
  intro v hv
  obtain ⟨b, _, rfl⟩ := List.mem_map.1 hv
  rfl
theorem rdB_news {w : World} {a : Addr} {m : Nat} {F : List Bool} (h : RdT w (some a) m F) : ∀ j v, (F.map Value.bool)[j]? = some v → w.cell? (a.add j) = some v := by
  intro j v hv
  have hj : j < F.length := by
    rcases Nat.lt_or_ge j F.length with h | h
    · exact h
    · simp [List.getElem?_eq_none h] at hv
  obtain ⟨b, off, hx, hc⟩ := h.2 (by have := h.1; omega)
  cases hx
  rw [add_lit, hc j (by have := h.1; omega)]
  simp [hj] at hv
  simp [hj, hv]
theorem copyB_run {w wA : World} {g m fc : Nat} {ad : Addr} {cur : List Value} {F : List Bool} (hg : wA.heap[g]? = some (.cells cur.toArray 4 (0, 0))) (hcl : cur.length = m) (hm : m ≤ 1000000) (hF : RdT wA (some ad) m F) (hb : Below w.heap.size w wA) (hbg : w.heap.size ≤ g) :
    ∃ wC, (Builtin.copy_ #[71, 71] 3 #[.slice (some ⟨g, 0, none⟩) m m, .slice (some ad) m fc]).run Tryd.prog wA = .ok (.int .i64 m) wC ∧ wC.ownsRow w.heap.size 4 1 (.slice (some ⟨g, 0, none⟩) m m) m (F.map Value.bool) ∧ Below w.heap.size w wC ∧ Below g wA wC := by
  have hFl : (F.map Value.bool).length = m := by rw [List.length_map, hF.1]
  have h1 := run_copy_row (P := Tryd.prog) wA 71 71 3 4 g 0 m m ad m fc cur.toArray 4 (F.map Value.bool) Tryd.underlying71 (by kernel_rfl) hg (by rw [hFl]; exact (Nat.min_self m).symm) (rdB_news hF) (by simp [hF.1, hcl]) (bool_cells F)
  rw [hFl] at h1
  refine ⟨_, h1, ?_, below_setRow hb hbg _, below_setRow (Below.refl _ _) (Nat.le_refl _) _⟩
  refine own_splice hbg hm hcl hF.1 ?_
  refine (setRow_heap wA g _ _ 4 _ hg).trans ?_
  simp [splice, hF.1]
theorem seqL_take {kl : List Nd} {k : Nat} (hk : k < kl.length) (w : List Int) : seqL ((kl.take (k + 1)).map Nd.fits) w ↔ ∃ u v, w = u ++ v ∧ seqL ((kl.take k).map Nd.fits) u ∧ kl[k].fits v := by
  rw [take_snoc kl k hk, List.map_append]
  exact seqL_snoc _ _ w
theorem altL_take {kl : List Nd} {k : Nat} (hk : k < kl.length) (w : List Int) : altL ((kl.take (k + 1)).map Nd.fits) w ↔ altL ((kl.take k).map Nd.fits) w ∨ kl[k].fits w := by
  rw [take_snoc kl k hk, List.map_append]
  exact altL_snoc _ _ w
/-- On the way through an expression that may be taken any number of times. -/
def StarI (L : List Int → Prop) (xs : List Int) (F O : List Bool) (t : Int) : Prop := StarP L xs F O ∧ (t = -1 ∨ ∃ P G, t = (manyB P : Int) ∧ StarP L xs F P ∧ EndsR L xs P G ∧ O = orB P G)
theorem starI_end {L : List Int → Prop} {xs : List Int} {F O : List Bool} {t : Int} (h : StarI L xs F O t) (ht : ¬ t < (manyB O : Int)) : EndsR (starL L) xs F O := by
  rcases h.2 with h1 | ⟨P, G, h1, h2, h3, h4⟩
  · omega
  · rw [h4] at ht ⊢
    exact star_end h2 h3 (by omega)
set_option maxRecDepth 100000 in
set_option maxHeartbeats 16000000 in
theorem ends_up (D : Nat) (HP : EnC D) : EnC (D + 1) := by
  intro n d ca pa cc pc B w xs F a fa len m cap fc hin hok hrd hl hm hrf
  have HPC : Hid (EnC D) := HP
  have HIN : Hid (InV B w (D + 1) n [.int .i64 n.op, .slice ca n.cl.length cc, .slice pa (toL n.kids).length pc]) := hin
  have hb := hin.bounds
  obtain ⟨d', rfl⟩ : ∃ d', d = d' + 1 := by
    cases d with
    | zero => simp [okN] at hok
    | succ d => exact ⟨d, rfl⟩
  simp only [okN, Bool.and_eq_true, List.all_eq_true] at hok
  obtain ⟨⟨hrc, hrcl⟩, hkids⟩ := hok
  have hcls := hin.classes
  have hdn := hin.nilc
  obtain ⟨cn, hcn⟩ : ∃ cn, cn = n.cl.length := ⟨_, rfl⟩
  obtain ⟨kl, hkl⟩ : ∃ kl, kl = toL n.kids := ⟨_, rfl⟩
  obtain ⟨K, hK⟩ : ∃ K, K = kl.length := ⟨_, rfl⟩
  obtain ⟨op, hop⟩ : ∃ op, op = n.op := ⟨_, rfl⟩
  have HL : Hid (xs.length = len ∧ F.length = m ∧ kl = toL n.kids ∧ K = kl.length ∧ m = len + 1) := ⟨hrd.1, hrf.1, hkl, hK, hm⟩
  have HK : Hid (∀ x, x ∈ kl → okN d' x = true) := fun x hx => hkids x (by rw [← hkl]; exact hx)
  have HRD : Hid (Rd .i64 w a len xs) := hrd
  have HRF : Hid (RdT w fa m F) := hrf
  obtain ⟨CB, hcb, hcs, hmk⟩ := make_b m (by omega)
  obtain ⟨w1, hw1⟩ : ∃ w1, w1 = w.alloc (.cells #[.int .i64 op, .slice ca cn cc, .slice pa K pc] 38) := ⟨_, rfl⟩
  obtain ⟨wA, hwA⟩ : ∃ wA, wA = w1.alloc (.cells CB 4) := ⟨_, rfl⟩
  obtain ⟨H, hH⟩ : ∃ H, H = w.heap.size := ⟨_, rfl⟩
  have hs1 : w1.heap.size = H + 1 := by rw [hw1, hH]; simp
  have HB1 : Hid (Below w.heap.size w w1) := by rw [hw1]; exact (Below.refl _ w).alloc (Nat.le_refl _) _
  have HB : Hid (Below w.heap.size w wA) := by rw [hwA]; exact HB1.out.alloc HB1.out.size _
  have HBX : Hid (wA.heap[H]? = some (.cells #[.int .i64 op, .slice ca cn cc, .slice pa K pc] 38)) := by
    rw [hwA]
    refine (((Below.refl _ w1).alloc (Nat.le_refl _) _).block H (by omega)).trans ?_
    rw [hw1, hH]; exact heap_alloc_new w _
  have HOUT : Hid (wA.heap[H + 1]? = some (.cells CB.toList.toArray 4 (0, 0)) ∧ CB.toList.length = m ∧ wA.ownsRow w.heap.size 4 1 (.slice (some ⟨H + 1, 0, none⟩) m m) m ((List.replicate m false).map Value.bool)) := by
    refine ⟨?_, by simp [hcs], ?_⟩
    · rw [hwA, ← hs1]
      have := heap_alloc_new w1 (.cells CB 4)
      simpa using this
    · rw [hwA, ← hs1]
      exact own_up (own_made w1 CB m _ hcb hcs (by omega)) HB1.out.size
  have HBH : Hid (w.heap.size ≤ H + 1) := by rw [hH]; exact Nat.le_succ _
  have d0 : wA.cell? ⟨H, 0, none⟩ = some (.int .i64 op) := cell_of_row wA H 0 _ _ _ HBX.out
  have HRR : Hid (rcB op K = true) := by rw [hop, hK, hkl]; exact hrc
  have HDC : Hid (∀ V : World, Below w.heap.size w V → Rd .i64 V ca cn n.cl ∧ cn ≤ 140737488355328) := fun V hV => ⟨by rw [hcn]; exact hcls.1.later hV, by rw [hcn]; exact hcls.2⟩
  have HDX : Hid (∀ V : World, Below wA.heap.size wA V → V.cell? ⟨H, 0, none⟩ = some (.int .i64 op) ∧ V.cell? ⟨H, 1, none⟩ = some (.slice ca cn cc) ∧ V.cell? ⟨H, 2, none⟩ = some (.slice pa K pc)) := fun V hV =>
    ⟨upC hV (cell_of_row wA H 0 _ _ _ HBX.out), upC hV (cell_of_row wA H 1 _ _ _ HBX.out), upC hV (cell_of_row wA H 2 _ _ _ HBX.out)⟩
  have hsz : (Tryd.prog.info? 4).map (·.size) = some 1 := by kernel_rfl
  have HSZ : Hid ((Tryd.prog.info? 4).map (·.size) = some 1) := hsz
  have hmk2 : ∀ W : World, (Instr.makeSlice 71 (.int .i64 ((len : Int) + 1)) (.int .i64 ((len : Int) + 1))).run Tryd.prog W = .ok (.slice (some ⟨W.heap.size, 0, none⟩) m m) (W.alloc (.cells CB 4)) := by
    intro W
    have h1 := hmk W
    rw [show (m : Int) = (len : Int) + 1 by omega] at h1
    exact h1
  have hli : (len : Int) ≤ 100 := by omega
  have hKi : (K : Int) ≤ 2600000000000 := by rw [hkl] at hK; omega
  have hmu : (m : Int) ≤ 101 := by omega
  have hm0 : 0 < m := by omega
  have HMLI : Hid ((m : Int) = (len : Int) + 1) := by show (m : Int) = (len : Int) + 1; omega
  have HOP : Hid (op = n.op) := hop
  rw [← hop, ← hcn, ← hkl, ← hK]
  have HKID : Hid (∀ (V : World) (k : Nat) (hk : k < kl.length), Below w.heap.size w V → ∃ b off xo xa xn xc ya xk yc, pa = some ⟨b, off, none⟩ ∧ V.cell? ⟨b, off + k * 3, none⟩ = some (.int .i64 xo) ∧ V.cell? ⟨b, off + k * 3 + 1, none⟩ = some (.slice xa xn xc) ∧ V.cell? ⟨b, off + k * 3 + 2, none⟩ = some (.slice ya xk yc) ∧ ∀ (G : List Bool) (av : Option Addr) (cv : Nat), RdT V av m G → Calls Tryd.prog 48 #[.agg #[.int .i64 xo, .slice xa xn xc, .slice ya xk yc], .slice a len cap, .slice av m cv] V (EnPost kl[k].fits xs G m V)) := by
    intro V k hk hV
    have hk2 : k < (toL n.kids).length := by rw [← hkl]; exact hk
    obtain ⟨b, off, xa, xc, ya, yc, D', hpa, hkid, hD', c0, c1, c2⟩ := (HIN.out.later hV (D + 1)).kid k hk2
    obtain rfl : D' = D := by omega
    have he : (toL n.kids)[k] = kl[k] := by simp only [hkl]
    rw [he] at hkid c0 c1 c2
    exact ⟨b, off, _, xa, _, xc, ya, _, yc, hpa, c0, c1, c2, fun G av cv hG => HPC.out kl[k] d' xa ya xc yc B V xs G a av len m cap cv hkid (HK.out _ (List.getElem_mem hk)) (hrd.later hV) hl hm hG⟩
  have HSA : Hid (H + 1 < wA.heap.size) := (Array.getElem?_eq_some_iff.1 HOUT.out.1).1
  clear HP hin hb hop hcn hK hkl hrc hrcl hkids hcls hdn hrd hrf hcb hcs hsz hm hmk
  go_enter Tryd.func48, Tryd.ntmps48
  go_upto_region 2 with fail
  rw [← hw1, ← hwA, ← hH]
  clear hw1 hwA hs1 hmk2 hH
  have HFIN : Hid (∀ (V : World) (v : Value) (G : List Bool), V.ownsRow w.heap.size 4 1 v m (G.map Value.bool) → EndsR n.fits xs F G → Below w.heap.size w V → EnPost n.fits xs F m w (.returned v) V) := fun V v G h1 h2 h3 => ⟨v, G, rfl, h1, h2, h3⟩
  rcases rcB_cases HRR.out with ⟨e, hk0⟩ | ⟨e, hk0⟩ | e | e | ⟨e, hk1⟩ | ⟨e, hk1⟩
  · -- nothing
    subst e
    obtain ⟨ad, hfa⟩ : ∃ ad, fa = some ad := by obtain ⟨b, off, e, _⟩ := HRF.out.2 hm0; exact ⟨_, e⟩
    subst hfa
    obtain ⟨wC, hrun, hoC, hbC, _⟩ := copyB_run (fc := fc) HOUT.out.1 HOUT.out.2.1 (by omega) (HRF.out.later HB.out) HB.out HBH.out
    have HC : Hid (wC.ownsRow w.heap.size 4 1 (.slice (some ⟨H + 1, 0, none⟩) m m) m (F.map Value.bool) ∧ Below w.heap.size w wC) := ⟨hoC, hbC⟩
    clear hoC hbC
    go_wp2
    go_ret
    refine HFIN.out wC _ F HC.out.1 ?_ HC.out.2
    exact (ends_none xs F (by rw [HL.out.2.1, HL.out.1, HL.out.2.2.2.2])).congr (fun w => (fits_op0 n HOP.out.symm (by rw [← HL.out.2.2.1, ← HL.out.2.2.2.1]; exact hk0) w).symm)
  · -- a character
    subst e
    obtain ⟨S, hS⟩ : ∃ S, S = setB n.cl xs F := ⟨_, rfl⟩
    have HS : Hid (S = setB n.cl xs F ∧ S.length = m) := ⟨hS, by rw [hS, setB_len, HL.out.1, HL.out.2.2.2.2]⟩
    have HO1 : Hid (wA.ownsRow w.heap.size 4 1 (.slice (some ⟨H + 1, 0, none⟩) m m) m ((fillB S m (0 + 1)).map Value.bool)) := by
      have := HOUT.out.2.2
      rw [← setB_first n.cl xs F m (by rw [HL.out.1, HL.out.2.2.2.2]), ← hS] at this
      exact this
    have HHAS : Hid (∀ (V : World) (c : Int), Below w.heap.size w V → Calls Tryd.prog 78 #[.slice ca cn cc, .int .i64 c] V fun e w' => e = .returned (.bool (decide (c ∈ n.cl))) ∧ w' = V) := fun V c hV => hasI_any n.cl c ca cn cc V (HDC.out V hV).1 (by have := (HDC.out V hV).2; omega)
    clear hS
    go_wp2
    go_loopw [8, 9] (fun x8 _ wr => ∃ k : Nat, k ≤ len ∧ x8 = .int .i64 k ∧ wr.ownsRow w.heap.size 4 1 (.slice (some ⟨H + 1, 0, none⟩) m m) m ((fillB S m (k + 1)).map Value.bool) ∧ Below w.heap.size w wr ∧ Below (H + 1) wA wr) (fun x8 _ _ => len - (intOf x8).toNat)
    case atStart => exact ⟨0, by omega, rfl, HO1.out, HB.out, Below.refl _ _⟩
    case round =>
      obtain ⟨k, hk, hx8, ho, hbl, hbl2⟩ := hrel
      subst hx8
      have HO : Hid (wr.ownsRow w.heap.size 4 1 (.slice (some ⟨H + 1, 0, none⟩) m m) m ((fillB S m (k + 1)).map Value.bool)) := ho
      have HBL : Hid (Below w.heap.size w wr) := hbl
      have HBL2 : Hid (Below (H + 1) wA wr) := hbl2
      clear ho hbl hbl2
      by_cases hlt : k < len
      · obtain ⟨bx, ox, rfl, ex⟩ := (HRD.out.later HBL.out).2 (by omega)
        obtain ⟨bf, of, rfl, ef⟩ := (HRF.out.later HBL.out).2 hm0
        have tx := ex k hlt
        have tf := ef k (by have := HMLI.out; omega)
        obtain ⟨x, hx⟩ : ∃ x, x = xs.getD k 0 := ⟨_, rfl⟩
        obtain ⟨f, hf⟩ : ∃ f, f = F.getD k false := ⟨_, rfl⟩
        obtain ⟨b, hb⟩ : ∃ b, b = decide (x ∈ n.cl) := ⟨_, rfl⟩
        have hSk : S.getD (k + 1) false = (f && b) := by
          rw [HS.out.1, setB_at _ _ _ _ (by rw [HL.out.1]; exact hlt), ← hx, ← hf, ← hb]
        have HC : Hid (∀ q, Calls Tryd.prog 78 #[.slice ca cn cc, .int .i64 x] (wr.drewN q) fun e w' => e = .returned (.bool b) ∧ w' = wr.drewN q) := by
          intro q
          rw [hb]
          exact HHAS.out (wr.drewN q) x (bdN HBL.out q)
        have d1 : wr.cell? ⟨H, 1, none⟩ = some (.slice ca cn cc) := (HBL2.out.cell (p := ⟨H, 1, none⟩) (Nat.lt_succ_self H)).trans (cell_of_row wA H 1 _ _ _ HBX.out)
        rw [← hx] at tx
        rw [← hf] at tf
        have HNX : Hid (∀ q, ((wr.drewN q).setCell ⟨H + 1, k + 1, none⟩ (.bool (f && b))).ownsRow w.heap.size 4 1 (.slice (some ⟨H + 1, 0, none⟩) m m) m ((fillB S m (k + 1 + 1)).map Value.bool)) := by
          intro q
          have h0 : (wr.drewN q).ownsRow w.heap.size 4 1 (.slice (some ⟨H + 1, 0, none⟩) m m) m ((fillB S m (k + 1)).map Value.bool) := own_later5 HO.out (bdN (Below.refl _ wr) q)
          have h1 := own_set1 h0 (k + 1) (.bool (f && b))
          rw [← fill_set S m (k + 1) HS.out.2 (by have := HMLI.out; omega), hSk, List.map_set]
          exact h1
        have HB2 : Hid (∀ q, Below w.heap.size w ((wr.drewN q).setCell ⟨H + 1, k + 1, none⟩ (.bool (f && b)))) := fun q => (bdN HBL.out q).setCell (p := ⟨H + 1, k + 1, none⟩) HBH.out _
        have HB3 : Hid (∀ q, Below (H + 1) wA ((wr.drewN q).setCell ⟨H + 1, k + 1, none⟩ (.bool (f && b)))) := fun q => (bdN HBL2.out q).setCell (p := ⟨H + 1, k + 1, none⟩) (Nat.le_refl _) _
        obtain ⟨g2, hg2, _, cur, hcur, hcell⟩ := own_cells1 HO.out hm0
        have hgg : H + 1 = g2 := by simpa using hg2
        have t3 := hcell (k + 1) (by have := HMLI.out; omega)
        obtain ⟨z, hz⟩ : ∃ z, ((fillB S m (k + 1)).map Value.bool)[k + 1]? = some (.bool z) := get_bool _ (k + 1) m (by have := HO.out.1; omega) (by have := HMLI.out; omega)
        rw [hz] at t3
        have hfz := Lib.frozen_of_heap hcur
        rw [← hgg] at t3 hfz
        have hmli := HMLI.out
        have hki : (k : Int) < (len : Int) := by omega
        have hkw : IntKind.i64.wrap ((k : Int) + 1) = ((k + 1 : Nat) : Int) := by rw [IntKind.wrap_i64]; omega
        have hk0 : (0 : Int) ≤ (k : Int) := by omega
        have hk1m : ((k + 1 : Nat) : Int) < (m : Int) := by omega
        have hkm : (k : Int) < (m : Int) := by omega
        clear ex ef hx hf hb hSk hcell hcur hz hg2 hgg HHAS hmli
        go_wp2_with fail
        go_quiet (first | (go_at_call 78; exact Calls.quiet_of_same (HC.out _)))
        cases f
        · go_wp2
          go_roundw
          case rel => exact ⟨k + 1, by omega, by go_num, HNX.out _, HB2.out _, HB3.out _⟩
          case measure => simp [intOf]; omega
        · go_wp2
          go_roundw
          case rel => exact ⟨k + 1, by omega, by go_num, HNX.out _, HB2.out _, HB3.out _⟩
          case measure => simp [intOf]; omega
      · obtain rfl : k = len := by omega
        have HF : Hid (wr.ownsRow w.heap.size 4 1 (.slice (some ⟨H + 1, 0, none⟩) m m) m (S.map Value.bool)) := by
          have h1 := HO.out
          rw [show k + 1 = m by have := HMLI.out; omega, fill_all S m HS.out.2] at h1
          exact h1
        go_wp2
        go_ret
        refine HFIN.out wr _ S HF.out ?_ HBL.out
        rw [HS.out.1]
        exact (ends_set n.cl xs F).congr (fun w => (fits_op1 n HOP.out.symm w).symm)
  · -- one behind the other
    subst e
    obtain ⟨ad, hfa⟩ : ∃ ad, fa = some ad := by obtain ⟨b, off, e, _⟩ := HRF.out.2 hm0; exact ⟨_, e⟩
    subst hfa
    obtain ⟨wC, hrun, hoC, hbC, hbC2⟩ := copyB_run (fc := fc) HOUT.out.1 HOUT.out.2.1 (by omega) (HRF.out.later HB.out) HB.out HBH.out
    have HC : Hid (wC.ownsRow w.heap.size 4 1 (.slice (some ⟨H + 1, 0, none⟩) m m) m (F.map Value.bool) ∧ Below w.heap.size w wC ∧ Below (H + 1) wA wC) := ⟨hoC, hbC, hbC2⟩
    clear hoC hbC hbC2
    go_wp2
    go_loopw [7, 10] (fun x7 x10 wr => ∃ k : Nat, k ≤ K ∧ x10 = .int .i64 k ∧ ∃ G, wr.ownsRow w.heap.size 4 1 x7 m (G.map Value.bool) ∧ EndsR (seqL ((kl.take k).map Nd.fits)) xs F G ∧ Below w.heap.size w wr ∧ Below (H + 1) wA wr) (fun _ x10 _ => K - (intOf x10).toNat)
    case atStart => exact ⟨0, by omega, rfl, F, HC.out.1, (ends_none xs F (by rw [HL.out.2.1, HL.out.1, HL.out.2.2.2.2])), HC.out.2.1, HC.out.2.2⟩
    case round =>
      obtain ⟨k, hk, hx10, G, ho, hen, hbl, hbl2⟩ := hrel
      subst hx10
      obtain ⟨av, cv, rfl, _, _, hrg⟩ := rdT_own ho
      have HEN : Hid (EndsR (seqL ((kl.take k).map Nd.fits)) xs F G) := hen
      have HO : Hid (wr.ownsRow w.heap.size 4 1 (.slice av m cv) m (G.map Value.bool)) := ho
      have HBL : Hid (Below w.heap.size w wr) := hbl
      have HBL2 : Hid (Below (H + 1) wA wr) := hbl2
      have d2 : wr.cell? ⟨H, 2, none⟩ = some (.slice pa K pc) := (HBL2.out.cell (p := ⟨H, 2, none⟩) (Nat.lt_succ_self H)).trans (cell_of_row wA H 2 _ _ _ HBX.out)
      clear ho hen hbl hbl2
      by_cases hlt : k < K
      · have hkl : k < kl.length := by rw [← HL.out.2.2.2.1]; exact hlt
        obtain ⟨b, off, xo, xa, xn, xc, ya, xk, yc, hpa, c0, c1, c2, hcall⟩ := HKID.out wr k hkl HBL.out
        subst hpa
        have HCC : Hid (Calls Tryd.prog 48 #[.agg #[.int .i64 xo, .slice xa xn xc, .slice ya xk yc], .slice a len cap, .slice av m cv] wr (EnPost kl[k].fits xs G m wr)) := hcall G av cv hrg
        have hki : (k : Int) < (K : Int) := by omega
        clear hcall hrg
        go_wp2_with fail
        refine HCC.out.mono ?_
        rintro e w2 ⟨v2, G2, rfl, ho2, hen2, hb2⟩
        have HN : Hid (w2.ownsRow w.heap.size 4 1 v2 m (G2.map Value.bool) ∧ EndsR (seqL ((kl.take (k + 1)).map Nd.fits)) xs F G2 ∧ Below w.heap.size w w2 ∧ Below (H + 1) wA w2) :=
          ⟨own_up ho2 HBL.out.size, (ends_seq HEN.out hen2).congr (fun w => (seqL_take hkl w).symm), HBL.out.trans (hb2.mono HBL.out.size), HBL2.out.trans (hb2.mono (by have := HBL2.out.size; have := HSA.out; omega))⟩
        clear ho2 hen2 hb2 HCC c0 c1 c2 d2
        go_wp2
        go_roundw
        case rel => exact ⟨k + 1, by omega, by go_num, G2, HN.out.1, HN.out.2.1, HN.out.2.2.1, HN.out.2.2.2⟩
        case measure => simp [intOf]; omega
      · obtain rfl : k = K := by omega
        clear hrg
        go_wp2
        go_ret
        refine HFIN.out wr _ G HO.out ?_ HBL.out
        have h1 := HEN.out
        rw [List.take_of_length_le (by rw [← HL.out.2.2.2.1]; exact Nat.le_refl _)] at h1
        exact h1.congr (fun w => by rw [fits_op2 n HOP.out.symm w, ← HL.out.2.2.1])
  · -- one of them
    subst e
    have HRF2 : Hid (RdT w fa m F) := HRF.out
    go_wp2
    go_loopw [7, 11] (fun x7 x11 wr => ∃ k : Nat, k ≤ K ∧ x11 = .int .i64 k ∧ ∃ G, wr.ownsRow w.heap.size 4 1 x7 m (G.map Value.bool) ∧ EndsR (altL ((kl.take k).map Nd.fits)) xs F G ∧ Below w.heap.size w wr ∧ Below (H + 1) wA wr) (fun _ x11 _ => K - (intOf x11).toNat)
    case atStart =>
      refine ⟨0, by omega, rfl, List.replicate m false, HOUT.out.2.2, ?_, HB.out, Below.refl _ _⟩
      have h1 := ends_false xs F
      rw [HL.out.1, ← HL.out.2.2.2.2] at h1
      exact h1.congr (fun w => by simp [altL])
    case round =>
      obtain ⟨k, hk, hx10, G, ho, hen, hbl, hbl2⟩ := hrel
      subst hx10
      obtain ⟨av, cv, rfl, _, _, hrg⟩ := rdT_own ho
      have HEN : Hid (EndsR (altL ((kl.take k).map Nd.fits)) xs F G) := hen
      have HO : Hid (wr.ownsRow w.heap.size 4 1 (.slice av m cv) m (G.map Value.bool)) := ho
      have HRG : Hid (RdT wr av m G) := hrg
      have HBL : Hid (Below w.heap.size w wr) := hbl
      have HBL2 : Hid (Below (H + 1) wA wr) := hbl2
      have d2 : wr.cell? ⟨H, 2, none⟩ = some (.slice pa K pc) := (HBL2.out.cell (p := ⟨H, 2, none⟩) (Nat.lt_succ_self H)).trans (cell_of_row wA H 2 _ _ _ HBX.out)
      clear ho hen hbl hbl2 hrg
      by_cases hlt : k < K
      · have hkl : k < kl.length := by rw [← HL.out.2.2.2.1]; exact hlt
        obtain ⟨b, off, xo, xa, xn, xc, ya, xk, yc, hpa, c0, c1, c2, hcall⟩ := HKID.out wr k hkl HBL.out
        subst hpa
        have HCC : Hid (Calls Tryd.prog 48 #[.agg #[.int .i64 xo, .slice xa xn xc, .slice ya xk yc], .slice a len cap, .slice fa m fc] wr (EnPost kl[k].fits xs F m wr)) := hcall F fa fc (HRF2.out.later HBL.out)
        have hki : (k : Int) < (K : Int) := by omega
        clear hcall
        go_wp2_with fail
        refine HCC.out.mono ?_
        rintro e w2 ⟨v2, G2, rfl, ho2, hen2, hb2⟩
        obtain ⟨a2, c22, rfl, _, _, hr2⟩ := rdT_own ho2
        have HB2 : Hid (Below wr.heap.size wr w2) := hb2
        have HEN2 : Hid (EndsR kl[k].fits xs F G2) := hen2
        have HCO : Hid (Calls Tryd.prog 79 #[.slice av m cv, .slice a2 m c22] w2 fun e w' => ∃ v, e = .returned v ∧ w'.ownsRow w2.heap.size 4 1 v m ((orB G G2).map Value.bool) ∧ Below w2.heap.size w2 w') := orB_any G G2 av a2 m cv c22 w2 (HRG.out.later hb2) hr2 (by omega)
        clear ho2 hen2 hb2 hr2 HCC c0 c1 c2 d2
        go_wp2_with fail
        refine HCO.out.mono ?_
        rintro e w3 ⟨v3, rfl, ho3, hb3⟩
        have HB3 : Hid (Below wr.heap.size wr w3) := HB2.out.trans (hb3.mono HB2.out.size)
        have HN : Hid (w3.ownsRow w.heap.size 4 1 v3 m ((orB G G2).map Value.bool) ∧ EndsR (altL ((kl.take (k + 1)).map Nd.fits)) xs F (orB G G2) ∧ Below w.heap.size w w3 ∧ Below (H + 1) wA w3) :=
          ⟨own_up ho3 (Nat.le_trans HBL.out.size HB2.out.size), (ends_or HEN.out HEN2.out).congr (fun w => (altL_take hkl w).symm), HBL.out.trans (HB3.out.mono HBL.out.size), HBL2.out.trans (HB3.out.mono (by have := HBL2.out.size; have := HSA.out; omega))⟩
        clear ho3 hb3 HCO
        go_wp2
        go_roundw
        case rel => exact ⟨k + 1, by omega, by go_num, orB G G2, HN.out.1, HN.out.2.1, HN.out.2.2.1, HN.out.2.2.2⟩
        case measure => simp [intOf]; omega
      · obtain rfl : k = K := by omega
        go_wp2
        go_ret
        refine HFIN.out wr _ G HO.out ?_ HBL.out
        have h1 := HEN.out
        rw [List.take_of_length_le (by rw [← HL.out.2.2.2.1]; exact Nat.le_refl _)] at h1
        exact h1.congr (fun w => by rw [fits_op3 n HOP.out.symm w, ← HL.out.2.2.1])
  · -- any number
    subst e hk1
    have hkl1 : 0 < kl.length := by rw [← HL.out.2.2.2.1]; omega
    obtain ⟨L, hLL⟩ : ∃ L, L = kl[0].fits := ⟨_, rfl⟩
    have HLL : Hid (∀ u, n.fits u ↔ starL L u) := by
      intro u
      have h1 : kl = [kl[0]] := by
        obtain ⟨q, hq⟩ := one_of HL.out.2.2.2.1.symm
        simp only [hq, List.getElem_cons_zero]
      rw [hLL]
      exact fits_op4 n HOP.out.symm kl[0] (by rw [← HL.out.2.2.1]; exact h1) u
    obtain ⟨ad, hfa⟩ : ∃ ad, fa = some ad := by obtain ⟨b, off, e, _⟩ := HRF.out.2 hm0; exact ⟨_, e⟩
    subst hfa
    obtain ⟨wC, hrun, hoC, hbC, hbC2⟩ := copyB_run (fc := fc) HOUT.out.1 HOUT.out.2.1 (by omega) (HRF.out.later HB.out) HB.out HBH.out
    have HC : Hid (wC.ownsRow w.heap.size 4 1 (.slice (some ⟨H + 1, 0, none⟩) m m) m (F.map Value.bool) ∧ Below w.heap.size w wC ∧ Below (H + 1) wA wC) := ⟨hoC, hbC, hbC2⟩
    have HLH : Hid (L = kl[0].fits) := hLL
    clear hoC hbC hbC2 hLL
    go_wp2
    go_loopw [7, 12] (fun x7 x12 wr => ∃ (t : Int) (O : List Bool), x12 = .int .i64 t ∧ -1 ≤ t ∧ t ≤ m ∧ wr.ownsRow w.heap.size 4 1 x7 m (O.map Value.bool) ∧ StarI L xs F O t ∧ Below w.heap.size w wr ∧ Below (H + 1) wA wr) (fun _ x12 _ => ((m : Int) + 2 - intOf x12).toNat)
    case atStart => exact ⟨-1, F, rfl, by omega, by omega, HC.out.1, ⟨star_begin L xs F (by rw [HL.out.2.1, HL.out.1, HL.out.2.2.2.2]), .inl rfl⟩, HC.out.2.1, HC.out.2.2⟩
    case round =>
      obtain ⟨t, O, hx12, ht0, ht1, ho, hst, hbl, hbl2⟩ := hrel
      subst hx12
      obtain ⟨av, cv, rfl, _, _, hrg⟩ := rdT_own ho
      have HST : Hid (StarI L xs F O t) := hst
      have HO : Hid (wr.ownsRow w.heap.size 4 1 (.slice av m cv) m (O.map Value.bool)) := ho
      have HRG : Hid (RdT wr av m O) := hrg
      have HBL : Hid (Below w.heap.size w wr) := hbl
      have HBL2 : Hid (Below (H + 1) wA wr) := hbl2
      have d2 : wr.cell? ⟨H, 2, none⟩ = some (.slice pa 1 pc) := (HBL2.out.cell (p := ⟨H, 2, none⟩) (Nat.lt_succ_self H)).trans (cell_of_row wA H 2 _ _ _ HBX.out)
      obtain ⟨q, hq⟩ : ∃ q, q = manyB O := ⟨_, rfl⟩
      have hqm : (q : Int) ≤ (m : Int) := by have h1 := manyB_le O; rw [hrg.1] at h1; omega
      have HQ : Hid (q = manyB O) := hq
      have HMA : Hid (Calls Tryd.prog 80 #[.slice av m cv] wr fun e w' => e = .returned (.int .i64 (q : Int)) ∧ w' = wr) := by rw [hq]; exact manyB_any O av m cv wr hrg (by omega)
      clear ho hst hbl hbl2 hrg hq
      go_wp2_with fail
      refine HMA.out.mono ?_
      rintro e w2 ⟨rfl, hw2⟩
      obtain rfl : wr = w2 := hw2.symm
      by_cases htq : t < (q : Int)
      · go_wp2_with fail
        refine HMA.out.mono ?_
        rintro e w2 ⟨rfl, hw2⟩
        obtain rfl : wr = w2 := hw2.symm
        obtain ⟨b, off, xo, xa, xn, xc, ya, xk, yc, hpa, c0, c1, c2, hcall⟩ := HKID.out wr 0 hkl1 HBL.out
        subst hpa
        simp only [Nat.zero_mul, Nat.add_zero] at c0 c1 c2
        have HCC : Hid (Calls Tryd.prog 48 #[.agg #[.int .i64 xo, .slice xa xn xc, .slice ya xk yc], .slice a len cap, .slice av m cv] wr (EnPost L xs O m wr)) := by rw [HLH.out]; exact hcall O av cv HRG.out
        clear hcall HMA
        go_wp2_with fail
        refine HCC.out.mono ?_
        rintro e w2 ⟨v2, G2, rfl, ho2, hen2, hb2⟩
        obtain ⟨a2, c22, rfl, _, _, hr2⟩ := rdT_own ho2
        have HB2 : Hid (Below wr.heap.size wr w2) := hb2
        have HEN2 : Hid (EndsR L xs O G2) := hen2
        have HCO : Hid (Calls Tryd.prog 79 #[.slice av m cv, .slice a2 m c22] w2 fun e w' => ∃ v, e = .returned v ∧ w'.ownsRow w2.heap.size 4 1 v m ((orB O G2).map Value.bool) ∧ Below w2.heap.size w2 w') := orB_any O G2 av a2 m cv c22 w2 (HRG.out.later hb2) hr2 (by omega)
        clear ho2 hen2 hb2 hr2 HCC c0 c1 c2 d2
        go_wp2_with fail
        refine HCO.out.mono ?_
        rintro e w3 ⟨v3, rfl, ho3, hb3⟩
        have HB3 : Hid (Below wr.heap.size wr w3) := HB2.out.trans (hb3.mono HB2.out.size)
        have HN : Hid (w3.ownsRow w.heap.size 4 1 v3 m ((orB O G2).map Value.bool) ∧ StarI L xs F (orB O G2) (q : Int) ∧ Below w.heap.size w w3 ∧ Below (H + 1) wA w3) :=
          ⟨own_up ho3 (Nat.le_trans HBL.out.size HB2.out.size), ⟨star_round HST.out.1 HEN2.out, .inr ⟨O, G2, by rw [HQ.out], HST.out.1, HEN2.out, rfl⟩⟩, HBL.out.trans (HB3.out.mono HBL.out.size), HBL2.out.trans (HB3.out.mono (by have := HBL2.out.size; have := HSA.out; omega))⟩
        clear ho3 hb3 HCO
        go_wp2
        go_roundw
        case rel => exact ⟨(q : Int), orB O G2, rfl, by omega, hqm, HN.out.1, HN.out.2.1, HN.out.2.2.1, HN.out.2.2.2⟩
        case measure => simp [intOf]; omega
      · have HE : Hid (EndsR (starL L) xs F O) := starI_end HST.out (by rw [← HQ.out]; exact htq)
        go_wp2
        go_ret
        exact HFIN.out wr _ O HO.out (HE.out.congr (fun u => (HLL.out u).symm)) HBL.out
  · -- one, or none
    subst e hk1
    have hkl1 : 0 < kl.length := by rw [← HL.out.2.2.2.1]; omega
    obtain ⟨L, hLL⟩ : ∃ L, L = kl[0].fits := ⟨_, rfl⟩
    have HLL : Hid (∀ u, n.fits u ↔ u = [] ∨ L u) := by
      intro u
      have h1 : kl = [kl[0]] := by
        obtain ⟨q, hq⟩ := one_of HL.out.2.2.2.1.symm
        simp only [hq, List.getElem_cons_zero]
      rw [hLL]
      exact fits_op5 n HOP.out.symm kl[0] (by rw [← HL.out.2.2.1]; exact h1) u
    have d2 : wA.cell? ⟨H, 2, none⟩ = some (.slice pa 1 pc) := cell_of_row wA H 2 _ _ _ HBX.out
    obtain ⟨b, off, xo, xa, xn, xc, ya, xk, yc, hpa, c0, c1, c2, hcall⟩ := HKID.out wA 0 hkl1 HB.out
    subst hpa
    simp only [Nat.zero_mul, Nat.add_zero] at c0 c1 c2
    have HCC : Hid (Calls Tryd.prog 48 #[.agg #[.int .i64 xo, .slice xa xn xc, .slice ya xk yc], .slice a len cap, .slice fa m fc] wA (EnPost L xs F m wA)) := by rw [hLL]; exact hcall F fa fc (HRF.out.later HB.out)
    clear hcall hLL
    go_wp2_with fail
    refine HCC.out.mono ?_
    rintro e w2 ⟨v2, G2, rfl, ho2, hen2, hb2⟩
    obtain ⟨a2, c22, rfl, _, _, hr2⟩ := rdT_own ho2
    have HB2 : Hid (Below wA.heap.size wA w2) := hb2
    have HW2 : Hid (Below w.heap.size w w2) := HB.out.trans (hb2.mono HB.out.size)
    have HEN2 : Hid (EndsR L xs F G2) := hen2
    have HCO : Hid (Calls Tryd.prog 79 #[.slice fa m fc, .slice a2 m c22] w2 fun e w' => ∃ v, e = .returned v ∧ w'.ownsRow w2.heap.size 4 1 v m ((orB F G2).map Value.bool) ∧ Below w2.heap.size w2 w') := orB_any F G2 fa a2 m fc c22 w2 (HRF.out.later HW2.out) hr2 (by omega)
    clear ho2 hen2 hb2 hr2 HCC c0 c1 c2 d2
    go_wp2_with fail
    refine HCO.out.mono ?_
    rintro e w3 ⟨v3, rfl, ho3, hb3⟩
    have HF : Hid (EnPost n.fits xs F m w (.returned v3) w3) := HFIN.out w3 v3 _ (own_up ho3 HW2.out.size) ((ends_or (ends_none xs F (by rw [HL.out.2.1, HL.out.1, HL.out.2.2.2.2])) HEN2.out).congr (fun u => (HLL.out u).symm)) (HW2.out.trans (hb3.mono HW2.out.size))
    clear ho3 hb3 HCO
    go_wp2
    go_ret
    exact HF.out
theorem ends_any : (D : Nat) → EnC D
  | 0 => fun _ _ _ _ _ _ _ _ _ _ _ _ _ _ _ _ h => h.elim
  | D + 1 => ends_up D (ends_any D)
end Go.Proofs.YthdeadmnicmgfaaDoor

/- The walks of Stars and Whole of the reference. -/
namespace Go.Proofs.YthdeadmnicmgfaaDoor
open Go.RowKit
set_option linter.unusedVariables false
set_option linter.unusedSimpArgs false

set_option maxRecDepth 100000 in
set_option maxHeartbeats 4000000 in
theorem whole_any (D : Nat) (n : Nd) (d : Nat) (ca pa : Option Addr) (cc pc : Nat) (w : World) (xs : List Int) (a : Option Addr) (len cap : Nat) (hin : InV w.heap.size w D n [.int .i64 n.op, .slice ca n.cl.length cc, .slice pa (toL n.kids).length pc]) (hok : okN d n = true) (hrd : Rd .i64 w a len xs) (hl : len ≤ 100) :
    Calls Tryd.prog 26 #[.agg #[.int .i64 n.op, .slice ca n.cl.length cc, .slice pa (toL n.kids).length pc], .slice a len cap] w (EnPost n.fits xs (fromB len) (len + 1) w) := by
  obtain ⟨m, hm⟩ : ∃ m, m = len + 1 := ⟨_, rfl⟩
  obtain ⟨cn, hcn⟩ : ∃ cn, cn = n.cl.length := ⟨_, rfl⟩
  obtain ⟨K, hK⟩ : ∃ K, K = (toL n.kids).length := ⟨_, rfl⟩
  obtain ⟨op, hop⟩ : ∃ op, op = n.op := ⟨_, rfl⟩
  obtain ⟨CB, hcb, hcs, hmk⟩ := make_b m (by omega)
  obtain ⟨w1, hw1⟩ : ∃ w1, w1 = w.alloc (.cells #[.int .i64 op, .slice ca cn cc, .slice pa K pc] 38) := ⟨_, rfl⟩
  obtain ⟨wA, hwA⟩ : ∃ wA, wA = w1.alloc (.cells CB 4) := ⟨_, rfl⟩
  obtain ⟨H, hH⟩ : ∃ H, H = w.heap.size := ⟨_, rfl⟩
  have hs1 : w1.heap.size = H + 1 := by rw [hw1, hH]; simp
  have HB1 : Hid (Below w.heap.size w w1) := by rw [hw1]; exact (Below.refl _ w).alloc (Nat.le_refl _) _
  have HB : Hid (Below w.heap.size w wA) := by rw [hwA]; exact HB1.out.alloc HB1.out.size _
  have HBX : Hid (wA.heap[H]? = some (.cells #[.int .i64 op, .slice ca cn cc, .slice pa K pc] 38)) := by
    rw [hwA]
    refine (((Below.refl _ w1).alloc (Nat.le_refl _) _).block H (by omega)).trans ?_
    rw [hw1, hH]; exact heap_alloc_new w _
  have hnew : wA.heap[H + 1]? = some (.cells CB 4) := by rw [hwA, ← hs1]; exact heap_alloc_new w1 _
  have hown : wA.ownsRow w.heap.size 4 1 (.slice (some ⟨H + 1, 0, none⟩) m m) m ((List.replicate m false).map Value.bool) := by
    rw [hwA, ← hs1]
    exact own_up (own_made w1 CB m _ hcb hcs (by omega)) HB1.out.size
  obtain ⟨wB, hwB⟩ : ∃ wB, wB = wA.setCell ⟨H + 1, 0, none⟩ (.bool true) := ⟨_, rfl⟩
  have hbB : Below (H + 1) wA wB := by rw [hwB]; exact (Below.refl _ wA).setCell (p := ⟨H + 1, 0, none⟩) (Nat.le_refl _) _
  have hB2 : Below w.heap.size w wB := by rw [hwB]; exact HB.out.setCell (p := ⟨H + 1, 0, none⟩) (by rw [hH]; exact Nat.le_succ _) _
  have hownB : wB.ownsRow w.heap.size 4 1 (.slice (some ⟨H + 1, 0, none⟩) m m) m ((fromB len).map Value.bool) := by
    have h1 := own_set1 hown 0 (.bool true)
    have e : ((List.replicate m false).map Value.bool).set 0 (.bool true) = (fromB len).map Value.bool := by
      rw [hm, List.replicate_succ]
      rfl
    rw [e] at h1
    rw [hwB]
    exact h1
  have HC : Hid (Calls Tryd.prog 48 #[.agg #[.int .i64 op, .slice ca cn cc, .slice pa K pc], .slice a len cap, .slice (some ⟨H + 1, 0, none⟩) m m] wB fun e w' => EnPost n.fits xs (fromB len) m w e w') := by
    obtain ⟨a', c', e', _, _, hr⟩ := rdT_own hownB
    cases e'
    rw [hop, hcn, hK]
    refine (ends_any D n d ca pa cc pc w.heap.size wB xs (fromB len) a (some ⟨H + 1, 0, none⟩) len m cap m (hin.later hB2 D) hok (hrd.later hB2) hl hm hr).mono ?_
    rintro e w' ⟨v, G, h1, h2, h3, h4⟩
    exact ⟨v, G, h1, own_up h2 hB2.size, h3, hB2.trans (h4.mono hB2.size)⟩
  have hblk : wB.heap[H]? = some (.cells #[.int .i64 op, .slice ca cn cc, .slice pa K pc] 38) := (hbB.block H (Nat.lt_succ_self H)).trans HBX.out
  have d0 : wB.cell? ⟨H, 0, none⟩ = some (.int .i64 op) := cell_of_row wB H 0 _ _ _ hblk
  have d1 : wB.cell? ⟨H, 1, none⟩ = some (.slice ca cn cc) := cell_of_row wB H 1 _ _ _ hblk
  have d2 : wB.cell? ⟨H, 2, none⟩ = some (.slice pa K pc) := cell_of_row wB H 2 _ _ _ hblk
  have hfz := Lib.frozen_of_heap hnew
  have t0 : wA.cell? ⟨H + 1, 0, none⟩ = some (.bool false) := by
    rw [cell_of_row wA (H + 1) 0 _ _ _ hnew]
    have h1 : CB.toList[0]? = some (.bool false) := by rw [hcb, hm, List.replicate_succ]; rfl
    simpa using h1
  have hmk2 : ∀ W : World, (Instr.makeSlice 71 (.int .i64 ((len : Int) + 1)) (.int .i64 ((len : Int) + 1))).run Tryd.prog W = .ok (.slice (some ⟨W.heap.size, 0, none⟩) m m) (W.alloc (.cells CB 4)) := by
    intro W
    have h1 := hmk W
    rw [show (m : Int) = (len : Int) + 1 by omega] at h1
    exact h1
  have hli : (len : Int) ≤ 100 := by omega
  have hm0 : (0 : Int) < (m : Int) := by omega
  rw [← hop, ← hcn, ← hK, ← hm]
  clear hin hrd hop hcn hK hcb hcs hmk hown hownB hbB hB2 hblk hnew hm hok
  go_enter Tryd.func26, Tryd.ntmps26
  go_upto_region 2 with fail
  rw [← hw1, ← hwA, ← hH]
  clear hw1 hwA hs1 hmk2 hH
  go_upto_region 3 with fail
  rw [← hwB]
  clear hwB
  go_wp2_with fail
  refine HC.out.mono ?_
  rintro e w' ⟨v, G, rfl, h2, h3, h4⟩
  have HF : Hid (EnPost n.fits xs (fromB len) m w (.returned v) w') := ⟨v, G, rfl, h2, h3, h4⟩
  clear h2 h3 h4 HC d0 d1 d2
  go_wp2
  go_ret
  exact HF.out
end Go.Proofs.YthdeadmnicmgfaaDoor

/- The walk of Suffix. -/
namespace Go.Proofs.YthdeadmnicmgfaaDoor
open Go.RowKit
set_option linter.unusedVariables false
set_option linter.unusedSimpArgs false

def fillT (m k : Nat) : List Bool := List.replicate k true ++ List.replicate (m - k) false
theorem fillT_set (m k : Nat) (hk : k < m) : (fillT m k).set k true = fillT m (k + 1) := by
  unfold fillT
  rw [List.set_append_right _ _ (by simp)]
  simp only [List.length_replicate, Nat.sub_self]
  rw [show m - k = (m - (k + 1)) + 1 by omega, List.replicate_succ, List.set_cons_zero]
  rw [show List.replicate (k + 1) true = List.replicate k true ++ [true] by rw [List.replicate_succ']]
  simp
theorem fillT_len (m k : Nat) (hk : k ≤ m) : (fillT m k).length = m := by simp [fillT]; omega
set_option maxRecDepth 100000 in
set_option maxHeartbeats 4000000 in
theorem suffix_any (D : Nat) (n : Nd) (d : Nat) (ca pa : Option Addr) (cc pc : Nat) (w : World) (xs : List Int) (a : Option Addr) (len cap : Nat) (hin : InV w.heap.size w D n [.int .i64 n.op, .slice ca n.cl.length cc, .slice pa (toL n.kids).length pc]) (hok : okN d n = true) (hrd : Rd .i64 w a len xs) (hl : len ≤ 100) :
    Calls Tryd.prog 25 #[.agg #[.int .i64 n.op, .slice ca n.cl.length cc, .slice pa (toL n.kids).length pc], .slice a len cap] w (EnPost n.fits xs (List.replicate (len + 1) true) (len + 1) w) := by
  obtain ⟨m, hm⟩ : ∃ m, m = len + 1 := ⟨_, rfl⟩
  obtain ⟨cn, hcn⟩ : ∃ cn, cn = n.cl.length := ⟨_, rfl⟩
  obtain ⟨K, hK⟩ : ∃ K, K = (toL n.kids).length := ⟨_, rfl⟩
  obtain ⟨op, hop⟩ : ∃ op, op = n.op := ⟨_, rfl⟩
  obtain ⟨CB, hcb, hcs, hmk⟩ := make_b m (by omega)
  obtain ⟨w1, hw1⟩ : ∃ w1, w1 = w.alloc (.cells #[.int .i64 op, .slice ca cn cc, .slice pa K pc] 38) := ⟨_, rfl⟩
  obtain ⟨wA, hwA⟩ : ∃ wA, wA = w1.alloc (.cells CB 4) := ⟨_, rfl⟩
  obtain ⟨H, hH⟩ : ∃ H, H = w.heap.size := ⟨_, rfl⟩
  have hs1 : w1.heap.size = H + 1 := by rw [hw1, hH]; simp
  have HB1 : Hid (Below w.heap.size w w1) := by rw [hw1]; exact (Below.refl _ w).alloc (Nat.le_refl _) _
  have HB : Hid (Below w.heap.size w wA) := by rw [hwA]; exact HB1.out.alloc HB1.out.size _
  have HBX : Hid (wA.heap[H]? = some (.cells #[.int .i64 op, .slice ca cn cc, .slice pa K pc] 38)) := by
    rw [hwA]
    refine (((Below.refl _ w1).alloc (Nat.le_refl _) _).block H (by omega)).trans ?_
    rw [hw1, hH]; exact heap_alloc_new w _
  have HOWN : Hid (wA.ownsRow w.heap.size 4 1 (.slice (some ⟨H + 1, 0, none⟩) m m) m ((fillT m 0).map Value.bool)) := by
    show wA.ownsRow w.heap.size 4 1 (.slice (some ⟨H + 1, 0, none⟩) m m) m ((fillT m 0).map Value.bool)
    have e : fillT m 0 = List.replicate m false := by simp [fillT]
    rw [hwA, ← hs1, e]
    exact own_up (own_made w1 CB m _ hcb hcs (by omega)) HB1.out.size
  have HE : Hid (∀ V : World, Below w.heap.size w V → V.ownsRow w.heap.size 4 1 (.slice (some ⟨H + 1, 0, none⟩) m m) m ((fillT m m).map Value.bool) → Calls Tryd.prog 48 #[.agg #[.int .i64 op, .slice ca cn cc, .slice pa K pc], .slice a len cap, .slice (some ⟨H + 1, 0, none⟩) m m] V fun e w' => EnPost n.fits xs (List.replicate m true) m w e w') := fun V hV hownB => by
    have e : fillT m m = List.replicate m true := by simp [fillT]
    rw [e] at hownB
    obtain ⟨a', c', e', _, _, hr⟩ := rdT_own hownB
    cases e'
    rw [hop, hcn, hK]
    refine (ends_any D n d ca pa cc pc w.heap.size V xs (List.replicate m true) a (some ⟨H + 1, 0, none⟩) len m cap m (hin.later hV D) hok (hrd.later hV) hl hm hr).mono ?_
    rintro e w' ⟨v, G, h1, h2, h3, h4⟩
    exact ⟨v, G, h1, own_up h2 hV.size, h3, hV.trans (h4.mono hV.size)⟩
  have hmk2 : ∀ W : World, (Instr.makeSlice 71 (.int .i64 ((len : Int) + 1)) (.int .i64 ((len : Int) + 1))).run Tryd.prog W = .ok (.slice (some ⟨W.heap.size, 0, none⟩) m m) (W.alloc (.cells CB 4)) := by
    intro W
    have h1 := hmk W
    rw [show (m : Int) = (len : Int) + 1 by omega] at h1
    exact h1
  have hli : (len : Int) ≤ 100 := by omega
  have hmi : (m : Int) ≤ 101 := by omega
  have HHW : Hid (w.heap.size ≤ H + 1) := by rw [hH]; exact Nat.le_succ _
  rw [← hop, ← hcn, ← hK, ← hm]
  clear hin hrd hop hcn hK hcb hcs hmk hm hok hl
  go_enter Tryd.func25, Tryd.ntmps25
  go_upto_region 2 with fail
  rw [← hw1, ← hwA, ← hH]
  clear hw1 hwA hs1 hmk2 hH
  go_wp2_with fail
  go_loopw [6] (fun x6 wr => ∃ k : Nat, k ≤ m ∧ x6 = .int .i64 (k : Int) ∧ wr.ownsRow w.heap.size 4 1 (.slice (some ⟨H + 1, 0, none⟩) m m) m ((fillT m k).map Value.bool) ∧ Below w.heap.size w wr ∧ wr.heap[H]? = some (.cells #[.int .i64 op, .slice ca cn cc, .slice pa K pc] 38)) (fun x6 _ => m - (intOf x6).toNat)
  case atStart => exact ⟨0, by omega, rfl, HOWN.out, HB.out, HBX.out⟩
  case round =>
    obtain ⟨k, hk, hx6, ho, hbl, hbx⟩ := hrel
    subst hx6
    have HO : Hid (wr.ownsRow w.heap.size 4 1 (.slice (some ⟨H + 1, 0, none⟩) m m) m ((fillT m k).map Value.bool)) := ho
    have HBL : Hid (Below w.heap.size w wr) := hbl
    have HX : Hid (wr.heap[H]? = some (.cells #[.int .i64 op, .slice ca cn cc, .slice pa K pc] 38)) := hbx
    clear ho hbl hbx HOWN HB HBX
    by_cases hlt : k < m
    · obtain ⟨g2, hg2, _, cur, hcur, hcell⟩ := own_cells1 HO.out (by omega)
      have hgg : H + 1 = g2 := by simpa using hg2
      subst hgg
      have t3 := hcell k hlt
      have hfz := Lib.frozen_of_heap hcur
      obtain ⟨z, hz⟩ : ∃ z, ((fillT m k).map Value.bool)[k]? = some (.bool z) := get_bool _ k m (by simp [fillT_len m k hk]) hlt
      rw [hz] at t3
      obtain ⟨w2, hw2⟩ : ∃ w2, w2 = wr.setCell ⟨H + 1, k, none⟩ (.bool true) := ⟨_, rfl⟩
      have HNX : Hid (w2.ownsRow w.heap.size 4 1 (.slice (some ⟨H + 1, 0, none⟩) m m) m ((fillT m (k + 1)).map Value.bool) ∧ Below w.heap.size w w2 ∧ w2.heap[H]? = some (.cells #[.int .i64 op, .slice ca cn cc, .slice pa K pc] 38)) := by
        refine ⟨?_, ?_, ?_⟩
        · have h1 := own_set1 HO.out k (.bool true)
          rw [← fillT_set m k hlt, List.map_set, hw2]
          exact h1
        · rw [hw2]; exact HBL.out.setCell (p := ⟨H + 1, k, none⟩) HHW.out _
        · rw [hw2]
          exact (((Below.refl (H + 1) wr).setCell (p := ⟨H + 1, k, none⟩) (Nat.le_refl _) _).block H (Nat.lt_succ_self H)).trans HX.out
      have hki : (k : Int) < (m : Int) := by omega
      clear hg2 hcur hcell hz
      go_wp2
      rw [← hw2]
      clear hw2
      go_roundw
      case rel => exact ⟨k + 1, by omega, by go_num, HNX.out⟩
      case measure => simp [intOf]; omega
    · obtain rfl : k = m := by omega
      have HC : Hid (Calls Tryd.prog 48 #[.agg #[.int .i64 op, .slice ca cn cc, .slice pa K pc], .slice a len cap, .slice (some ⟨H + 1, 0, none⟩) k k] wr fun e w' => EnPost n.fits xs (List.replicate k true) k w e w') := HE.out wr HBL.out HO.out
      have d0 : wr.cell? ⟨H, 0, none⟩ = some (.int .i64 op) := cell_of_row wr H 0 _ _ _ HX.out
      have d1 : wr.cell? ⟨H, 1, none⟩ = some (.slice ca cn cc) := cell_of_row wr H 1 _ _ _ HX.out
      have d2 : wr.cell? ⟨H, 2, none⟩ = some (.slice pa K pc) := cell_of_row wr H 2 _ _ _ HX.out
      go_wp2_with fail
      refine HC.out.mono ?_
      rintro e w' ⟨v, G, rfl, h2, h3, h4⟩
      have HF : Hid (EnPost n.fits xs (List.replicate k true) k w (.returned v) w') := ⟨v, G, rfl, h2, h3, h4⟩
      clear h2 h3 h4 HC d0 d1 d2
      go_wp2
      go_ret
      exact HF.out
end Go.Proofs.YthdeadmnicmgfaaDoor
