/- The walks of the statements' small functions: SameIDs, Same, find, without; shown. -/
import Derived.Test.YtjdgacanlbhfbaaRgY
namespace Go.Proofs.Ytjdgacanlbhfbaa
open Go.RowKit Go.Shelf Go.Maps Go.Sort
set_option linter.unusedVariables false
set_option linter.unusedSimpArgs false

/-- A slice that reads as runes. -/
def RdC (w : World) (a : Option Addr) (n : Nat) (l : List Int) : Prop := l.length = n ∧ (0 < n → ∃ b off, a = some ⟨b, off, none⟩ ∧ ∀ k, k < n → w.cell? ⟨b, off + k, none⟩ = some (.int .i32 (l.getD k 0)))
theorem RdC.later {w w' : World} {a : Option Addr} {n : Nat} {l : List Int} (h : RdC w a n l) (hb : Below w.heap.size w w') : RdC w' a n l := by
  refine ⟨h.1, fun h0 => ?_⟩
  obtain ⟨b, off, ha, hc⟩ := h.2 h0
  exact ⟨b, off, ha, fun j hj => hb.cell (World.block_lt_of_cell? w _ (hc j hj)) ▸ hc j hj⟩
theorem RdC.gw {w w' : World} {a : Option Addr} {n : Nat} {l : List Int} (h : RdC w a n l) (hb : Gw w w') : RdC w' a n l := h.later hb.below
theorem RdC.at {w : World} {a : Option Addr} {n : Nat} {l : List Int} (h : RdC w a n l) (i : Nat) (hi : i < n) : ∃ b off, a = some ⟨b, off, none⟩ ∧ w.cell? ⟨b, off + i, none⟩ = some (.int .i32 (l.getD i 0)) := by
  obtain ⟨b, off, ha, hc⟩ := h.2 (by omega)
  exact ⟨b, off, ha, hc i hi⟩
theorem rdC_own {w : World} {B : Nat} {e : TypeId} {v : Value} {n : Nat} {l : List Int} (h : w.ownsRow B e 1 v n (flatC l)) : ∃ a cap, v = .slice a n cap ∧ n ≤ cap ∧ cap ≤ 9223372036854775807 ∧ RdC w a n l := by
  have hl : l.length = n := by have := h.1; rw [flatC_len] at this; omega
  rcases h.2 with ⟨rfl, rfl⟩ | ⟨g, cap, cur, rfl, hb, hg, hn, hm, hs, ht⟩
  · exact ⟨none, 0, rfl, by omega, by omega, hl, fun hp => absurd hp (by omega)⟩
  · refine ⟨_, cap, rfl, hn, by simpa [maxLen] using hm, hl, fun hp => ⟨g, 0, rfl, fun k hk => ?_⟩⟩
    rw [Nat.zero_add, cell_of_row w g _ _ _ _ hg]
    have h2 : (cur.toList.take (n * 1))[k]? = (flatC l)[k]? := by rw [ht]
    rw [List.getElem?_take, if_pos (by omega)] at h2
    unfold flatC at h2
    rw [List.getElem?_map, List.getElem?_eq_getElem (show k < l.length by omega)] at h2
    have h3 : cur[k]? = some (.int .i32 l[k]) := by simpa using h2
    rw [h3]
    simp [show k < l.length by omega]
theorem rdE_own14 {w : World} {B : Nat} {e : TypeId} {v : Value} {n : Nat} {l : List (Int × Int)} (h : w.ownsRow B e 2 v n (flatE l)) : ∃ a cap, v = .slice a n cap ∧ n ≤ cap ∧ cap ≤ 9223372036854775807 ∧ RdE w a n l ∧ (a = none → cap = 0) := by
  have hl : l.length = n := by have := h.1; rw [flatE_len] at this; omega
  rcases h.2 with ⟨rfl, rfl⟩ | ⟨g, cap, cur, rfl, hb, hg, hn, hm, hs, ht⟩
  · exact ⟨none, 0, rfl, by omega, by omega, ⟨hl, fun hp => absurd hp (by omega)⟩, fun _ => rfl⟩
  · refine ⟨_, cap, rfl, hn, by simpa [maxLen] using hm, ⟨hl, fun hp => ⟨g, 0, rfl, fun j u hu => ?_⟩⟩, fun h => by cases h⟩
    rw [Nat.zero_add, cell_of_row w g _ _ _ _ hg]
    rw [← ht, List.getElem?_take] at hu
    split at hu
    · simpa using hu
    · cases hu
theorem below_drewX {B : Nat} {w w' : World} (h : Below B w w') (q : Nat) : Below B w (w'.drewN q) := ⟨h.os, h.tape, h.output, h.size, h.block⟩
theorem neq_bool (a b : Int) (z : Bool) (hz : z = decide (¬ a = b)) : (a != b) = z := by
  subst hz
  by_cases h1 : a = b <;> simp [h1]
theorem neq_rune (a b : Int) (z : Bool) (hz : z = decide (¬ a = b)) (W : World) : (binOp .neq 21 (.int .i32 a) (.int .i32 b)).run Try.prog W = .ok (.bool z) W := by
  subst hz
  by_cases h1 : a = b <;> go_simp
theorem neq_idz (a1 a2 b1 b2 : Int) (z : Bool) (hz : z = decide (¬ (a1 = b1 ∧ a2 = b2))) (W : World) : (binOp .neq 32 (.agg #[.int .i64 a1, .int .i64 a2]) (.agg #[.int .i64 b1, .int .i64 b2])).run Try.prog W = .ok (.bool z) W := by
  subst hz
  by_cases h1 : a1 = b1 <;> by_cases h2 : a2 = b2 <;> go_simp
theorem take_eqI (A B : List (Int × Int)) (i : Nat) (ha : i < A.length) (hb : i < B.length) : A.take (i + 1) = B.take (i + 1) ↔ A.take i = B.take i ∧ A.getD i (0, 0) = B.getD i (0, 0) := by
  have e1 : A.take (i + 1) = A.take i ++ [A.getD i (0, 0)] := by rw [List.take_add_one]; simp [ha]
  have e2 : B.take (i + 1) = B.take i ++ [B.getD i (0, 0)] := by rw [List.take_add_one]; simp [hb]
  rw [e1, e2]
  constructor
  · intro h
    have h3 := List.append_inj h (by simp; omega)
    exact ⟨h3.1, by simpa using h3.2⟩
  · rintro ⟨h1, h2⟩
    rw [h1, h2]
theorem take_eqC (A B : List Int) (i : Nat) (ha : i < A.length) (hb : i < B.length) : A.take (i + 1) = B.take (i + 1) ↔ A.take i = B.take i ∧ A.getD i 0 = B.getD i 0 := by
  have e1 : A.take (i + 1) = A.take i ++ [A.getD i 0] := by rw [List.take_add_one]; simp [ha]
  have e2 : B.take (i + 1) = B.take i ++ [B.getD i 0] := by rw [List.take_add_one]; simp [hb]
  rw [e1, e2]
  constructor
  · intro h
    have h3 := List.append_inj h (by simp; omega)
    exact ⟨h3.1, by simpa using h3.2⟩
  · rintro ⟨h1, h2⟩
    rw [h1, h2]
set_option maxHeartbeats 1000000 in
theorem sameI_any (A B : List (Int × Int)) (a b : Option Addr) (la ca lb cb : Nat) (w : World) (ra : RdE w a la A) (rb : RdE w b lb B) (h1 : la ≤ 100000) :
    Calls Try.prog 17 #[.slice a la ca, .slice b lb cb] w fun e w' => e = .returned (.bool (decide (A = B))) ∧ Gw w w' := by
  have HLA : Hid (A.length = la) := ra.1
  have HLB : Hid (B.length = lb) := rb.1
  have HDA : Hid (RdE w a la A) := ra
  have HDB : Hid (RdE w b lb B) := rb
  have mixed : Try.prog.follows .mixedOrders = true := by kernel_rfl
  obtain ⟨R, hR⟩ : ∃ R, R = decide (A = B) := ⟨_, rfl⟩
  rw [← hR]
  have HR : Hid (R = decide (A = B)) := hR
  clear ra rb hR
  by_cases hl : la = lb
  · subst hl
    go_enter Try.func17, Try.ntmps17
    go_wp2
    go_loopw [5] (fun x5 wr => ∃ i : Nat, x5 = .int .i64 i ∧ i ≤ la ∧ A.take i = B.take i ∧ Gw w wr) (fun x5 _ => la - (RowKit.intOf x5).toNat)
    case atStart => exact ⟨0, rfl, by omega, rfl, Gw.refl _⟩
    case round =>
      obtain ⟨i, hx5, hil, heq, hgw⟩ := hrel
      subst hx5
      have HG : Hid (Gw w wr) := hgw
      by_cases hlt : i < la
      · obtain ⟨b1, o1, hab, c0, c1⟩ := (HDA.out.gw hgw).at i hlt
        obtain ⟨b2, o2, hab2, d0, d1⟩ := (HDB.out.gw hgw).at i hlt
        subst hab hab2
        have hst := take_eqI A B i (by rw [HLA.out]; exact hlt) (by rw [HLB.out]; exact hlt)
        have hno : A.getD i (0, 0) ≠ B.getD i (0, 0) → A ≠ B := fun h1 h2 => h1 (by rw [h2])
        obtain ⟨z, hz⟩ : ∃ z, z = decide (¬ ((A.getD i (0, 0)).1 = (B.getD i (0, 0)).1 ∧ (A.getD i (0, 0)).2 = (B.getD i (0, 0)).2)) := ⟨_, rfl⟩
        have hq := neq_idz (A.getD i (0, 0)).1 (A.getD i (0, 0)).2 (B.getD i (0, 0)).1 (B.getD i (0, 0)).2 z hz
        have hpe : z = false → A.getD i (0, 0) = B.getD i (0, 0) := by
          intro h
          rw [hz] at h
          have := of_decide_eq_false h
          exact Prod.ext (Classical.not_not.1 this).1 (Classical.not_not.1 this).2
        have hpn : z = true → A ≠ B := by
          intro h
          rw [hz] at h
          have := of_decide_eq_true h
          exact hno fun e => this (by rw [e]; exact ⟨rfl, rfl⟩)
        generalize (A.getD i (0, 0)).1 = x1 at c0 hq
        generalize (A.getD i (0, 0)).2 = x2 at c1 hq
        generalize (B.getD i (0, 0)).1 = y1 at d0 hq
        generalize (B.getD i (0, 0)).2 = y2 at d1 hq
        cases z
        · have HEQ : Hid (A.take (i + 1) = B.take (i + 1)) := hst.2 ⟨heq, hpe rfl⟩
          clear hst hno hz hpe hpn heq hgw
          go_upto_region 6 with fail
          go_quiet (fail)
          go_wp2
          go_roundw
          case rel => exact ⟨i + 1, by go_num, by omega, HEQ.out, HG.out.trans ⟨_, #[], by rw [grow_empty]⟩⟩
          case measure => simp [RowKit.intOf]; omega
        · have HEQ : Hid (R = false) := by show R = false; rw [HR.out]; exact decide_eq_false (hpn rfl)
          clear hst hno hz hpe hpn heq hgw
          go_upto_region 6 with fail
          go_quiet (fail)
          go_wp2
          go_ret
          exact ⟨by rw [HEQ.out]; rfl, HG.out.trans ⟨_, #[], by rw [grow_empty]⟩⟩
      · obtain rfl : i = la := by omega
        have HEQ : Hid (R = true) := by
          show R = true
          rw [HR.out]
          rw [List.take_of_length_le (by rw [HLA.out]; omega), List.take_of_length_le (by rw [HLB.out]; omega)] at heq
          exact decide_eq_true heq
        clear heq hgw
        go_wp2
        go_ret
        exact ⟨by rw [HEQ.out]; rfl, HG.out⟩
  · have HEQ : Hid (R = false) := by
      show R = false
      rw [HR.out]
      refine decide_eq_false fun h => hl ?_
      rw [← HLA.out, ← HLB.out, h]
    go_enter Try.func17, Try.ntmps17
    go_wp2
    go_ret
    exact ⟨by rw [HEQ.out]; rfl, Gw.refl _⟩
set_option maxHeartbeats 1000000 in
theorem sameC_any (A B : List Int) (a b : Option Addr) (la ca lb cb : Nat) (w : World) (ra : RdC w a la A) (rb : RdC w b lb B) (h1 : la ≤ 100000) :
    Calls Try.prog 15 #[.slice a la ca, .slice b lb cb] w fun e w' => e = .returned (.bool (decide (A = B))) ∧ Gw w w' := by
  have HLA : Hid (A.length = la) := ra.1
  have HLB : Hid (B.length = lb) := rb.1
  have HDA : Hid (RdC w a la A) := ra
  have HDB : Hid (RdC w b lb B) := rb
  have mixed : Try.prog.follows .mixedOrders = true := by kernel_rfl
  obtain ⟨R, hR⟩ : ∃ R, R = decide (A = B) := ⟨_, rfl⟩
  rw [← hR]
  have HR : Hid (R = decide (A = B)) := hR
  clear ra rb hR
  by_cases hl : la = lb
  · subst hl
    go_enter Try.func15, Try.ntmps15
    go_wp2
    go_loopw [5] (fun x5 wr => ∃ i : Nat, x5 = .int .i64 i ∧ i ≤ la ∧ A.take i = B.take i ∧ Gw w wr) (fun x5 _ => la - (RowKit.intOf x5).toNat)
    case atStart => exact ⟨0, rfl, by omega, rfl, Gw.refl _⟩
    case round =>
      obtain ⟨i, hx5, hil, heq, hgw⟩ := hrel
      subst hx5
      have HG : Hid (Gw w wr) := hgw
      by_cases hlt : i < la
      · obtain ⟨b1, o1, hab, c0⟩ := (HDA.out.gw hgw).at i hlt
        obtain ⟨b2, o2, hab2, d0⟩ := (HDB.out.gw hgw).at i hlt
        subst hab hab2
        have hst := take_eqC A B i (by rw [HLA.out]; exact hlt) (by rw [HLB.out]; exact hlt)
        obtain ⟨z, hz⟩ : ∃ z, z = decide (¬ A.getD i 0 = B.getD i 0) := ⟨_, rfl⟩
        have hq : (A.getD i 0 != B.getD i 0) = z := neq_bool _ _ z hz
        have hpe : z = false → A.getD i 0 = B.getD i 0 := by
          intro h
          rw [hz] at h
          exact Classical.not_not.1 (of_decide_eq_false h)
        have hpn : z = true → A ≠ B := by
          intro h
          rw [hz] at h
          have := of_decide_eq_true h
          exact fun e => this (by rw [e])
        generalize A.getD i 0 = x1 at c0 hq
        generalize B.getD i 0 = y1 at d0 hq
        cases z
        · have HEQ : Hid (A.take (i + 1) = B.take (i + 1)) := hst.2 ⟨heq, hpe rfl⟩
          clear hst hz hpe hpn heq hgw
          go_upto_region 6 with fail
          go_quiet (fail)
          go_wp2
          go_roundw
          case rel => exact ⟨i + 1, by go_num, by omega, HEQ.out, HG.out.trans ⟨_, #[], by rw [grow_empty]⟩⟩
          case measure => simp [RowKit.intOf]; omega
        · have HEQ : Hid (R = false) := by show R = false; rw [HR.out]; exact decide_eq_false (hpn rfl)
          clear hst hz hpe hpn heq hgw
          go_upto_region 6 with fail
          go_quiet (fail)
          go_wp2
          go_ret
          exact ⟨by rw [HEQ.out]; rfl, HG.out.trans ⟨_, #[], by rw [grow_empty]⟩⟩
      · obtain rfl : i = la := by omega
        have HEQ : Hid (R = true) := by
          show R = true
          rw [HR.out]
          rw [List.take_of_length_le (by rw [HLA.out]; omega), List.take_of_length_le (by rw [HLB.out]; omega)] at heq
          exact decide_eq_true heq
        clear heq hgw
        go_wp2
        go_ret
        exact ⟨by rw [HEQ.out]; rfl, HG.out⟩
  · have HEQ : Hid (R = false) := by
      show R = false
      rw [HR.out]
      refine decide_eq_false fun h => hl ?_
      rw [← HLA.out, ← HLB.out, h]
    go_enter Try.func15, Try.ntmps15
    go_wp2
    go_ret
    exact ⟨by rw [HEQ.out]; rfl, Gw.refl _⟩

set_option maxHeartbeats 1000000 in
theorem findI_any (A : List (Int × Int)) (i : Int × Int) (a : Option Addr) (la ca : Nat) (w : World) (ra : RdE w a la A) (hn : A.Nodup) (hl : la ≤ 100000) :
    Calls Try.prog 25 #[.slice a la ca, .agg #[.int .i64 i.1, .int .i64 i.2]] w fun e w' => e = .returned (.int .i64 (ixI A i)) ∧ Gw w w' := by
  obtain ⟨i1, i2⟩ := i
  have HLA : Hid (A.length = la) := ra.1
  obtain ⟨W1, hW1⟩ : ∃ W1, W1 = w.alloc (.cells #[.int .i64 i1, .int .i64 i2] 32) := ⟨_, rfl⟩
  have hg1 : Gw w W1 := by rw [hW1]; exact gw_alloc w _
  have hNb : W1.heap[w.heap.size]? = some (.cells #[.int .i64 i1, .int .i64 i2] 32) := by rw [hW1]; exact heap_alloc_new w _
  have HD : Hid (∀ w', Gw W1 w' → RdE w' a la A ∧ w'.cell? ⟨w.heap.size, 0, none⟩ = some (.int .i64 i1) ∧ w'.cell? ⟨w.heap.size, 1, none⟩ = some (.int .i64 i2)) := fun w' hg => by
    obtain ⟨n0, n1⟩ := box2 hNb
    exact ⟨ra.gw (hg1.trans hg), hg.below.cell (World.block_lt_of_cell? W1 _ n0) ▸ n0, hg.below.cell (World.block_lt_of_cell? W1 _ n1) ▸ n1⟩
  have HAT : Hid (∀ k, k < la → A.getD k (0, 0) = (i1, i2) → ixI A (i1, i2) = (k : Int)) := fun k hk q => ix_at A _ hn k (by
    have hk2 : k < A.length := by rw [HLA.out]; exact hk
    rw [List.getElem?_eq_getElem hk2, ← q]; simp [hk2])
  have HNO : Hid ((∀ k, k < la → A.getD k (0, 0) ≠ (i1, i2)) → ixI A (i1, i2) = -1) := fun q => ix_none A _ fun hm => by
    obtain ⟨k, hk, e⟩ := List.getElem_of_mem hm
    have hk2 : k < la := by rw [← HLA.out]; exact hk
    exact q k hk2 (by simp [hk, e])
  have HG1 : Hid (Gw w W1) := hg1
  generalize ixI A (i1, i2) = R at HAT HNO ⊢
  obtain ⟨N, hNe⟩ : ∃ N, N = w.heap.size := ⟨_, rfl⟩
  rw [← hNe] at HD
  clear hn hg1 hNb ra
  go_enter Try.func25, Try.ntmps25
  go_upto_region 1 with fail
  rw [← hNe, ← hW1]
  clear hNe hW1
  go_wp2
  go_loopw [5] (fun x5 wr => ∃ k : Nat, x5 = .int .i64 (k : Int) ∧ k ≤ la ∧ (∀ j, j < k → A.getD j (0, 0) ≠ (i1, i2)) ∧ Gw W1 wr) (fun x5 _ => la - (RowKit.intOf x5).toNat)
  case atStart => exact ⟨0, rfl, by omega, fun j hj => absurd hj (by omega), Gw.refl _⟩
  case round =>
    obtain ⟨k, hx5, hk, hno, hg⟩ := hrel
    subst hx5
    have HG : Hid (Gw W1 wr) := hg
    have HN : Hid (∀ j, j < k → A.getD j (0, 0) ≠ (i1, i2)) := hno
    clear hg hno
    by_cases hlt : k < la
    · obtain ⟨hr, n0, n1⟩ := HD.out wr HG.out
      obtain ⟨b1, o1, hab, c0, c1⟩ := hr.at k hlt
      subst hab
      obtain ⟨z, hz⟩ : ∃ z, z = decide (((A.getD k (0, 0)).1, (A.getD k (0, 0)).2) = (i1, i2)) := ⟨_, rfl⟩
      have hq := eql_ids (A.getD k (0, 0)).1 (A.getD k (0, 0)).2 i1 i2 z hz
      have hp1 : z = true → R = (k : Int) := fun h => HAT.out k hlt (of_decide_eq_true (by rw [← hz]; exact h))
      have hp2 : z = false → ∀ j, j < k + 1 → A.getD j (0, 0) ≠ (i1, i2) := fun h j hj => by
        rcases Nat.eq_or_lt_of_le (Nat.le_of_lt_succ hj) with rfl | hj
        · rw [hz] at h; exact of_decide_eq_false h
        · exact HN.out j hj
      generalize (A.getD k (0, 0)).1 = x1 at c0 hq
      generalize (A.getD k (0, 0)).2 = x2 at c1 hq
      clear hr hz
      cases z
      · have HP : Hid (∀ j, j < k + 1 → A.getD j (0, 0) ≠ (i1, i2)) := hp2 rfl
        clear hp1 hp2 HN HD HAT HNO
        go_upto_region 4 with fail
        go_quiet (fail)
        go_wp2
        go_roundw
        case rel => exact ⟨k + 1, (by go_num), (by omega), HP.out, HG.out.trans ⟨_, #[], by rw [grow_empty]⟩⟩
        case measure => simp [RowKit.intOf]; omega
      · have HP : Hid (R = (k : Int)) := hp1 rfl
        clear hp1 hp2 HN HD HAT HNO
        go_upto_region 4 with fail
        go_quiet (fail)
        go_wp2
        go_ret
        exact ⟨(by rw [HP.out]; rfl), HG1.out.trans (HG.out.trans ⟨_, #[], by rw [grow_empty]⟩)⟩
    · obtain rfl : k = la := by omega
      have HP : Hid (R = -1) := HNO.out HN.out
      clear HD HAT HNO HN
      go_wp2
      go_ret
      exact ⟨(by rw [HP.out]; rfl), HG1.out.trans HG.out⟩

/-- A row without an ID. -/
def wtI (l : List (Int × Int)) (i : Int × Int) : List (Int × Int) := l.filter fun x => !decide (x = i)
theorem wt_snoc (l : List (Int × Int)) (i : Int × Int) (k : Nat) (h : k < l.length) : wtI (l.take (k + 1)) i = wtI (l.take k) i ++ (if l.getD k (0, 0) = i then [] else [l.getD k (0, 0)]) := by
  have e : l.take (k + 1) = l.take k ++ [l.getD k (0, 0)] := by
    rw [List.take_add_one, List.getElem?_eq_getElem h]
    simp [h]
  rw [e]
  generalize l.getD k (0, 0) = X
  unfold wtI
  rw [List.filter_append]
  congr 1
  by_cases q : X = i <;> simp [q]
set_option maxHeartbeats 2000000 in
theorem without_any (A : List (Int × Int)) (i : Int × Int) (a : Option Addr) (la ca : Nat) (w : World) (ra : RdE w a la A) (hl : la ≤ 99000) :
    Calls Try.prog 23 #[.slice a la ca, .agg #[.int .i64 i.1, .int .i64 i.2]] w fun e w' => ∃ v, e = .returned v ∧ w'.ownsRow w.heap.size 32 2 v (wtI A i).length (flatE (wtI A i)) ∧ Below w.heap.size w w' := by
  obtain ⟨i0, ji, jz0, jz1, jz2⟩ := info_parts info_ID
  have HJ : Hid (Try.prog.info? 32 = some i0 ∧ i0.zero = some (.agg #[.int .i64 0, .int .i64 0]) ∧ i0.size = 2 ∧ i0.bytes = 16) := ⟨ji, jz0, jz1, jz2⟩
  obtain ⟨i1, i2⟩ := i
  have HLA : Hid (A.length = la) := ra.1
  obtain ⟨W1, hW1⟩ : ∃ W1, W1 = w.alloc (.cells #[.int .i64 i1, .int .i64 i2] 32) := ⟨_, rfl⟩
  have hg1 : Gw w W1 := by rw [hW1]; exact gw_alloc w _
  have hNb : W1.heap[w.heap.size]? = some (.cells #[.int .i64 i1, .int .i64 i2] 32) := by rw [hW1]; exact heap_alloc_new w _
  have HRA : Hid (∀ w', Below w.heap.size w w' → RdE w' a la A) := fun w' hb => ra.later hb
  have HST : Hid (∀ k, k < la → wtI (A.take (k + 1)) (i1, i2) = wtI (A.take k) (i1, i2) ++ (if A.getD k (0, 0) = (i1, i2) then [] else [A.getD k (0, 0)])) := fun k hk => wt_snoc A _ k (by rw [HLA.out]; exact hk)
  have hal : wtI (A.take la) (i1, i2) = wtI A (i1, i2) := by rw [List.take_of_length_le (by rw [HLA.out]; exact Nat.le_refl _)]
  have HAL : Hid (wtI (A.take la) (i1, i2) = wtI A (i1, i2)) := hal
  have HLE : Hid (∀ k, k ≤ la → (wtI (A.take k) (i1, i2)).length ≤ 99000) := fun k hk => by
    have h1 : (wtI (A.take k) (i1, i2)).length ≤ (A.take k).length := List.length_filter_le _ _
    rw [List.length_take] at h1
    omega
  have HBX : Hid (∀ V, Below W1.heap.size W1 V → V.cell? ⟨w.heap.size, 0, none⟩ = some (.int .i64 i1) ∧ V.cell? ⟨w.heap.size, 1, none⟩ = some (.int .i64 i2)) := fun V hV => by
    obtain ⟨n0, n1⟩ := box2 hNb
    exact ⟨hV.cell (World.block_lt_of_cell? W1 _ n0) ▸ n0, hV.cell (World.block_lt_of_cell? W1 _ n1) ▸ n1⟩
  have HG1 : Hid (Below w.heap.size w W1) := hg1.below
  have HS0 : Hid ((wtI (A.take 0) (i1, i2)).length = 0) := rfl
  have HA0 : Hid (W1.ownsRow W1.heap.size 32 2 (.slice none 0 0) 0 (flatE (wtI (A.take 0) (i1, i2)))) := World.ownsRow_nil _ _ _ _
  obtain ⟨N, hNe⟩ : ∃ N, N = w.heap.size := ⟨_, rfl⟩
  rw [← hNe] at HBX
  generalize hF : (fun k => wtI (A.take k) (i1, i2)) = F at *
  have HF : Hid (∀ k, wtI (A.take k) (i1, i2) = F k) := fun k => by rw [← hF]
  have HSF : Hid (∀ k, k < la → F (k + 1) = F k ++ (if A.getD k (0, 0) = (i1, i2) then [] else [A.getD k (0, 0)])) := fun k hk => by rw [← HF.out, ← HF.out]; exact HST.out k hk
  have HLF : Hid (∀ k, k ≤ la → (F k).length ≤ 99000) := fun k hk => by rw [← HF.out]; exact HLE.out k hk
  have HAF : Hid (F la = wtI A (i1, i2)) := by show F la = _; rw [← HF.out]; exact HAL.out
  have HA1 : Hid (W1.ownsRow W1.heap.size 32 2 (.slice none 0 0) (F 0).length (flatE (F 0))) := by show W1.ownsRow _ _ _ _ (F 0).length (flatE (F 0)); rw [← HF.out]; exact HA0.out
  have HX : Hid (∀ l : List (Int × Int), ∀ p : Int × Int, flatE (l ++ [p]) = flatE l ++ [.int .i64 p.1, .int .i64 p.2]) := fun l p => by simp [flatE, encE]
  have hsl0 : (F 0).length = 0 := by rw [← HF.out]; rfl
  have HSL0 : Hid ((F 0).length = 0) := hsl0
  generalize wtI A (i1, i2) = WA at *
  clear hF HF HST HLE HAL HA0 HS0 hal hg1 hNb ra ji jz0 jz1 jz2 hsl0
  go_enter Try.func23, Try.ntmps23
  go_upto_region 1 with fail
  rw [← hNe, ← hW1]
  clear hW1 hNe
  go_wp2
  go_loopw [6, 5] (fun x6 x5 wr => ∃ (k : Nat) (b : Option Addr) (m d : Nat), x6 = .int .i64 (k : Int) ∧ x5 = .slice b m d ∧ m = (F k).length ∧ k ≤ la ∧ wr.ownsRow W1.heap.size 32 2 (.slice b m d) m (flatE (F k)) ∧ Below W1.heap.size W1 wr) (fun x6 _ _ => la - (RowKit.intOf x6).toNat)
  case atStart => exact ⟨0, _, _, _, rfl, rfl, HSL0.out.symm, by omega, (by have := HA1.out; rw [HSL0.out] at this; exact this), Below.refl _ _⟩
  case round =>
    obtain ⟨k, b, m, d, hx6, hx5, hm, hk, ho, hb⟩ := hrel
    subst hx6 hx5
    have HO : Hid (wr.ownsRow W1.heap.size 32 2 (.slice b m d) m (flatE (F k))) := ho
    have HB : Hid (Below W1.heap.size W1 wr) := hb
    have HM : Hid (m = (F k).length) := hm
    clear ho hb hm HA1
    by_cases hlt : k < la
    · obtain ⟨n0, n1⟩ := HBX.out wr HB.out
      have hr := HRA.out wr (HG1.out.trans (HB.out.mono HG1.out.size))
      obtain ⟨b1, o1, hab, c0, c1⟩ := hr.at k hlt
      subst hab
      have hst := HSF.out k hlt
      have hml : m ≤ 99000 := by rw [HM.out]; exact HLF.out k hk
      obtain ⟨X, hXe⟩ : ∃ X, X = A.getD k (0, 0) := ⟨_, rfl⟩
      rw [← hXe] at c0 c1 hst
      obtain ⟨x1, x2⟩ := X
      obtain ⟨z, hz⟩ : ∃ z, z = decide (¬ (x1 = i1 ∧ x2 = i2)) := ⟨_, rfl⟩
      have hq := neq_idz x1 x2 i1 i2 z hz
      clear hr hXe
      cases z
      · have he : (x1, x2) = (i1, i2) := by
          have := Classical.not_not.1 (of_decide_eq_false hz.symm)
          exact Prod.ext this.1 this.2
        have HN : Hid (m = (F (k + 1)).length ∧ wr.ownsRow W1.heap.size 32 2 (.slice b m d) m (flatE (F (k + 1)))) := by
          have e : F (k + 1) = F k := by rw [hst, if_pos he, List.append_nil]
          rw [e]; exact ⟨HM.out, HO.out⟩
        clear hst hz he HSF HLF HRA HO HM
        go_upto_region 5 with fail
        go_quiet (fail)
        go_wp2
        go_roundw
        case rel => exact ⟨k + 1, _, _, _, (by go_num), rfl, HN.out.1, (by omega), HN.out.2, below_drewX HB.out _⟩
        case measure => simp [RowKit.intOf]; omega
      · have he : ¬ (x1, x2) = (i1, i2) := fun e => by
          have := of_decide_eq_true hz.symm
          exact this ⟨congrArg Prod.fst e, congrArg Prod.snd e⟩
        have e : F (k + 1) = F k ++ [(x1, x2)] := by rw [hst, if_neg he]
        have HFIN : Hid (∀ (V w' : World) (g c1 : Nat), Below wr.heap.size wr V → w'.ownsRow W1.heap.size 32 2 (.slice (some ⟨g, 0, none⟩) (m + 1) c1) (m + 1) (flatE (F k) ++ [.int .i64 x1, .int .i64 x2]) → V.grownBy w' (Value.slice b m d).ownBlock → m + 1 = (F (k + 1)).length ∧ w'.ownsRow W1.heap.size 32 2 (.slice (some ⟨g, 0, none⟩) (m + 1) c1) (m + 1) (flatE (F (k + 1))) ∧ Below W1.heap.size W1 w') := by
          intro V w' g c1 hV q1 q2
          refine ⟨by rw [e, HM.out]; simp, by rw [e, HX.out]; exact q1, ?_⟩
          have hall := HB.out.trans (hV.mono HB.out.size)
          exact hall.grown q2 hall.size (fun j ee => (own_cur (own_laterX HO.out hV) ee).1)
        have HOW : Hid (∀ V, Below wr.heap.size wr V → V.ownsRow W1.heap.size 32 2 (.slice b m d) m (flatE (F k))) := fun V hV => own_laterX HO.out hV
        have HBS : Hid (W1.heap.size ≤ wr.heap.size) := HB.out.size
        have HML : Hid (m ≤ 99000) := hml
        generalize flatE (F k) = fl at *
        clear hst hz he e HSF HLF HRA HO HM hml
        go_upto_region 5 with fail
        go_quiet (fail)
        go_wp2_with (at_builtin; refine wpList_append_lies _ rfl _ _ 39 rfl W1.heap.size 32 i0 _ 2 16 Try.underlying39 HJ.out.1 HJ.out.2.1 HJ.out.2.2.1 HJ.out.2.2.2 rfl (by decide) (.slice b m d) m fl rfl (HOW.out _ ((below_drewX (Below.refl _ wr) _).alloc (Nat.le_refl _) _)) ⟨wr.heap.size, 0, none⟩ 1 1 ([.int .i64 x1, .int .i64 x2]) rfl rfl (World.news_of_block (cs := #[.int .i64 x1, .int .i64 x2]) (t := 32) (fr := (0, 0)) (heap_alloc_new (wr.drewN nq) _)) (by simp [Value.oneCell']) (by decide) (by have := HML.out; unfold maxLen; omega) (by have := HML.out; omega) (by have := HBS.out; simp; omega) _ rfl (fun g c1 w' q1 q2 q3 _ => ?_); have HZ : Hid _ := HFIN.out _ w' g c1 ((below_drewX (Below.refl _ wr) _).alloc (Nat.le_refl _) _) q1 q2; clear q1 q2 q3)
        go_roundw
        case rel => exact ⟨k + 1, _, _, _, (by go_num), rfl, HZ.out.1, (by omega), HZ.out.2.1, HZ.out.2.2⟩
        case measure => simp [RowKit.intOf]; omega
    · obtain rfl : k = la := by omega
      have HFF : Hid (wr.ownsRow w.heap.size 32 2 (.slice b m d) WA.length (flatE WA) ∧ Below w.heap.size w wr) := by
        have h1 := HO.out
        have h2 := HM.out
        rw [HAF.out] at h1 h2
        rw [← h2]
        exact ⟨ownsRow_base_a h1 HG1.out.size, HG1.out.trans (HB.out.mono HG1.out.size)⟩
      clear HSF HLF HRA HO HM
      go_wp2
      go_ret
      exact ⟨_, rfl, HFF.out.1, HFF.out.2⟩

def o14a : Opn := ⟨1, 0, 1, true, 0, 0, 97⟩
def o14b : Opn := ⟨1, 1, 1, true, 0, 0, 98⟩
def o14c : Opn := ⟨2, 0, 2, true, 1, 0, 99⟩
def o14d : Opn := ⟨2, 1, 3, false, 1, 0, 0⟩
theorem shown14_facts : putA [] o14a = (true, 0) ∧ putO [] o14a = [o14a] ∧ putA [o14a] o14b = (true, 0) ∧ putO [o14a] o14b = [o14a, o14b] ∧ putA [o14a, o14b] o14c = (true, 0) ∧ putO [o14a, o14b] o14c = [o14a, o14b, o14c] ∧ putA [o14a, o14b, o14c] o14d = (false, 6) ∧ putO [o14a, o14b, o14c] o14d = [o14a, o14b, o14c] ∧ visC (els [o14a, o14b, o14c]) = [98, 97, 99] ∧ cnt (marks [o14a, o14b, o14c]) = 3 ∧ topO [o14a, o14b, o14c] = 2 := by
  refine ⟨?_, ?_, ?_, ?_, ?_, ?_, ?_, ?_, ?_, ?_, ?_⟩ <;> first | rfl | decide
end Go.Proofs.Ytjdgacanlbhfbaa
