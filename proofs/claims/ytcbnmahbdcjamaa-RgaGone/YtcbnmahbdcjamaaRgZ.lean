/- The walks of the statements' small functions: SameIDs, Same, find, without; shown. -/
import Derived.Test.YtcbnmahbdcjamaaRgY
namespace Go.Proofs.Ytcbnmahbdcjamaa
open Go.RowKit Go.Shelf Go.Maps Go.Sort
set_option linter.unusedVariables false
set_option linter.unusedSimpArgs false

/-- A slice that reads as runes. -/
def RdC (w : World) (a : Option Addr) (n : Nat) (l : List Int) : Prop := l.length = n ∧ (0 < n → ∃ b off, a = some ⟨b, off, none⟩ ∧ ∀ k, k < n → w.cell? ⟨b, off + k, none⟩ = some (.int .i32 (l.getD k 0)))
theorem RdC.later {w w' : World} {a : Option Addr} {n : Nat} {l : List Int} (h : RdC w a n l) (hb : Below w.heap.size w w') : RdC w' a n l := by
  refine ⟨h.1, fun h0 => ?_⟩
  obtain ⟨b, off, ha, hc⟩ := h.2 h0
  exact ⟨b, off, ha, fun j hj => hb.cell (World.block_lt_of_cell? w _ (hc j hj)) ▸ hc j hj⟩
theorem RdC.gw {w w' : World} {a : Option Addr} {n : Nat} {l : List Int} (h : RdC w a n l) (hb : Gw w w') : RdC w' a n l := h.later hb.below
theorem RdC.at {w : World} {a : Option Addr} {n : Nat} {l : List Int} (h : RdC w a n l) (i : Nat) (hi : i < n) : ∃ b off, a = some ⟨b, off, none⟩ ∧ w.cell? ⟨b, off + i, none⟩ = some (.int .i32 (l.getD i 0)) := by
  obtain ⟨b, off, ha, hc⟩ := h.2 (by omega)
  exact ⟨b, off, ha, hc i hi⟩
theorem rdC_own {w : World} {B : Nat} {e : TypeId} {v : Value} {n : Nat} {l : List Int} (h : w.ownsRow B e 1 v n (flatC l)) : ∃ a cap, v = .slice a n cap ∧ n ≤ cap ∧ cap ≤ 9223372036854775807 ∧ RdC w a n l := by
  have hl : l.length = n := by have := h.1; rw [flatC_len] at this; omega
  rcases h.2 with ⟨rfl, rfl⟩ | ⟨g, cap, cur, rfl, hb, hg, hn, hm, hs, ht⟩
  · exact ⟨none, 0, rfl, by omega, by omega, hl, fun hp => absurd hp (by omega)⟩
  · refine ⟨_, cap, rfl, hn, by simpa [maxLen] using hm, hl, fun hp => ⟨g, 0, rfl, fun k hk => ?_⟩⟩
    rw [Nat.zero_add, cell_of_row w g _ _ _ _ hg]
    have h2 : (cur.toList.take (n * 1))[k]? = (flatC l)[k]? := by rw [ht]
    rw [List.getElem?_take, if_pos (by omega)] at h2
    unfold flatC at h2
    rw [List.getElem?_map, List.getElem?_eq_getElem (show k < l.length by omega)] at h2
    have h3 : cur[k]? = some (.int .i32 l[k]) := by simpa using h2
    rw [h3]
    simp [show k < l.length by omega]
theorem rdE_own14 {w : World} {B : Nat} {e : TypeId} {v : Value} {n : Nat} {l : List (Int × Int)} (h : w.ownsRow B e 2 v n (flatE l)) : ∃ a cap, v = .slice a n cap ∧ n ≤ cap ∧ cap ≤ 9223372036854775807 ∧ RdE w a n l ∧ (a = none → cap = 0) := by
  have hl : l.length = n := by have := h.1; rw [flatE_len] at this; omega
  rcases h.2 with ⟨rfl, rfl⟩ | ⟨g, cap, cur, rfl, hb, hg, hn, hm, hs, ht⟩
  · exact ⟨none, 0, rfl, by omega, by omega, ⟨hl, fun hp => absurd hp (by omega)⟩, fun _ => rfl⟩
  · refine ⟨_, cap, rfl, hn, by simpa [maxLen] using hm, ⟨hl, fun hp => ⟨g, 0, rfl, fun j u hu => ?_⟩⟩, fun h => by cases h⟩
    rw [Nat.zero_add, cell_of_row w g _ _ _ _ hg]
    rw [← ht, List.getElem?_take] at hu
    split at hu
    · simpa using hu
    · cases hu
theorem below_drewX {B : Nat} {w w' : World} (h : Below B w w') (q : Nat) : Below B w (w'.drewN q) := ⟨h.os, h.tape, h.output, h.size, h.block⟩
theorem neq_bool (a b : Int) (z : Bool) (hz : z = decide (¬ a = b)) : (a != b) = z := by
  subst hz
  by_cases h1 : a = b <;> simp [h1]
theorem neq_rune (a b : Int) (z : Bool) (hz : z = decide (¬ a = b)) (W : World) : (binOp .neq 21 (.int .i32 a) (.int .i32 b)).run Try.prog W = .ok (.bool z) W := by
  subst hz
  by_cases h1 : a = b <;> go_simp
theorem neq_idz (a1 a2 b1 b2 : Int) (z : Bool) (hz : z = decide (¬ (a1 = b1 ∧ a2 = b2))) (W : World) : (binOp .neq 32 (.agg #[.int .i64 a1, .int .i64 a2]) (.agg #[.int .i64 b1, .int .i64 b2])).run Try.prog W = .ok (.bool z) W := by
  subst hz
  by_cases h1 : a1 = b1 <;> by_cases h2 : a2 = b2 <;> go_simp
theorem take_eqI (A B : List (Int × Int)) (i : Nat) (ha : i < A.length) (hb : i < B.length) : A.take (i + 1) = B.take (i + 1) ↔ A.take i = B.take i ∧ A.getD i (0, 0) = B.getD i (0, 0) := by
  have e1 : A.take (i + 1) = A.take i ++ [A.getD i (0, 0)] := by rw [List.take_add_one]; simp [ha]
  have e2 : B.take (i + 1) = B.take i ++ [B.getD i (0, 0)] := by rw [List.take_add_one]; simp [hb]
  rw [e1, e2]
  constructor
  · intro h
    have h3 := List.append_inj h (by simp; omega)
    exact ⟨h3.1, by simpa using h3.2⟩
  · rintro ⟨h1, h2⟩
    rw [h1, h2]
theorem take_eqC (A B : List Int) (i : Nat) (ha : i < A.length) (hb : i < B.length) : A.take (i + 1) = B.take (i + 1) ↔ A.take i = B.take i ∧ A.getD i 0 = B.getD i 0 := by
  have e1 : A.take (i + 1) = A.take i ++ [A.getD i 0] := by rw [List.take_add_one]; simp [ha]
  have e2 : B.take (i + 1) = B.take i ++ [B.getD i 0] := by rw [List.take_add_one]; simp [hb]
  rw [e1, e2]
  constructor
  · intro h
    have h3 := List.append_inj h (by simp; omega)
    exact ⟨h3.1, by simpa using h3.2⟩
  · rintro ⟨h1, h2⟩
    rw [h1, h2]
set_option maxHeartbeats 1000000 in
theorem sameI_any (A B : List (Int × Int)) (a b : Option Addr) (la ca lb cb : Nat) (w : World) (ra : RdE w a la A) (rb : RdE w b lb B) (h1 : la ≤ 100000) :
    Calls Try.prog 15 #[.slice a la ca, .slice b lb cb] w fun e w' => e = .returned (.bool (decide (A = B))) ∧ Gw w w' := by
  have HLA : Hid (A.length = la) := ra.1
  have HLB : Hid (B.length = lb) := rb.1
  have HDA : Hid (RdE w a la A) := ra
  have HDB : Hid (RdE w b lb B) := rb
  have mixed : Try.prog.follows .mixedOrders = true := by kernel_rfl
  obtain ⟨R, hR⟩ : ∃ R, R = decide (A = B) := ⟨_, rfl⟩
  rw [← hR]
  have HR : Hid (R = decide (A = B)) := hR
  clear ra rb hR
  by_cases hl : la = lb
  · subst hl
    go_enter Try.func15, Try.ntmps15
    go_wp2
    go_loopw [5] (fun x5 wr => ∃ i : Nat, x5 = .int .i64 i ∧ i ≤ la ∧ A.take i = B.take i ∧ Gw w wr) (fun x5 _ => la - (RowKit.intOf x5).toNat)
    case atStart => exact ⟨0, rfl, by omega, rfl, Gw.refl _⟩
    case round =>
      obtain ⟨i, hx5, hil, heq, hgw⟩ := hrel
      subst hx5
      have HG : Hid (Gw w wr) := hgw
      by_cases hlt : i < la
      · obtain ⟨b1, o1, hab, c0, c1⟩ := (HDA.out.gw hgw).at i hlt
        obtain ⟨b2, o2, hab2, d0, d1⟩ := (HDB.out.gw hgw).at i hlt
        subst hab hab2
        have hst := take_eqI A B i (by rw [HLA.out]; exact hlt) (by rw [HLB.out]; exact hlt)
        have hno : A.getD i (0, 0) ≠ B.getD i (0, 0) → A ≠ B := fun h1 h2 => h1 (by rw [h2])
        obtain ⟨z, hz⟩ : ∃ z, z = decide (¬ ((A.getD i (0, 0)).1 = (B.getD i (0, 0)).1 ∧ (A.getD i (0, 0)).2 = (B.getD i (0, 0)).2)) := ⟨_, rfl⟩
        have hq := neq_idz (A.getD i (0, 0)).1 (A.getD i (0, 0)).2 (B.getD i (0, 0)).1 (B.getD i (0, 0)).2 z hz
        have hpe : z = false → A.getD i (0, 0) = B.getD i (0, 0) := by
          intro h
          rw [hz] at h
          have := of_decide_eq_false h
          exact Prod.ext (Classical.not_not.1 this).1 (Classical.not_not.1 this).2
        have hpn : z = true → A ≠ B := by
          intro h
          rw [hz] at h
          have := of_decide_eq_true h
          exact hno fun e => this (by rw [e]; exact ⟨rfl, rfl⟩)
        generalize (A.getD i (0, 0)).1 = x1 at c0 hq
        generalize (A.getD i (0, 0)).2 = x2 at c1 hq
        generalize (B.getD i (0, 0)).1 = y1 at d0 hq
        generalize (B.getD i (0, 0)).2 = y2 at d1 hq
        cases z
        · have HEQ : Hid (A.take (i + 1) = B.take (i + 1)) := hst.2 ⟨heq, hpe rfl⟩
          clear hst hno hz hpe hpn heq hgw
          go_upto_region 6 with fail
          go_quiet (fail)
          go_wp2
          go_roundw
          case rel => exact ⟨i + 1, by go_num, by omega, HEQ.out, HG.out.trans ⟨_, #[], by rw [grow_empty]⟩⟩
          case measure => simp [RowKit.intOf]; omega
        · have HEQ : Hid (R = false) := by show R = false; rw [HR.out]; exact decide_eq_false (hpn rfl)
          clear hst hno hz hpe hpn heq hgw
          go_upto_region 6 with fail
          go_quiet (fail)
          go_wp2
          go_ret
          exact ⟨by rw [HEQ.out]; rfl, HG.out.trans ⟨_, #[], by rw [grow_empty]⟩⟩
      · obtain rfl : i = la := by omega
        have HEQ : Hid (R = true) := by
          show R = true
          rw [HR.out]
          rw [List.take_of_length_le (by rw [HLA.out]; omega), List.take_of_length_le (by rw [HLB.out]; omega)] at heq
          exact decide_eq_true heq
        clear heq hgw
        go_wp2
        go_ret
        exact ⟨by rw [HEQ.out]; rfl, HG.out⟩
  · have HEQ : Hid (R = false) := by
      show R = false
      rw [HR.out]
      refine decide_eq_false fun h => hl ?_
      rw [← HLA.out, ← HLB.out, h]
    go_enter Try.func15, Try.ntmps15
    go_wp2
    go_ret
    exact ⟨by rw [HEQ.out]; rfl, Gw.refl _⟩
set_option maxHeartbeats 1000000 in
theorem sameC_any (A B : List Int) (a b : Option Addr) (la ca lb cb : Nat) (w : World) (ra : RdC w a la A) (rb : RdC w b lb B) (h1 : la ≤ 100000) :
    Calls Try.prog 13 #[.slice a la ca, .slice b lb cb] w fun e w' => e = .returned (.bool (decide (A = B))) ∧ Gw w w' := by
  have HLA : Hid (A.length = la) := ra.1
  have HLB : Hid (B.length = lb) := rb.1
  have HDA : Hid (RdC w a la A) := ra
  have HDB : Hid (RdC w b lb B) := rb
  have mixed : Try.prog.follows .mixedOrders = true := by kernel_rfl
  obtain ⟨R, hR⟩ : ∃ R, R = decide (A = B) := ⟨_, rfl⟩
  rw [← hR]
  have HR : Hid (R = decide (A = B)) := hR
  clear ra rb hR
  by_cases hl : la = lb
  · subst hl
    go_enter Try.func13, Try.ntmps13
    go_wp2
    go_loopw [5] (fun x5 wr => ∃ i : Nat, x5 = .int .i64 i ∧ i ≤ la ∧ A.take i = B.take i ∧ Gw w wr) (fun x5 _ => la - (RowKit.intOf x5).toNat)
    case atStart => exact ⟨0, rfl, by omega, rfl, Gw.refl _⟩
    case round =>
      obtain ⟨i, hx5, hil, heq, hgw⟩ := hrel
      subst hx5
      have HG : Hid (Gw w wr) := hgw
      by_cases hlt : i < la
      · obtain ⟨b1, o1, hab, c0⟩ := (HDA.out.gw hgw).at i hlt
        obtain ⟨b2, o2, hab2, d0⟩ := (HDB.out.gw hgw).at i hlt
        subst hab hab2
        have hst := take_eqC A B i (by rw [HLA.out]; exact hlt) (by rw [HLB.out]; exact hlt)
        obtain ⟨z, hz⟩ : ∃ z, z = decide (¬ A.getD i 0 = B.getD i 0) := ⟨_, rfl⟩
        have hq : (A.getD i 0 != B.getD i 0) = z := neq_bool _ _ z hz
        have hpe : z = false → A.getD i 0 = B.getD i 0 := by
          intro h
          rw [hz] at h
          exact Classical.not_not.1 (of_decide_eq_false h)
        have hpn : z = true → A ≠ B := by
          intro h
          rw [hz] at h
          have := of_decide_eq_true h
          exact fun e => this (by rw [e])
        generalize A.getD i 0 = x1 at c0 hq
        generalize B.getD i 0 = y1 at d0 hq
        cases z
        · have HEQ : Hid (A.take (i + 1) = B.take (i + 1)) := hst.2 ⟨heq, hpe rfl⟩
          clear hst hz hpe hpn heq hgw
          go_upto_region 6 with fail
          go_quiet (fail)
          go_wp2
          go_roundw
          case rel => exact ⟨i + 1, by go_num, by omega, HEQ.out, HG.out.trans ⟨_, #[], by rw [grow_empty]⟩⟩
          case measure => simp [RowKit.intOf]; omega
        · have HEQ : Hid (R = false) := by show R = false; rw [HR.out]; exact decide_eq_false (hpn rfl)
          clear hst hz hpe hpn heq hgw
          go_upto_region 6 with fail
          go_quiet (fail)
          go_wp2
          go_ret
          exact ⟨by rw [HEQ.out]; rfl, HG.out.trans ⟨_, #[], by rw [grow_empty]⟩⟩
      · obtain rfl : i = la := by omega
        have HEQ : Hid (R = true) := by
          show R = true
          rw [HR.out]
          rw [List.take_of_length_le (by rw [HLA.out]; omega), List.take_of_length_le (by rw [HLB.out]; omega)] at heq
          exact decide_eq_true heq
        clear heq hgw
        go_wp2
        go_ret
        exact ⟨by rw [HEQ.out]; rfl, HG.out⟩
  · have HEQ : Hid (R = false) := by
      show R = false
      rw [HR.out]
      refine decide_eq_false fun h => hl ?_
      rw [← HLA.out, ← HLB.out, h]
    go_enter Try.func13, Try.ntmps13
    go_wp2
    go_ret
    exact ⟨by rw [HEQ.out]; rfl, Gw.refl _⟩

/-- A row without an ID. -/
def wtI (l : List (Int × Int)) (i : Int × Int) : List (Int × Int) := l.filter fun x => !decide (x = i)
theorem wt_snoc (l : List (Int × Int)) (i : Int × Int) (k : Nat) (h : k < l.length) : wtI (l.take (k + 1)) i = wtI (l.take k) i ++ (if l.getD k (0, 0) = i then [] else [l.getD k (0, 0)]) := by
  have e : l.take (k + 1) = l.take k ++ [l.getD k (0, 0)] := by
    rw [List.take_add_one, List.getElem?_eq_getElem h]
    simp [h]
  rw [e]
  generalize l.getD k (0, 0) = X
  unfold wtI
  rw [List.filter_append]
  congr 1
  by_cases q : X = i <;> simp [q]
def o14a : Opn := ⟨1, 0, 1, true, 0, 0, 97⟩
def o14b : Opn := ⟨1, 1, 1, true, 0, 0, 98⟩
def o14c : Opn := ⟨2, 0, 2, true, 1, 0, 99⟩
def o14d : Opn := ⟨2, 1, 3, false, 1, 0, 0⟩
theorem shown14_facts : putA [] o14a = (true, 0) ∧ putO [] o14a = [o14a] ∧ putA [o14a] o14b = (true, 0) ∧ putO [o14a] o14b = [o14a, o14b] ∧ putA [o14a, o14b] o14c = (true, 0) ∧ putO [o14a, o14b] o14c = [o14a, o14b, o14c] ∧ putA [o14a, o14b, o14c] o14d = (false, 6) ∧ putO [o14a, o14b, o14c] o14d = [o14a, o14b, o14c] ∧ visC (els [o14a, o14b, o14c]) = [98, 97, 99] ∧ cnt (marks [o14a, o14b, o14c]) = 3 ∧ topO [o14a, o14b, o14c] = 2 := by
  refine ⟨?_, ?_, ?_, ?_, ?_, ?_, ?_, ?_, ?_, ?_, ?_⟩ <;> first | rfl | decide
end Go.Proofs.Ytcbnmahbdcjamaa
