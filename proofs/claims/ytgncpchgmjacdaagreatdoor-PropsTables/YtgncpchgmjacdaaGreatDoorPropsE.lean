/- The walk of the library's search by halves over ranges, by side. -/
import Derived.Test.YtgncpchgmjacdaaGreatDoorPropsD
import Derived.BigQuiet
import Derived.Deep.DeepCutAuto
import Derived.Shelf.SlSortCmp.QuietGrown
namespace Go.Proofs.YtgncpchgmjacdaaGreatDoor
open Go.RowKit Go.Sort
set_option linter.unusedVariables false

theorem meets_sd (x y : Rg) (hy : y.1 ≤ y.2.1) : meets x y = decide (sdR y x = 0) := by
  unfold meets sdR
  by_cases h1 : y.2.1 < x.1
  · rw [if_pos h1]; simp; omega
  · rw [if_neg h1]
    by_cases h2 : x.2.1 < y.1
    · rw [if_pos h2]; simp; omega
    · rw [if_neg h2]; simp; omega
theorem asc_at : (rs : List Rg) → Asc rs → ∀ i, i < rs.length → (rs.getD i (0, 0, [])).1 ≤ (rs.getD i (0, 0, [])).2.1
  | [], _, i, h => by simp at h
  | x :: r, h, 0, _ => by simpa using h.1
  | x :: r, h, i + 1, hi => by simpa using asc_at r h.2.2 i (by simpa using hi)
theorem asc_lt : (rs : List Rg) → Asc rs → ∀ i j, i < j → j < rs.length → (rs.getD i (0, 0, [])).2.1 < (rs.getD j (0, 0, [])).1
  | [], _, i, j, _, h => by simp at h
  | x :: r, h, i, 0, hij, _ => by omega
  | x :: r, h, 0, j + 1, _, hj => by
    have := h.2.1 (r.getD j (0, 0, [])) (by simp at hj; simp [hj])
    simpa using this
  | x :: r, h, i + 1, j + 1, hij, hj => by simpa using asc_lt r h.2.2 i j (by omega) (by simpa using hj)
/-- Where the search stands: all ahead of i are wholly ahead, none from j on is. -/
def BsAt (rs : List Rg) (x : Rg) (i j : Nat) : Prop := (∀ k, k < i → (rs.getD k (0, 0, [])).2.1 < x.1) ∧ ∀ k, j ≤ k → k < rs.length → ¬ (rs.getD k (0, 0, [])).2.1 < x.1
theorem bsAt_up (rs : List Rg) (x : Rg) (i j h : Nat) (ha : Asc rs) (hb : BsAt rs x i j) (hh : h < rs.length) (hl : (rs.getD h (0, 0, [])).2.1 < x.1) : BsAt rs x (h + 1) j := by
  refine ⟨fun k hk => ?_, hb.2⟩
  rcases Nat.lt_or_ge k h with h1 | h1
  · have := asc_lt rs ha k h h1 hh
    have := asc_at rs ha h hh
    omega
  · rw [show k = h by omega]; exact hl
theorem bsAt_down (rs : List Rg) (x : Rg) (i j h : Nat) (ha : Asc rs) (hb : BsAt rs x i j) (hh : h < rs.length) (hl : ¬ (rs.getD h (0, 0, [])).2.1 < x.1) : BsAt rs x i h := by
  refine ⟨hb.1, fun k hk hk2 => ?_⟩
  rcases Nat.lt_or_ge h k with h1 | h1
  · have := asc_lt rs ha h k h1 hk2
    have := asc_at rs ha k hk2
    omega
  · rw [show k = h by omega]; exact hl
/-- Whether what the search came to meets. -/
def bsF (rs : List Rg) (x : Rg) (i : Nat) : Bool := decide (i < rs.length) && decide (sdR (rs.getD i (0, 0, [])) x = 0)
theorem bs_meets (rs : List Rg) (x : Rg) (i : Nat) (ha : Asc rs) (hi : i ≤ rs.length) (hx : x.1 ≤ x.2.1) (hb : BsAt rs x i i) : rs.any (meets x) = bsF rs x i := by
  rw [Bool.eq_iff_iff, List.any_eq_true]
  constructor
  · rintro ⟨y, hy, hm⟩
    obtain ⟨k, hk, rfl⟩ := List.mem_iff_getElem.1 hy
    have e : rs.getD k (0, 0, []) = rs[k] := by simp [hk]
    rw [← e] at hm
    have hak := asc_at rs ha k hk
    rw [meets_sd x _ hak, decide_eq_true_eq] at hm
    have hnl : ¬ (rs.getD k (0, 0, [])).2.1 < x.1 := by
      intro h; unfold sdR at hm; rw [if_pos h] at hm; cases hm
    have hki : i ≤ k := by
      rcases Nat.lt_or_ge k i with h | h
      · exact absurd (hb.1 k h) hnl
      · exact h
    have hil : i < rs.length := by omega
    unfold bsF
    rw [decide_eq_true hil, Bool.true_and, decide_eq_true_eq]
    have hni := hb.2 i (Nat.le_refl _) hil
    rcases Nat.lt_or_ge i k with h | h
    · have h1 := asc_lt rs ha i k h hk
      have h2 := asc_at rs ha i hil
      unfold sdR at hm ⊢
      rw [if_neg hnl] at hm
      rw [if_neg hni, if_neg]
      split at hm
      · cases hm
      · omega
    · rw [show i = k by omega]; exact hm
  · intro h
    unfold bsF at h
    simp only [Bool.and_eq_true, decide_eq_true_eq] at h
    refine ⟨rs.getD i (0, 0, []), by simp [h.1], ?_⟩
    rw [meets_sd x _ (asc_at rs ha i h.1)]
    exact decide_eq_true h.2
theorem bs_ins (rs : List Rg) (x : Rg) (i : Nat) (ha : Asc rs) (hi : i ≤ rs.length) (hx : x.1 ≤ x.2.1) (hb : BsAt rs x i i) (hf : bsF rs x i = false) : rs.take i ++ x :: rs.drop i = ins x rs := by
  have hm := bs_meets rs x i ha hi hx hb
  rw [hf] at hm
  refine ins_at x rs i hi ?_ ?_
  · intro y hy
    obtain ⟨k, hk, rfl⟩ := List.mem_iff_getElem.1 hy
    simp at hk
    have e : rs.getD k (0, 0, []) = (rs.take i)[k]'(by simp; omega) := by simp [show k < rs.length by omega]
    rw [← e]
    have := hb.1 k (by omega)
    have := asc_at rs ha k (by omega)
    omega
  · intro y hy
    obtain ⟨k, hk, rfl⟩ := List.mem_iff_getElem.1 hy
    simp at hk
    have e : rs.getD (i + k) (0, 0, []) = (rs.drop i)[k]'(by simp; omega) := by simp [show i + k < rs.length by omega]
    rw [← e]
    have h1 := hb.2 (i + k) (by omega) (by omega)
    have h2 : ¬ meets x (rs.getD (i + k) (0, 0, [])) = true := by
      intro h3
      have : rs.any (meets x) = true := List.any_eq_true.2 ⟨_, by simp [show i + k < rs.length by omega], h3⟩
      rw [hm] at this; cases this
    unfold meets at h2
    simp only [Bool.and_eq_true, decide_eq_true_eq] at h2
    omega

theorem below_grow (w : World) (n : Nat) (os : Array Obj) : Below w.heap.size w (grow (w.drewN n) os) := by
  refine ⟨rfl, rfl, rfl, ?_, fun k hk => ?_⟩
  · show w.heap.size ≤ (w.heap ++ os).size
    simp
  · show (w.heap ++ os)[k]? = w.heap[k]?
    rw [Array.getElem?_append_left hk]
theorem side_grow (y x : Rg) (w : World) :
    Calls Tryz.prog 71 #[.agg (encR y).toArray, .agg (encR x).toArray] w fun e w' => e = .returned (.int .i64 (sdR y x)) ∧ ∃ q os', w' = grow (w.drewN q) os' := by
  obtain ⟨p, q, r⟩ := x
  obtain ⟨p2, q2, r2⟩ := y
  show Calls Tryz.prog 71 #[.agg #[.int .i32 p2, .int .i32 q2, .string (strOfNums r2)], .agg #[.int .i32 p, .int .i32 q, .string (strOfNums r)]] w _
  obtain ⟨sv, hsv⟩ : ∃ sv, sv = sdR (p2, q2, r2) (p, q, r) := ⟨_, rfl⟩
  rw [← hsv]
  have hR : sv = if q2 < p then -1 else if q < p2 then 1 else 0 := hsv
  generalize strOfNums r = t
  generalize strOfNums r2 = t2
  clear hsv
  by_cases h1 : q2 < p
  · rw [if_pos h1] at hR
    subst hR
    go_enter Tryz.func71, Tryz.ntmps71
    go_wp2
    go_ret
    exact ⟨rfl, 0, _, by rw [alloc_eq_grow, alloc_eq_grow, grow_grow]; rfl⟩
  · rw [if_neg h1] at hR
    by_cases h2 : q < p2
    · rw [if_pos h2] at hR
      subst hR
      go_enter Tryz.func71, Tryz.ntmps71
      go_wp2
      go_ret
      exact ⟨rfl, 0, _, by rw [alloc_eq_grow, alloc_eq_grow, grow_grow]; rfl⟩
    · rw [if_neg h2] at hR
      subst hR
      go_enter Tryz.func71, Tryz.ntmps71
      go_wp2
      go_ret
      exact ⟨rfl, 0, _, by rw [alloc_eq_grow, alloc_eq_grow, grow_grow]; rfl⟩
theorem cell_g {w : World} {a : Addr} {v : Value} (h : w.cell? a = some v) : ∀ n os, (grow (w.drewN n) os).cell? a = some v :=
  fun n os => cell_grown (World.block_lt_of_cell? w _ h) h n os

set_option maxHeartbeats 2000000 in
theorem bsR_any (rs : List Rg) (x : Rg) (a : Option Addr) (len cap : Nat) (w : World) (ha : Asc rs) (hrd : RdR w a len rs) (hm : len ≤ 4611686018427387903) :
    Calls Tryz.prog 70 #[.slice a len cap, .agg (encR x).toArray, .func (.func 71) #[] #[]] w
      fun e w' => ∃ i : Nat, i ≤ rs.length ∧ BsAt rs x i i ∧ e = .returned (.tuple #[.int .i64 i, .bool (bsF rs x i)]) ∧ Below w.heap.size w w' := by
  have HA : Hid (Asc rs) := ha
  have HD : Hid (RdR w a len rs) := hrd
  have HL : Hid (rs.length = len) := hrd.1
  obtain ⟨ex, hex⟩ : ∃ ex, ex = (encR x).toArray := ⟨_, rfl⟩
  obtain ⟨p, q, r⟩ := x
  obtain ⟨sr, hsr⟩ : ∃ sr, sr = strOfNums r := ⟨_, rfl⟩
  have hex' : ex = #[.int .i32 p, .int .i32 q, .string sr] := by rw [hex, hsr]; rfl
  rw [← hex]
  subst hex'
  have HEX : Hid (#[.int .i32 p, .int .i32 q, .string sr] = (encR (p, q, r)).toArray) := hex
  clear ha hrd hex hsr
  have mixed : Tryz.prog.follows .mixedOrders = true := by kernel_rfl
  have HB0 : Hid (∀ o : Obj, Below w.heap.size w (w.alloc o)) := fun o => (Below.refl _ w).alloc (Nat.le_refl _) o
  go_enter Tryz.func70, Tryz.ntmps70
  go_wp2
  go_loopw [9, 10] (fun x9 x10 wr => ∃ i j : Nat, x9 = .int .i64 i ∧ x10 = .int .i64 j ∧ i ≤ j ∧ j ≤ len ∧ BsAt rs (p, q, r) i j ∧ Below w.heap.size w wr ∧ wr.heap[w.heap.size]? = some (.cells #[.int .i32 p, .int .i32 q, .string sr] 39)) (fun x9 x10 _ => (intOf x10).toNat - (intOf x9).toNat)
  case atStart => exact ⟨0, len, rfl, rfl, by omega, by omega, ⟨fun k hk => absurd hk (by omega), fun k h1 h2 => by rw [HL.out] at h2; omega⟩, HB0.out _, heap_alloc_new w _⟩
  case round =>
    obtain ⟨i, j, hx9, hx10, hij, hjl, hat, hbel, hblk⟩ := hrel
    subst hx9 hx10
    have HAT : Hid (BsAt rs (p, q, r) i j) := hat
    have HB : Hid (Below w.heap.size w wr) := hbel
    have HK : Hid (wr.heap[w.heap.size]? = some (.cells #[.int .i32 p, .int .i32 q, .string sr] 39)) := hblk
    clear hat hbel hblk
    by_cases hlt : i < j
    · obtain ⟨h, hh⟩ : ∃ h, h = (i + j) / 2 := ⟨_, rfl⟩
      have hh1 : i ≤ h := by omega
      have hh2 : h < j := by omega
      have hhl : h < len := by omega
      obtain ⟨b, off, hab, c0, c1, c2⟩ := (HD.out.later HB.out).at h hhl
      subst hab
      obtain ⟨y, hy⟩ : ∃ y, y = rs.getD h (0, 0, []) := ⟨_, rfl⟩
      rw [← hy] at c0 c1 c2
      obtain ⟨⟨k0, k1, k2⟩, _⟩ := box3 HK.out
      have hdiv : ((i : Int) + (j : Int)) / 2 = (h : Int) := by omega
      have HH : Hid (h = (i + j) / 2) := hh
      clear hh
      obtain ⟨y1, y2, y3⟩ := y
      simp only [] at c0 c1 c2
      obtain ⟨sy, hsy⟩ : ∃ sy, sy = strOfNums y3 := ⟨_, rfl⟩
      rw [← hsy] at c2
      have HSY : Hid (#[.int .i32 y1, .int .i32 y2, .string sy] = (encR (y1, y2, y3)).toArray) := by rw [hsy]; rfl
      have HYY : Hid ((y1, y2, y3) = rs.getD h (0, 0, [])) := hy
      clear hsy hy
      obtain ⟨sv, hsv⟩ : ∃ sv, sv = sdR (y1, y2, y3) (p, q, r) := ⟨_, rfl⟩
      have HSD : Hid (∀ W : World, Calls Tryz.prog 71 #[.agg #[.int .i32 y1, .int .i32 y2, .string sy], .agg #[.int .i32 p, .int .i32 q, .string sr]] W fun e w' => e = .returned (.int .i64 sv) ∧ ∃ q os', w' = grow (W.drewN q) os') := by
        intro W
        rw [HSY.out, HEX.out, hsv]
        exact side_grow (y1, y2, y3) (p, q, r) W
      have HNX : Hid (∀ n os, Below w.heap.size w (grow (wr.drewN n) os) ∧ (grow (wr.drewN n) os).heap[w.heap.size]? = some (.cells #[.int .i32 p, .int .i32 q, .string sr] 39)) := by
        intro n os
        have hb1 := below_grow wr n os
        refine ⟨HB.out.trans (hb1.mono HB.out.size), ?_⟩
        rw [hb1.block _ (Array.getElem?_eq_some_iff.1 HK.out).1]
        exact HK.out
      have d0 := cell_g c0; have d1 := cell_g c1; have d2 := cell_g c2
      have m0 := cell_g k0; have m1 := cell_g k1; have m2 := cell_g k2
      clear c0 c1 c2 k0 k1 k2
      have hhr : h < rs.length := by rw [HL.out]; exact hhl
      by_cases hs : y2 < p
      · have hsv' : sv < 0 := by rw [hsv]; show (if y2 < p then (-1 : Int) else _) < 0; rw [if_pos hs]; decide
        have HUP : Hid (BsAt rs (p, q, r) (h + 1) j) := bsAt_up rs (p, q, r) i j h HA.out HAT.out hhr (by rw [← HYY.out]; exact hs)
        clear hsv hs hhr
        go_upto_region 5 with fail
        go_quiet_grown (first | (go_at_call 71; refine Calls.grown_of (HSD.out _)))
        go_wp2
        go_roundw
        case rel => exact ⟨h + 1, j, by go_num, rfl, by omega, by omega, HUP.out, (HNX.out _ _).1, (HNX.out _ _).2⟩
        case measure => simp [intOf]; omega
      · have hsv' : ¬ sv < 0 := by
          rw [hsv]
          show ¬ (if y2 < p then (-1 : Int) else if q < y1 then 1 else 0) < 0
          rw [if_neg hs]; split <;> decide
        have HDN : Hid (BsAt rs (p, q, r) i h) := bsAt_down rs (p, q, r) i j h HA.out HAT.out hhr (by rw [← HYY.out]; exact hs)
        clear hsv hs hhr
        go_upto_region 5 with fail
        go_quiet_grown (first | (go_at_call 71; refine Calls.grown_of (HSD.out _)))
        go_wp2
        go_roundw
        case rel => exact ⟨i, h, rfl, rfl, by omega, by omega, HDN.out, (HNX.out _ _).1, (HNX.out _ _).2⟩
        case measure => simp [intOf]; omega
    · obtain rfl : j = i := by omega
      by_cases hn : j < len
      · obtain ⟨b, off, hab, c0, c1, c2⟩ := (HD.out.later HB.out).at j hn
        subst hab
        obtain ⟨y, hy⟩ : ∃ y, y = rs.getD j (0, 0, []) := ⟨_, rfl⟩
        rw [← hy] at c0 c1 c2
        obtain ⟨⟨k0, k1, k2⟩, _⟩ := box3 HK.out
        obtain ⟨y1, y2, y3⟩ := y
        simp only [] at c0 c1 c2
        obtain ⟨sy, hsy⟩ : ∃ sy, sy = strOfNums y3 := ⟨_, rfl⟩
        rw [← hsy] at c2
        have HSY : Hid (#[.int .i32 y1, .int .i32 y2, .string sy] = (encR (y1, y2, y3)).toArray) := by rw [hsy]; rfl
        obtain ⟨sv, hsv⟩ : ∃ sv, sv = sdR (y1, y2, y3) (p, q, r) := ⟨_, rfl⟩
        have HSD : Hid (∀ W : World, Calls Tryz.prog 71 #[.agg #[.int .i32 y1, .int .i32 y2, .string sy], .agg #[.int .i32 p, .int .i32 q, .string sr]] W fun e w' => e = .returned (.int .i64 sv) ∧ ∃ q os', w' = grow (W.drewN q) os') := by
          intro W
          rw [HSY.out, HEX.out, hsv]
          exact side_grow (y1, y2, y3) (p, q, r) W
        have d0 := cell_g c0; have d1 := cell_g c1; have d2 := cell_g c2
        have m0 := cell_g k0; have m1 := cell_g k1; have m2 := cell_g k2
        clear c0 c1 c2 k0 k1 k2
        have HF : Hid (decide (sv = 0) = bsF rs (p, q, r) j) := by
          show decide (sv = 0) = _
          unfold bsF
          rw [decide_eq_true (show j < rs.length by rw [HL.out]; exact hn), Bool.true_and, ← hy, hsv]
        have hdl : decide ((j : Int) < (len : Int)) = true := decide_eq_true (by omega)
        clear hsv hsy hy
        go_upto_region 8 with fail
        go_quiet_grown (first | (go_at_call 71; refine Calls.grown_of (HSD.out _)))
        go_wp2
        go_ret2
        exact ⟨j, by rw [HL.out]; omega, HAT.out, by rw [← HF.out]; rfl, HB.out.trans ((below_grow wr _ _).mono HB.out.size)⟩
      · have HF : Hid (false = bsF rs (p, q, r) j) := by
          show false = _
          unfold bsF
          rw [decide_eq_false (show ¬ j < rs.length by rw [HL.out]; exact hn), Bool.false_and]
        have hdl : decide ((j : Int) < (len : Int)) = false := decide_eq_false (by omega)
        go_upto_region 8 with fail
        go_quiet (fail)
        go_wp2
        go_ret2
        exact ⟨j, by rw [HL.out]; omega, HAT.out, by rw [← HF.out]; rfl, HB.out.trans ((below_drewN wr _).mono HB.out.size)⟩
end Go.Proofs.YtgncpchgmjacdaaGreatDoor
