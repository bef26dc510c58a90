/- The walks of sideOf, the library's search by halves over spans, Class, Classes: the place of a character's class. -/
import Derived.Test.YtgncpchgmjacdaaGreatDoorPropsU
namespace Go.Proofs.YtgncpchgmjacdaaGreatDoor
open Go.RowKit
set_option linter.unusedVariables false

/-- Spans in order, none meeting another. -/
def AscS (ss : List Sp) : Prop := (∀ i, i < ss.length → (ss.getD i (0, 0, 0)).1 ≤ (ss.getD i (0, 0, 0)).2.1) ∧ ∀ i j, i < j → j < ss.length → (ss.getD i (0, 0, 0)).2.1 < (ss.getD j (0, 0, 0)).1
/-- The place of a character's class. -/
def clsP (ss : List Sp) (c : Int) : Int := match ss.find? (fun s => decide (s.1 ≤ c) && decide (c ≤ s.2.1)) with
  | some s => s.2.2
  | none => 0
def sdS (s : Sp) (c : Int) : Int := if s.2.1 < c then -1 else if c < s.1 then 1 else 0
def BsS (ss : List Sp) (c : Int) (i j : Nat) : Prop := (∀ k, k < i → (ss.getD k (0, 0, 0)).2.1 < c) ∧ ∀ k, j ≤ k → k < ss.length → ¬ (ss.getD k (0, 0, 0)).2.1 < c
theorem bsS_up (ss : List Sp) (c : Int) (i j h : Nat) (ha : AscS ss) (hb : BsS ss c i j) (hh : h < ss.length) (hl : (ss.getD h (0, 0, 0)).2.1 < c) : BsS ss c (h + 1) j := by
  refine ⟨fun k hk => ?_, hb.2⟩
  rcases Nat.lt_or_ge k h with h1 | h1
  · have := ha.2 k h h1 hh
    have := ha.1 h hh
    omega
  · rw [show k = h by omega]; exact hl
theorem bsS_down (ss : List Sp) (c : Int) (i j h : Nat) (ha : AscS ss) (hb : BsS ss c i j) (hh : h < ss.length) (hl : ¬ (ss.getD h (0, 0, 0)).2.1 < c) : BsS ss c i h := by
  refine ⟨hb.1, fun k hk hk2 => ?_⟩
  rcases Nat.lt_or_ge h k with h1 | h1
  · have := ha.2 h k h1 hk2
    have := ha.1 k hk2
    omega
  · rw [show k = h by omega]; exact hl
def bsG (ss : List Sp) (c : Int) (i : Nat) : Bool := decide (i < ss.length) && decide (sdS (ss.getD i (0, 0, 0)) c = 0)
theorem find_at (p : Sp → Bool) : (ss : List Sp) → (i : Nat) → i < ss.length → p (ss.getD i (0, 0, 0)) = true → (∀ k, k < i → p (ss.getD k (0, 0, 0)) = false) → ss.find? p = some (ss.getD i (0, 0, 0))
  | [], i, h, _, _ => by simp at h
  | x :: r, 0, _, h, _ => by simp at h; simp [h]
  | x :: r, i + 1, hi, h, hn => by
    have h0 := hn 0 (by omega)
    simp at h0
    rw [List.find?_cons, h0]
    simpa using find_at p r i (by simpa using hi) (by simpa using h) (fun k hk => by simpa using hn (k + 1) (by omega))
theorem find_no (p : Sp → Bool) (ss : List Sp) (h : ∀ k, k < ss.length → p (ss.getD k (0, 0, 0)) = false) : ss.find? p = none := by
  rw [List.find?_eq_none]
  intro x hx
  obtain ⟨k, hk, rfl⟩ := List.mem_iff_getElem.1 hx
  have := h k hk
  simp [hk] at this
  simpa using this
theorem in_T (s : Sp) (c : Int) (h1 : s.1 ≤ c) (h2 : c ≤ s.2.1) : (decide (s.1 ≤ c) && decide (c ≤ s.2.1)) = true := by rw [decide_eq_true h1, decide_eq_true h2]; rfl
theorem in_F (s : Sp) (c : Int) (h : s.2.1 < c ∨ c < s.1) : (decide (s.1 ≤ c) && decide (c ≤ s.2.1)) = false := by
  rcases h with h | h
  · rw [decide_eq_false (show ¬ c ≤ s.2.1 by omega), Bool.and_false]
  · rw [decide_eq_false (show ¬ s.1 ≤ c by omega), Bool.false_and]
theorem cls_at (ss : List Sp) (c : Int) (i : Nat) (ha : AscS ss) (hi : i ≤ ss.length) (hb : BsS ss c i i) : clsP ss c = if bsG ss c i = true then (ss.getD i (0, 0, 0)).2.2 else 0 := by
  unfold clsP
  by_cases hf : bsG ss c i = true
  · rw [if_pos hf]
    unfold bsG at hf
    simp only [Bool.and_eq_true, decide_eq_true_eq] at hf
    rw [find_at _ ss i hf.1 ?_ ?_]
    · have h2 := hf.2
      unfold sdS at h2
      split at h2
      · cases h2
      · split at h2
        · cases h2
        · exact in_T _ c (by omega) (by omega)
    · intro k hk
      have := hb.1 k hk
      exact in_F _ c (.inl this)
  · rw [if_neg hf, find_no]
    intro k hk
    rcases Nat.lt_or_ge k i with h | h
    · have := hb.1 k h
      exact in_F _ c (.inl this)
    · have hik : i < ss.length := by omega
      have hni := hb.2 i (Nat.le_refl _) hik
      have hs : sdS (ss.getD i (0, 0, 0)) c ≠ 0 := by
        intro h0
        apply hf
        unfold bsG
        rw [decide_eq_true hik, decide_eq_true h0]; rfl
      have hc : c < (ss.getD i (0, 0, 0)).1 := by
        unfold sdS at hs
        rw [if_neg hni] at hs
        split at hs
        · assumption
        · exact absurd rfl hs
      rcases Nat.lt_or_ge i k with h3 | h3
      · have := ha.2 i k h3 hk
        have := ha.1 i hik
        exact in_F _ c (.inr (by omega))
      · rw [show k = i by omega]
        exact in_F _ c (.inr hc)

theorem sideOf_any (s : Sp) (c : Int) (w : World) :
    Calls Tryz.prog 56 #[.agg (encS s).toArray, .int .i32 c] w fun e w' => e = .returned (.int .i64 (sdS s c)) ∧ Below w.heap.size w w' := by
  obtain ⟨p, q, r⟩ := s
  have HB0 : Hid (∀ o : Obj, Below w.heap.size w (w.alloc o)) := fun o => (Below.refl _ w).alloc (Nat.le_refl _) o
  show Calls Tryz.prog 56 #[.agg #[.int .i32 p, .int .i32 q, .int .i64 r], .int .i32 c] w _
  obtain ⟨sv, hsv⟩ : ∃ sv, sv = sdS (p, q, r) c := ⟨_, rfl⟩
  rw [← hsv]
  have hR : sv = if q < c then -1 else if c < p then 1 else 0 := hsv
  clear hsv
  by_cases h1 : q < c
  · rw [if_pos h1] at hR
    subst hR
    go_enter Tryz.func56, Tryz.ntmps56
    go_wp2
    go_ret
    exact ⟨rfl, HB0.out _⟩
  · rw [if_neg h1] at hR
    by_cases h2 : c < p
    · rw [if_pos h2] at hR
      subst hR
      go_enter Tryz.func56, Tryz.ntmps56
      go_wp2
      go_ret
      exact ⟨rfl, HB0.out _⟩
    · rw [if_neg h2] at hR
      subst hR
      go_enter Tryz.func56, Tryz.ntmps56
      go_wp2
      go_ret
      exact ⟨rfl, HB0.out _⟩

def BsPost (ss : List Sp) (c : Int) (w : World) (e : Ending) (w' : World) : Prop := ∃ i : Nat, i ≤ ss.length ∧ BsS ss c i i ∧ e = .returned (.tuple #[.int .i64 i, .bool (bsG ss c i)]) ∧ Below w.heap.size w w'
set_option maxHeartbeats 2000000 in
theorem bsS_any (ss : List Sp) (c : Int) (a : Option Addr) (len cap : Nat) (w : World) (ha : AscS ss) (hrd : RdP w a len ss) (hm : len ≤ 4611686018427387903) :
    Calls Tryz.prog 55 #[.slice a len cap, .int .i32 c, .func (.func 56) #[] #[]] w (BsPost ss c w) := by
  have HA : Hid (AscS ss) := ha
  have HD : Hid (RdP w a len ss) := hrd
  have HL : Hid (ss.length = len) := hrd.1
  clear ha hrd
  go_enter Tryz.func55, Tryz.ntmps55
  go_wp2
  go_loopw [9, 10] (fun x9 x10 wr => ∃ i j : Nat, x9 = .int .i64 i ∧ x10 = .int .i64 j ∧ i ≤ j ∧ j ≤ len ∧ BsS ss c i j ∧ Below w.heap.size w wr) (fun x9 x10 _ => (intOf x10).toNat - (intOf x9).toNat)
  case atStart => exact ⟨0, len, rfl, rfl, by omega, by omega, ⟨fun k hk => absurd hk (by omega), fun k h1 h2 => by rw [HL.out] at h2; omega⟩, Below.refl _ _⟩
  case round =>
    obtain ⟨i, j, hx9, hx10, hij, hjl, hat, hbel⟩ := hrel
    subst hx9 hx10
    have HAT : Hid (BsS ss c i j) := hat
    have HB : Hid (Below w.heap.size w wr) := hbel
    clear hat hbel
    by_cases hlt : i < j
    · obtain ⟨h, hh⟩ : ∃ h, h = (i + j) / 2 := ⟨_, rfl⟩
      have hh1 : i ≤ h := by omega
      have hh2 : h < j := by omega
      have hhl : h < len := by omega
      obtain ⟨b, off, hab, c0, c1, c2⟩ := (HD.out.later HB.out).at h hhl
      subst hab
      obtain ⟨y, hy⟩ : ∃ y, y = ss.getD h (0, 0, 0) := ⟨_, rfl⟩
      rw [← hy] at c0 c1 c2
      have hdiv : ((i : Int) + (j : Int)) / 2 = (h : Int) := by omega
      clear hh
      obtain ⟨y1, y2, y3⟩ := y
      simp only [] at c0 c1 c2
      have HYY : Hid ((y1, y2, y3) = ss.getD h (0, 0, 0)) := hy
      clear hy
      obtain ⟨sv, hsv⟩ : ∃ sv, sv = sdS (y1, y2, y3) c := ⟨_, rfl⟩
      have HSD : Hid (∀ W : World, Calls Tryz.prog 56 #[.agg #[.int .i32 y1, .int .i32 y2, .int .i64 y3], .int .i32 c] W fun e w' => e = .returned (.int .i64 sv) ∧ Below W.heap.size W w') := by
        intro W
        rw [hsv]
        exact sideOf_any (y1, y2, y3) c W
      have HNX : Hid (∀ w1 : World, Below wr.heap.size wr w1 → Below w.heap.size w w1) := fun w1 hb1 => HB.out.trans (hb1.mono HB.out.size)
      have hhr : h < ss.length := by rw [HL.out]; exact hhl
      by_cases hs : y2 < c
      · have hsv' : sv < 0 := by rw [hsv]; show (if y2 < c then (-1 : Int) else _) < 0; rw [if_pos hs]; decide
        have HUP : Hid (BsS ss c (h + 1) j) := bsS_up ss c i j h HA.out HAT.out hhr (by rw [← HYY.out]; exact hs)
        clear hsv hs hhr
        go_wp2_with (first | (go_at_call 56; refine (HSD.out _).mono ?_; rintro e w1 ⟨rfl, hb1⟩; have HN : Hid (Below w.heap.size w w1) := HNX.out w1 hb1; clear hb1))
        go_roundw
        case rel => exact ⟨h + 1, j, by go_num, rfl, by omega, by omega, HUP.out, HN.out⟩
        case measure => simp [intOf]; omega
      · have hsv' : ¬ sv < 0 := by
          rw [hsv]
          show ¬ (if y2 < c then (-1 : Int) else if c < y1 then 1 else 0) < 0
          rw [if_neg hs]; split <;> decide
        have HDN : Hid (BsS ss c i h) := bsS_down ss c i j h HA.out HAT.out hhr (by rw [← HYY.out]; exact hs)
        clear hsv hs hhr
        go_wp2_with (first | (go_at_call 56; refine (HSD.out _).mono ?_; rintro e w1 ⟨rfl, hb1⟩; have HN : Hid (Below w.heap.size w w1) := HNX.out w1 hb1; clear hb1))
        go_roundw
        case rel => exact ⟨i, h, rfl, rfl, by omega, by omega, HDN.out, HN.out⟩
        case measure => simp [intOf]; omega
    · obtain rfl : j = i := by omega
      by_cases hn : j < len
      · obtain ⟨b, off, hab, c0, c1, c2⟩ := (HD.out.later HB.out).at j hn
        subst hab
        obtain ⟨y, hy⟩ : ∃ y, y = ss.getD j (0, 0, 0) := ⟨_, rfl⟩
        rw [← hy] at c0 c1 c2
        obtain ⟨y1, y2, y3⟩ := y
        simp only [] at c0 c1 c2
        obtain ⟨sv, hsv⟩ : ∃ sv, sv = sdS (y1, y2, y3) c := ⟨_, rfl⟩
        have HSD : Hid (∀ W : World, Calls Tryz.prog 56 #[.agg #[.int .i32 y1, .int .i32 y2, .int .i64 y3], .int .i32 c] W fun e w' => e = .returned (.int .i64 sv) ∧ Below W.heap.size W w') := by
          intro W
          rw [hsv]
          exact sideOf_any (y1, y2, y3) c W
        have HNX : Hid (∀ w1 : World, Below wr.heap.size wr w1 → Below w.heap.size w w1) := fun w1 hb1 => HB.out.trans (hb1.mono HB.out.size)
        have hFF : decide (sv = 0) = bsG ss c j := by
          unfold bsG
          rw [decide_eq_true (show j < ss.length by rw [HL.out]; exact hn), Bool.true_and, ← hy, hsv]
        have hdl : decide ((j : Int) < (len : Int)) = true := decide_eq_true (by omega)
        obtain ⟨bb, hbb⟩ : ∃ bb, bb = decide (sv = 0) := ⟨_, rfl⟩
        have hbb' : (sv == 0) = bb := by rw [hbb]; rfl
        have HF : Hid (bb = bsG ss c j) := by show bb = _; rw [hbb]; exact hFF
        clear hsv hy hFF
        have HSS : Hid (BsPost ss c w (.returned (.tuple #[.int .i64 j, .bool bb])) = BsPost ss c w (.returned (.tuple #[.int .i64 j, .bool (bsG ss c j)]))) := by show _ = _; rw [HF.out]
        go_wp2_with (first | (go_at_call 56; refine (HSD.out _).mono ?_; rintro e w1 ⟨rfl, hb1⟩; have HN : Hid (Below w.heap.size w w1) := HNX.out w1 hb1; clear hb1))
        all_goals
          go_ret2
          refine ⟨j, by rw [HL.out]; omega, HAT.out, ?_, HN.out⟩
          rw [← HF.out]
          first | rfl | (rw [hbb]; simp_all)
      · have HF : Hid (false = bsG ss c j) := by
          show false = _
          unfold bsG
          rw [decide_eq_false (show ¬ j < ss.length by rw [HL.out]; exact hn), Bool.false_and]
        have hdl : decide ((j : Int) < (len : Int)) = false := decide_eq_false (by omega)
        go_wp2
        go_ret2
        exact ⟨j, by rw [HL.out]; omega, HAT.out, by rw [← HF.out]; rfl, HB.out⟩

set_option maxHeartbeats 1000000 in
theorem class_any (t : Nat) (ss : List Sp) (c : Int) (w : World) (ha : AscS ss) (ht : TblAt w t ss) (hm : ss.length ≤ 4611686018427387903) :
    Calls Tryz.prog 24 #[.pointer (some ⟨t, 0, none⟩), .int .i32 c] w fun e w' => e = .returned (.int .i64 (clsP ss c)) ∧ Below w.heap.size w w' := by
  obtain ⟨a, cap, h1, h2⟩ := ht
  have k0 : w.cell? ⟨t, 0, none⟩ = some (.slice a ss.length cap) := cell_of_row w t 0 _ _ _ h1
  have HD : Hid (RdP w a ss.length ss) := h2
  have HBS : Hid (Calls Tryz.prog 55 #[.slice a ss.length cap, .int .i32 c, .func (.func 56) #[] #[]] w (BsPost ss c w)) := bsS_any ss c a ss.length cap w ha h2 hm
  have HA : Hid (AscS ss) := ha
  have HM : Hid (ss.length ≤ 4611686018427387903) := hm
  have HK0 : Hid (w.cell? ⟨t, 0, none⟩ = some (.slice a ss.length cap)) := k0
  obtain ⟨n, hn⟩ : ∃ n, n = ss.length := ⟨_, rfl⟩
  have HN : Hid (n = ss.length) := hn
  rw [← hn] at k0 HBS
  obtain ⟨R, hR⟩ : ∃ R, R = clsP ss c := ⟨_, rfl⟩
  rw [← hR]
  have HR : Hid (R = clsP ss c) := hR
  clear h1 h2 ha hm hn hR
  go_enter Tryz.func24, Tryz.ntmps24
  go_wp2_with fail
  refine HBS.out.mono ?_
  rintro e w1 ⟨i, hi, hbs, rfl, hb1⟩
  have HC := HR.out.trans (cls_at ss c i HA.out hi hbs)
  have HB1 : Hid (Below w.heap.size w w1) := hb1
  have k1 : w1.cell? ⟨t, 0, none⟩ = some (.slice a n cap) := (hb1.cell (p := ⟨t, 0, none⟩) (World.block_lt_of_cell? w _ k0)).trans k0
  cases hg : bsG ss c i with
  | false =>
    rw [hg, if_neg (by simp)] at HC
    subst HC
    clear hb1 hbs hi hg
    go_wp2
    go_ret
    exact ⟨rfl, HB1.out⟩
  | true =>
    rw [hg, if_pos rfl] at HC
    have hil : i < ss.length := by
      unfold bsG at hg
      simp only [Bool.and_eq_true, decide_eq_true_eq] at hg
      exact hg.1
    obtain ⟨b, off, hab, _, _, c2⟩ := (HD.out.later hb1).at i hil
    subst hab
    rw [← HC] at c2
    have hin : (i : Int) < (n : Int) := by rw [HN.out]; omega
    clear hb1 hbs hi hg HC hil
    go_wp2
    go_ret
    exact ⟨rfl, HB1.out⟩
end Go.Proofs.YtgncpchgmjacdaaGreatDoor
