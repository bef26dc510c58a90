/- Rows of ranges in memory; the walks of rightEnds, side, the library's search by halves over ranges. -/
import Derived.Test.YtgncpchgmjacdaaGreatDoorPropsC
namespace Go.Proofs.YtgncpchgmjacdaaGreatDoor
open Go.RowKit
set_option linter.unusedVariables false

theorem encR_len (x : Rg) : (encR x).length = 3 := rfl
/-- The cells of ranges, one behind the other. -/
def flatR (rs : List Rg) : List Value := rs.flatMap encR
theorem flatR_len : (rs : List Rg) → (flatR rs).length = 3 * rs.length
  | [] => rfl
  | x :: r => by
    have e : flatR (x :: r) = encR x ++ flatR r := by simp [flatR]
    rw [e, List.length_append, flatR_len r, encR_len, List.length_cons]
    omega
theorem flatR_at : (rs : List Rg) → (i : Nat) → i < rs.length → ∀ j, j < 3 → (flatR rs)[3 * i + j]? = (encR (rs.getD i (0, 0, [])))[j]?
  | [], i, h, _, _ => by simp at h
  | x :: r, 0, _, j, hj => by
    have e : flatR (x :: r) = encR x ++ flatR r := by simp [flatR]
    rw [e, List.getElem?_append_left (by rw [encR_len]; omega)]
    simp
  | x :: r, i + 1, h, j, hj => by
    have e : flatR (x :: r) = encR x ++ flatR r := by simp [flatR]
    rw [e, List.getElem?_append_right (by rw [encR_len]; omega), encR_len, show 3 * (i + 1) + j - 3 = 3 * i + j by omega, flatR_at r i (by simpa using h) j hj]
    simp
/-- A slice of ranges that reads as these. -/
def RdR (w : World) (a : Option Addr) (len : Nat) (rs : List Rg) : Prop :=
  rs.length = len ∧ (0 < len → ∃ b off, a = some ⟨b, off, none⟩ ∧ ∀ j v, (flatR rs)[j]? = some v → w.cell? ⟨b, off + j, none⟩ = some v)
theorem RdR.later {w w' : World} {a : Option Addr} {len : Nat} {rs : List Rg} (h : RdR w a len rs) (hb : Below w.heap.size w w') : RdR w' a len rs := by
  refine ⟨h.1, fun hp => ?_⟩
  obtain ⟨b, off, ha, hc⟩ := h.2 hp
  refine ⟨b, off, ha, fun j v hv => ?_⟩
  exact (hb.cell (p := ⟨b, off + j, none⟩) (World.block_lt_of_cell? w _ (hc j v hv))).trans (hc j v hv)
theorem RdR.at {w : World} {a : Option Addr} {len : Nat} {rs : List Rg} (h : RdR w a len rs) (i : Nat) (hi : i < len) : ∃ b off, a = some ⟨b, off, none⟩ ∧
    w.cell? ⟨b, off + i * 3, none⟩ = some (.int .i32 (rs.getD i (0, 0, [])).1) ∧ w.cell? ⟨b, off + i * 3 + 1, none⟩ = some (.int .i32 (rs.getD i (0, 0, [])).2.1) ∧ w.cell? ⟨b, off + i * 3 + 2, none⟩ = some (.string (strOfNums (rs.getD i (0, 0, [])).2.2)) := by
  obtain ⟨b, off, ha, hc⟩ := h.2 (by omega)
  have hi' : i < rs.length := by rw [h.1]; exact hi
  refine ⟨b, off, ha, ?_, ?_, ?_⟩
  · have := hc (3 * i + 0) _ (flatR_at rs i hi' 0 (by omega))
    rw [show off + i * 3 = off + (3 * i + 0) by omega]; exact this
  · have := hc (3 * i + 1) _ (flatR_at rs i hi' 1 (by omega))
    rw [show off + i * 3 + 1 = off + (3 * i + 1) by omega]; exact this
  · have := hc (3 * i + 2) _ (flatR_at rs i hi' 2 (by omega))
    rw [show off + i * 3 + 2 = off + (3 * i + 2) by omega]; exact this

/-- What rightEnds answers. -/
def reR (x : Rg) : Bool := decide (0 ≤ x.1) && decide (x.1 ≤ x.2.1) && decide (x.2.1 ≤ 1114111)
theorem rightEnds_any (x : Rg) (w : World) :
    Calls Tryz.prog 48 #[.agg (encR x).toArray] w fun e w' => e = .returned (.bool (reR x)) ∧ Below w.heap.size w w' := by
  obtain ⟨p, q, r⟩ := x
  have HB0 : Hid (∀ o : Obj, Below w.heap.size w (w.alloc o)) := fun o => (Below.refl _ w).alloc (Nat.le_refl _) o
  show Calls Tryz.prog 48 #[.agg #[.int .i32 p, .int .i32 q, .string (strOfNums r)]] w _
  have hR : reR (p, q, r) = (decide (0 ≤ p) && decide (p ≤ q) && decide (q ≤ 1114111)) := rfl
  rw [hR]
  generalize strOfNums r = t
  by_cases h1 : 0 ≤ p
  · by_cases h2 : p ≤ q
    · by_cases h3 : q ≤ 1114111
      all_goals
        go_enter Tryz.func48, Tryz.ntmps48
        go_wp2
        go_ret
        exact ⟨by first | rfl | (simp <;> omega), HB0.out _⟩
    · go_enter Tryz.func48, Tryz.ntmps48
      go_wp2
      go_ret
      exact ⟨by first | rfl | (simp <;> omega), HB0.out _⟩
  · go_enter Tryz.func48, Tryz.ntmps48
    go_wp2
    go_ret
    exact ⟨by first | rfl | (simp <;> omega), HB0.out _⟩

/-- What side answers. -/
def sdR (y x : Rg) : Int := if y.2.1 < x.1 then -1 else if x.2.1 < y.1 then 1 else 0
theorem side_any (y x : Rg) (w : World) :
    Calls Tryz.prog 71 #[.agg (encR y).toArray, .agg (encR x).toArray] w fun e w' => e = .returned (.int .i64 (sdR y x)) ∧ Below w.heap.size w w' := by
  obtain ⟨p, q, r⟩ := x
  obtain ⟨p2, q2, r2⟩ := y
  have HB0 : Hid (∀ o o2 : Obj, Below w.heap.size w ((w.alloc o).alloc o2)) := fun o o2 => ((Below.refl _ w).alloc (Nat.le_refl _) o).alloc (by simp) o2
  show Calls Tryz.prog 71 #[.agg #[.int .i32 p2, .int .i32 q2, .string (strOfNums r2)], .agg #[.int .i32 p, .int .i32 q, .string (strOfNums r)]] w _
  have hR : sdR (p2, q2, r2) (p, q, r) = if q2 < p then -1 else if q < p2 then 1 else 0 := rfl
  rw [hR]
  generalize strOfNums r = t
  generalize strOfNums r2 = t2
  by_cases h1 : q2 < p
  · go_enter Tryz.func71, Tryz.ntmps71
    go_wp2
    go_ret
    exact ⟨by first | rfl | (simp <;> omega), HB0.out _ _⟩
  · by_cases h2 : q < p2
    · go_enter Tryz.func71, Tryz.ntmps71
      go_wp2
      go_ret
      exact ⟨by first | rfl | (simp <;> omega), HB0.out _ _⟩
    · go_enter Tryz.func71, Tryz.ntmps71
      go_wp2
      go_ret
      exact ⟨by first | rfl | (simp <;> omega), HB0.out _ _⟩
end Go.Proofs.YtgncpchgmjacdaaGreatDoor
