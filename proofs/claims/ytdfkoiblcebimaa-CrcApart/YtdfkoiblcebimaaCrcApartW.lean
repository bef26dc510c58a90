/- The walk of CrcApart: whatever the sums and the bytes: true. -/
import Derived.Test.YtdfkoiblcebimaaCrcB
namespace Go.Proofs.Ytdfkoiblcebimaa
open Go.RowKit
set_option linter.unusedVariables false

theorem up_inj (s t : Nat) (xs : List Int) (hs : s < 4294967296) (ht : t < 4294967296) (hb : ∀ y ∈ xs, 0 ≤ y ∧ y ≤ 255) (h : up s xs = up t xs) : s = t := by
  unfold up at h
  have h1 := reg_lt (xs.map Int.toNat) (4294967295 - s) (by omega) (nat_bytes hb)
  have h2 := reg_lt (xs.map Int.toNat) (4294967295 - t) (by omega) (nat_bytes hb)
  have e := reg_inj (xs.map Int.toNat) (4294967295 - s) (4294967295 - t) (by omega) (by omega) (nat_bytes hb) (by omega)
  omega
theorem up_byte (s x y : Nat) (hx : x < 256) (hy : y < 256) (h : up s [(x : Int)] = up s [(y : Int)]) : x = y := by
  unfold up at h
  have h1 := tk_lt (4294967295 - s) x (by omega) hx
  have h2 := tk_lt (4294967295 - s) y (by omega) hy
  have h3 : 4294967295 - tk (4294967295 - s) x = 4294967295 - tk (4294967295 - s) y := h
  exact tk_byte (4294967295 - s) x y (by omega) hx hy (by omega)

set_option maxRecDepth 100000 in
set_option maxHeartbeats 4000000 in
theorem crcApart_walk (A B : Nat) (a0 : Option Addr) (len0 cap0 n : Nat) (xs : List Int) (x y : Nat) (w : World) (hc0 : len0 ≤ cap0) (hn : n = min len0 200) (hr : Rd .u8 w a0 n xs) (hb : ∀ y ∈ xs, 0 ≤ y ∧ y ≤ 255) (hA : A < 4294967296) (hB : B < 4294967296) (hx : x < 256) (hy : y < 256) :
    Calls Try.prog 8 #[.int .u32 A, .int .u32 B, .slice a0 len0 cap0, .int .u8 x, .int .u8 y] w fun e w' => e = .returned (.bool true) ∧ Below w.heap.size w w' := by
  have HR : Hid (Rd .u8 w a0 n xs) := hr
  have HY : Hid (∀ y ∈ xs, 0 ≤ y ∧ y ≤ 255) := hb
  have hmin := min_run len0 n 200 (by omega)
  have hcut := cut_bytes a0 len0 cap0 n (by omega)
  have hn2 : n ≤ 200 := by omega
  have HAB : Hid (A ≠ B → (((up A xs : Nat) : Int) == ((up B xs : Nat) : Int)) = false ∧ ((A : Int) == (B : Int)) = false) := fun h => ⟨beq_eq_false_iff_ne.2 fun e => h (up_inj A B xs hA hB hb (by omega)), beq_eq_false_iff_ne.2 (by omega)⟩
  have HXY : Hid (x ≠ y → (((up A [(x : Int)] : Nat) : Int) == ((up A [(y : Int)] : Nat) : Int)) = false ∧ ((x : Int) == (y : Int)) = false) := fun h => ⟨beq_eq_false_iff_ne.2 fun e => h (up_byte A x y hx hy (by omega)), beq_eq_false_iff_ne.2 (by omega)⟩
  clear hr hb hn
  go_enter Try.func8, Try.ntmps8
  go_wp2_with fail
  refine (shown_any _).mono ?_
  rintro e w1 ⟨rfl, hb1⟩
  have HB1 : Hid (Below w.heap.size w w1) := hb1
  clear hb1
  go_wp2_with fail
  refine (update_any A xs a0 n cap0 _ hA HY.out (HR.out.later HB1.out) (by omega)).mono ?_
  rintro e w2 ⟨rfl, hb2⟩
  have HB2 : Hid (Below w.heap.size w w2) := HB1.out.trans (hb2.mono HB1.out.size)
  clear hb2 hmin hcut
  go_wp2_with fail
  refine (update_any B xs a0 n cap0 _ hB HY.out (HR.out.later HB2.out) (by omega)).mono ?_
  rintro e w3 ⟨rfl, hb3⟩
  have HB3 : Hid (Below w.heap.size w w3) := HB2.out.trans (hb3.mono HB2.out.size)
  clear hb3
  go_wp2_with fail
  refine (update_any A [(x : Int)] _ 1 1 _ hA (by simp; omega) (rd_one .u8 w3 x _ _ rfl) (by omega)).mono ?_
  rintro e w4 ⟨rfl, hb4⟩
  have HB4 : Hid (Below w.heap.size w w4) := HB3.out.trans ((((Below.refl _ w3).alloc (Nat.le_refl _) _).trans (hb4.mono (by simp))).mono HB3.out.size)
  clear hb4
  go_wp2_with fail
  refine (update_any A [(y : Int)] _ 1 1 _ hA (by simp; omega) (rd_one .u8 w4 y _ _ rfl) (by omega)).mono ?_
  rintro e w5 ⟨rfl, hb5⟩
  have HB5 : Hid (Below w.heap.size w w5) := HB4.out.trans ((((Below.refl _ w4).alloc (Nat.le_refl _) _).trans (hb5.mono (by simp))).mono HB4.out.size)
  clear hb5
  by_cases hab : A = B <;> by_cases hxy : x = y
  · subst hab hxy
    clear HAB HXY
    go_wp2
    go_ret
    exact ⟨rfl, HB5.out⟩
  · subst hab
    obtain ⟨h2, h2'⟩ := HXY.out hxy
    clear HAB HXY
    go_wp2
    go_ret
    exact ⟨rfl, HB5.out⟩
  · subst hxy
    obtain ⟨h1, h1'⟩ := HAB.out hab
    clear HAB HXY
    go_wp2
    go_ret
    exact ⟨rfl, HB5.out⟩
  · obtain ⟨h1, h1'⟩ := HAB.out hab
    obtain ⟨h2, h2'⟩ := HXY.out hxy
    clear HAB HXY
    go_wp2
    go_ret
    exact ⟨rfl, HB5.out⟩
end Go.Proofs.Ytdfkoiblcebimaa
