/- The walk of decimal: a number to base ten. -/
import Derived.Test.YtchdklbekfdgdabGreatDoorPropsIs
import Derived.Lib.ItoaNum
import Derived.Laws.BytesArg
namespace Go.Proofs.YtchdklbekfdgdabGreatDoor
open Go.RowKit Go.Sort
set_option linter.unusedVariables false

/-- The numeral, as numbers. -/
def decN (u : Nat) : List Int := (Lib.decDigits u).map fun b => (b.toNat : Int)
theorem decN_small {u : Nat} (h : u < 10) : decN u = [48 + (u : Int)] := by
  unfold decN
  rw [Lib.decDigits_one h]
  simp
  omega
theorem decN_big {u : Nat} (h : ¬ u < 10) : decN u = decN (u / 10) ++ [48 + (u : Int) % 10] := by
  unfold decN
  rw [Lib.decDigits, dif_neg h, List.map_append]
  congr 1
  simp
  omega
theorem decN_rng (u : Nat) : ∀ y ∈ decN u, 0 ≤ y ∧ y ≤ 255 := by
  intro y hy
  unfold decN at hy
  obtain ⟨b, _, rfl⟩ := List.mem_map.1 hy
  have := b.toNat_lt
  omega
/-- What is left to write, and what is written. -/
def DcAt (n0 n k : Nat) (s : List Int) : Prop := n ≤ 65535 / 10 ^ k ∧ s.length ≤ k ∧ (∀ y ∈ s, 0 ≤ y ∧ y ≤ 255) ∧ ((k = 0 ∧ n = n0 ∧ s = []) ∨ (0 < k ∧ n = 0 ∧ s = decN n0) ∨ (0 < k ∧ 0 < n ∧ decN n ++ s = decN n0))
theorem dc_few (n k : Nat) (h : n ≤ 65535 / 10 ^ k) (hn : 0 < n) : k < 5 := by
  rcases Nat.lt_or_ge k 5 with h2 | h2
  · exact h2
  · exfalso
    have h3 : 10 ^ 5 ≤ 10 ^ k := Nat.pow_le_pow_right (by decide) h2
    have : 65535 / 10 ^ k = 0 := Nat.div_eq_of_lt (by omega)
    omega
theorem dc_step (n0 n k : Nat) (s : List Int) (h : DcAt n0 n k s) (hc : k = 0 ∨ 0 < n) : DcAt n0 (n / 10) (k + 1) ((48 + (n : Int) % 10) :: s) := by
  obtain ⟨h1, h2, h3, h4⟩ := h
  refine ⟨?_, by simp; omega, ?_, ?_⟩
  · rw [Nat.pow_succ, ← Nat.div_div_eq_div_mul]
    exact Nat.div_le_div_right h1
  · intro y hy
    rcases List.mem_cons.1 hy with rfl | hy
    · omega
    · exact h3 y hy
  · have key : decN n ++ s = decN n0 := by
      rcases h4 with ⟨_, rfl, rfl⟩ | ⟨hk, hn, _⟩ | ⟨_, _, h⟩
      · simp
      · omega
      · exact h
    rcases Nat.lt_or_ge n 10 with hn | hn
    · right; left
      refine ⟨by omega, by omega, ?_⟩
      rw [← key, decN_small hn]
      simp
      omega
    · right; right
      refine ⟨by omega, by omega, ?_⟩
      have e := decN_big (u := n) (by omega)
      rw [← key, e]
      simp
theorem dc_end (n0 n k : Nat) (s : List Int) (h : DcAt n0 n k s) (hk : k ≠ 0) (hn : n = 0) : s = decN n0 := by
  obtain ⟨_, _, _, h4⟩ := h
  rcases h4 with ⟨h, _⟩ | ⟨_, _, h⟩ | ⟨_, h, _⟩
  · omega
  · exact h
  · omega

set_option maxHeartbeats 2000000 in
theorem decimal_any (u : Nat) (hu : u ≤ 65535) (w : World) :
    Calls Tryz.prog 8 #[.int .i64 u] w fun e w' => e = .returned (.string (strOfNums (decN u))) ∧ Below w.heap.size w w' := by
  obtain ⟨R, hR⟩ : ∃ R, R = strOfNums (decN u) := ⟨_, rfl⟩
  have HR : Hid (R = strOfNums (decN u)) := hR
  rw [← hR]
  clear hR
  have HU : Hid (DcAt u u 0 []) := ⟨by simpa using hu, by simp, by simp, .inl ⟨rfl, rfl, rfl⟩⟩
  go_enter Tryz.func8, Tryz.ntmps8
  go_wp2
  go_loopw [0, 3, 4] (fun x0 x3 x4 wr => ∃ (n k : Nat) (s : List Int), x0 = .int .i64 n ∧ x3 = .string (strOfNums s) ∧ x4 = .int .i64 k ∧ DcAt u n k s ∧ Below w.heap.size w wr) (fun _ _ x4 _ => 20 - (intOf x4).toNat)
  case atStart => exact ⟨u, 0, [], rfl, rfl, rfl, HU.out, Below.refl _ _⟩
  case round =>
    obtain ⟨n, k, s, hx0, hx3, hx4, hdc, hbel⟩ := hrel
    subst hx0 hx3 hx4
    have HDC : Hid (DcAt u n k s) := hdc
    have HB : Hid (Below w.heap.size w wr) := hbel
    have hn : n ≤ 65535 := Nat.le_trans hdc.1 (Nat.div_le_self _ _)
    have HBA : Hid (∀ o : Obj, Below w.heap.size w (wr.alloc o)) := fun o => hbel.alloc hbel.size o
    have hsl : s.length ≤ k := hdc.2.1
    have hk20 : (k = 0 ∨ 0 < n) → k < 5 := fun h => by
      rcases h with rfl | h
      · omega
      · exact dc_few n k hdc.1 h
    clear hdc hbel
    by_cases hgo : k = 0 ∨ 0 < n
    · have hk5 := hk20 hgo
      obtain ⟨d, hd⟩ : ∃ d : Int, d = 48 + (n : Int) % 10 := ⟨_, rfl⟩
      have HNX : Hid (DcAt u (n / 10) (k + 1) (d :: s)) := by show DcAt _ _ _ _; rw [hd]; exact dc_step u n k s HDC.out hgo
      obtain ⟨sx, hsx⟩ : ∃ sx, sx = strOfNums s := ⟨_, rfl⟩
      obtain ⟨sy, hsy⟩ : ∃ sy, sy = strOfNums (d :: s) := ⟨_, rfl⟩
      rw [← hsx]
      obtain ⟨N, hN⟩ : ∃ N : Int, N = (n : Int) := ⟨_, rfl⟩
      rw [← hN] at hd ⊢
      have HN : Hid (N = (n : Int)) := hN
      have HDD : Hid (d = 48 + N % 10) := hd
      have hN0 : 0 ≤ N := by omega
      have hN1 : N ≤ 65535 := by omega
      have hgo' : k = 0 ∨ 0 < N := by omega
      have HK5 : Hid (k < 5) := hk5
      have HSL : Hid (s.length ≤ k) := hsl
      obtain ⟨d0, hd0⟩ : ∃ d0 : Int, d0 = N % 10 := ⟨_, rfl⟩
      have hrem : N.tmod 10 = d0 := by rw [Int.tmod_eq_emod_of_nonneg hN0]; exact hd0.symm
      obtain ⟨q, hq⟩ : ∃ q : Nat, q = n / 10 := ⟨_, rfl⟩
      have hquo : N.tdiv 10 = (q : Int) := by rw [Int.tdiv_eq_ediv_of_nonneg hN0]; omega
      have hq1 : (q : Int) ≤ 65535 := by omega
      have hw1 : IntKind.i64.wrap (48 + d0) = d := by rw [IntKind.wrap_i64]; omega
      have hw2 : IntKind.u8.wrap d = d := by rw [IntKind.wrap_u8]; omega
      have hw3 : IntKind.i64.wrap (q : Int) = (q : Int) := by rw [IntKind.wrap_i64]; omega
      have hw4 : IntKind.i64.wrap d0 = d0 := by rw [IntKind.wrap_i64]; omega
      obtain ⟨sb, hsb⟩ : ∃ sb, sb = strOfNums [d] := ⟨_, rfl⟩
      have hcv : (convert 50 9 (.slice (some ⟨wr.heap.size, 0, none⟩) 1 1)).run Tryz.prog (wr.alloc (.cells #[.int .u8 d] 5)) = .ok (.string sb) (wr.alloc (.cells #[.int .u8 d] 5)) := by
        rw [hsb]
        exact run_convert_bytes_arg _ 50 5 Tryz.underlying50 Tryz.underlying5 wr.heap.size 0 1 1 [d] rfl (fun i hi => by
          obtain rfl : i = 0 := by omega
          rw [cell_of_row _ wr.heap.size (0 + 0) _ _ _ (heap_alloc_new wr _)]; rfl) 9 Tryz.underlying9
      have hadd : ∀ W, (Op.stringOp .add sb sx).run Tryz.prog W = .ok (.string sy) W := by rw [hsb, hsx, hsy]; exact add_str [d] s (by simp; omega)
      rw [← hq] at HNX
      have HSY : Hid (sy = strOfNums (d :: s)) := hsy
      clear hd hsx hsy hN hn hgo hk5 hsl hu hd0 hq hsb
      rcases hgo' with rfl | hgo'
      · go_wp2
        go_roundw
        case rel => exact ⟨q, 1, d :: s, rfl, by rw [← HSY.out], rfl, HNX.out, HBA.out _⟩
        case measure => simp [intOf]
      · have hk5' := HK5.out
        have hk20' : (k : Int) < 20 := by omega
        have hk200 : 0 ≤ (k : Int) := by omega
        clear hk5'
        by_cases hk0 : k = 0
        · subst hk0
          go_wp2
          go_roundw
          case rel => exact ⟨q, 1, d :: s, rfl, by rw [← HSY.out], rfl, HNX.out, HBA.out _⟩
          case measure => simp [intOf]
        · have hk0' : ((k : Int) == 0) = false := by simpa using hk0
          go_wp2
          go_roundw
          case rel => exact ⟨q, k + 1, d :: s, rfl, by rw [← HSY.out], by go_num, HNX.out, HBA.out _⟩
          case measure => have := HK5.out; simp [intOf]; omega
    · have hk0 : k ≠ 0 := by omega
      have hn0 : n = 0 := by omega
      have hk0' : ((k : Int) == 0) = false := by simpa using hk0
      have hss := dc_end u n k s HDC.out hk0 hn0
      rw [hss, ← HR.out]
      subst hn0
      clear hk20 hgo hss hsl
      by_cases hk21 : (k : Int) < 20
      · go_wp2
        go_ret
        exact ⟨rfl, HB.out⟩
      · go_wp2
        go_ret
        exact ⟨rfl, HB.out⟩
end Go.Proofs.YtchdklbekfdgdabGreatDoor
