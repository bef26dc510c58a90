/- The program's Update and Sum: the register behind all bytes, turned. -/
import Derived.Test.YtcbnmahbdcjamaaCrcA
import Derived.Lib.SlBytesConst
namespace Go.Proofs.Ytcbnmahbdcjamaa
open Go.RowKit
set_option linter.unusedVariables false

theorem u32_of_wf {a : Int} (h : (Lit.int .u32 a).wf = true) : 0 ≤ a ∧ a ≤ 4294967295 := by
  simp [Lit.wf, IntKind.min, IntKind.max, IntKind.bits, IntKind.signed] at h
  omega
/-- What Update answers, as a number. -/
def up (s : Nat) (xs : List Int) : Nat := 4294967295 - reg (4294967295 - s) (xs.map Int.toNat)

theorem split_low (r : Nat) : r = r / 256 * 2 ^ 8 ^^^ r % 256 := by
  apply Nat.eq_of_testBit_eq
  intro i
  rw [Nat.testBit_xor, ← Nat.shiftLeft_eq, show r / 256 = r >>> 8 from (Nat.shiftRight_eq_div_pow r 8).symm, show r % 256 = r % 2 ^ 8 from rfl,
    Nat.testBit_shiftLeft, Nat.testBit_shiftRight, Nat.testBit_mod_two_pow]
  by_cases h : 8 ≤ i
  · simp [h, show 8 + (i - 8) = i by omega, show ¬ i < 8 by omega]
  · simp [h, show i < 8 by omega]
/-- A byte is taken by one look at the array. -/
theorem tk_look (r c : Nat) : tk r c = r / 256 ^^^ bits1 8 (r % 256 ^^^ c) := by
  unfold tk
  conv => lhs; rw [split_low r, Nat.xor_assoc, bits1_xor, bits1_down]
theorem reg_snoc (r : Nat) (xs : List Int) (k : Nat) (h : k < xs.length) : reg r ((xs.take (k + 1)).map Int.toNat) = tk (reg r ((xs.take k).map Int.toNat)) (xs.getD k 0).toNat := by
  rw [List.take_add_one, List.map_append, reg_append, List.getElem?_eq_getElem h]
  simp [h, reg]
theorem nat_bytes {xs : List Int} (h : ∀ y ∈ xs, 0 ≤ y ∧ y ≤ 255) : ∀ c ∈ xs.map Int.toNat, c < 256 := by
  intro c hc
  simp at hc
  obtain ⟨y, hy, rfl⟩ := hc
  have := h y hy
  omega
theorem xor_ones32 (b : Nat) (hb : b < 4294967296) : 4294967295 ^^^ b = 4294967295 - b := by
  apply Nat.eq_of_testBit_eq
  intro i
  rw [show (4294967295 : Nat) = 2 ^ 32 - 1 from rfl, Nat.testBit_xor, Nat.testBit_two_pow_sub_one, show 2 ^ 32 - 1 - b = 2 ^ 32 - (b + 1) by omega, Nat.testBit_two_pow_sub_succ hb]
  by_cases h : i < 32
  · simp [h]
  · have h2 : (4294967296 : Nat) ≤ 2 ^ i := Nat.pow_le_pow_right (n := 2) (i := 32) (by decide) (by omega)
    simp [h, Nat.testBit_lt_two_pow (Nat.lt_of_lt_of_le hb h2)]
theorem not32 (b : Nat) (hb : b < 4294967296) : bits .xor .u32 4294967295 (b : Int) = ((4294967295 - b : Nat) : Int) := by
  have e := u32_xor_nat 4294967295 b (by decide) hb
  rw [xor_ones32 b hb] at e
  simpa using e

set_option maxRecDepth 100000 in
set_option maxHeartbeats 4000000 in
theorem update_any (s : Nat) (xs : List Int) (a : Option Addr) (n cap : Nat) (w : World) (hs : s < 4294967296) (hb : ∀ y ∈ xs, 0 ≤ y ∧ y ≤ 255) (hr : Rd .u8 w a n xs) (hn : n ≤ 9223372036854775807) :
    Calls Try.prog 151 #[.int .u32 s, .slice a n cap] w fun e w' => e = .returned (.int .u32 (up s xs)) ∧ Below w.heap.size w w' := by
  obtain ⟨hzv, hzs⟩ := zero_of_info info_arr
  rw [← tb_none] at hzv
  have HL : Hid (xs.length = n) := hr.1
  have HY : Hid (∀ y ∈ xs, 0 ≤ y ∧ y ≤ 255) := hb
  have HR : Hid (Rd .u8 w a n xs) := hr
  have hnot := not32 s hs
  obtain ⟨r0, hr0⟩ : ∃ r0, r0 = 4294967295 - s := ⟨_, rfl⟩
  rw [← hr0] at hnot
  have hr0l : r0 < 4294967296 := by omega
  have HU : Hid (up s xs = 4294967295 - reg r0 (xs.map Int.toNat)) := by rw [hr0]; rfl
  have HZ : Hid ((Try.prog.info? 203).map (·.size) = some 256) := hzs
  clear hzs hr0 hr hb
  have hsgn : IntKind.u32.signed = false := rfl
  have hmx : IntKind.u32.max = 4294967295 := rfl
  have hts := tb_size 256
  go_enter Try.func151, Try.ntmps151
  go_wp2_with fail
  refine (allSteps_any _).mono ?_
  rintro e w1 ⟨rfl, hb1⟩
  have hsc := run_storeCells_new (P := Try.prog) w1 203 (tb 0) (tb 256) (by rw [tb_size]; exact HZ.out) (by rw [tb_size, tb_size]) (tb_one 256)
  obtain ⟨W, hW⟩ : ∃ W, W = w1.alloc (.cells (tb 256) 203) := ⟨_, rfl⟩
  have HB : Hid (Below w.heap.size w W) := by rw [hW]; exact hb1.alloc hb1.size _
  have HH : Hid (W.heap[w1.heap.size]? = some (.cells (tb 256) 203 (0, 0))) := by rw [hW]; exact heap_alloc_new _ _
  rw [← hW] at hsc
  clear hW hb1
  go_wp2
  go_loop [6, 14] (fun x6 x14 => ∃ k : Nat, k ≤ n ∧ x14 = .int .i64 k ∧ x6 = .int .u32 (reg r0 ((xs.take k).map Int.toNat) : Nat)) (fun _ x14 => n - (intOf x14).toNat)
  case atStart => exact ⟨0, by omega, rfl, rfl⟩
  case round =>
    obtain ⟨k, hk, hx14, hx6⟩ := hrel
    have HRL := reg_lt ((xs.take k).map Int.toNat) r0 hr0l (nat_bytes fun y hy => HY.out y (List.mem_of_mem_take hy))
    obtain ⟨r, hrd⟩ : ∃ r, r = reg r0 ((xs.take k).map Int.toNat) := ⟨_, rfl⟩
    rw [← hrd] at HRL hx6
    have HRD : Hid (r = reg r0 ((xs.take k).map Int.toNat)) := hrd
    clear hrd
    subst hx14 hx6
    by_cases hlt : k < n
    · obtain ⟨b, off, rfl, hcl⟩ := (HR.out.later HB.out).2 (by omega)
      have hcc := hcl k hlt
      have hxr := HY.out (xs.getD k 0) (by have := HL.out; simp [show k < xs.length by omega])
      have HN := reg_snoc r0 xs k (by have := HL.out; omega)
      rw [← HRD.out, tk_look] at HN
      obtain ⟨x, hx⟩ : ∃ x : Nat, (x : Int) = xs.getD k 0 := ⟨(xs.getD k 0).toNat, by omega⟩
      rw [← hx] at hcc hxr HN
      rw [Int.toNat_natCast] at HN
      have hx1 := u8_xor_nat (r % 256) x (by omega) (by omega)
      have hil : r % 256 ^^^ x < 256 := Nat.xor_lt_two_pow (n := 8) (by omega) (by omega)
      obtain ⟨i, hi⟩ : ∃ i, i = r % 256 ^^^ x := ⟨_, rfl⟩
      rw [← hi] at hx1 hil HN
      have hti := cell_of_row W w1.heap.size i _ _ _ HH.out
      rw [tb_at 256 i hil, if_pos hil] at hti
      have htl := bits1_lt 8 i (by omega)
      obtain ⟨t, ht⟩ : ∃ t, t = bits1 8 i := ⟨_, rfl⟩
      rw [← ht] at hti htl HN
      have hx2 := u32_xor_nat (r / 256) t (by omega) htl
      obtain ⟨z, hz⟩ : ∃ z, z = r / 256 ^^^ t := ⟨_, rfl⟩
      rw [← hz] at hx2 HN
      have HN' : Hid (reg r0 ((xs.take (k + 1)).map Int.toNat) = z) := HN
      simp only [Int.natCast_emod, Int.natCast_ediv, Int.cast_ofNat_Int] at hx1 hx2
      clear hx hi ht hz hcl HN
      go_wp2
      go_round
      case rel => exact ⟨k + 1, by omega, by go_num, by rw [HN'.out]⟩
      case measure => simp [intOf]; omega
    · obtain rfl : k = n := by omega
      have hnr := not32 r HRL
      have HU2 : Hid (up s xs = 4294967295 - r) := by
        show up s xs = _
        have e := HRD.out
        rw [show xs.take k = xs from List.take_of_length_le (by have := HL.out; omega)] at e
        rw [HU.out, e]
      obtain ⟨z, hz⟩ : ∃ z, z = 4294967295 - r := ⟨_, rfl⟩
      rw [← hz] at hnr HU2
      clear hz
      go_wp2
      go_ret
      exact ⟨by rw [HU2.out]; rfl, HB.out⟩
theorem up_lt (s : Nat) (xs : List Int) : up s xs < 4294967296 := by unfold up; omega
theorem sum_any (xs : List Int) (a : Option Addr) (n cap : Nat) (w : World) (hb : ∀ y ∈ xs, 0 ≤ y ∧ y ≤ 255) (hr : Rd .u8 w a n xs) (hn : n ≤ 9223372036854775807) :
    Calls Try.prog 121 #[.slice a n cap] w fun e w' => e = .returned (.int .u32 (up 0 xs)) ∧ Below w.heap.size w w' := by
  have HY : Hid (∀ y ∈ xs, 0 ≤ y ∧ y ≤ 255) := hb
  have HR : Hid (Rd .u8 w a n xs) := hr
  clear hb hr
  go_enter Try.func121, Try.ntmps121
  go_wp2_with fail
  refine (update_any 0 xs a n cap w (by decide) HY.out HR.out hn).mono ?_
  rintro e w1 ⟨rfl, hb1⟩
  have HB : Hid (Below w.heap.size w w1) := hb1
  clear hb1
  go_wp2
  go_ret
  exact ⟨rfl, HB.out⟩
theorem up_none (s : Nat) (h : s < 4294967296) : up s [] = s := by
  show 4294967295 - (4294967295 - s) = s
  omega
theorem up_nine : up 0 [49, 50, 51, 52, 53, 54, 55, 56, 57] = 3421780262 := by decide +kernel
theorem rd_mark (w : World) (xs : List Int) (cs : Array Value) (t : TypeId) (fr : Nat × Nat) (hcs : cs.toList = xs.map (Value.int .u8)) (H : Nat) (hH : w.heap.size = H) (n : Nat) (hn : xs.length = n) : Rd .u8 (w.alloc (.cells cs t fr)) (some ⟨H, 0, none⟩) n xs := by
  subst hH
  refine ⟨hn, fun _ => ⟨w.heap.size, 0, rfl, fun i hi => ?_⟩⟩
  rw [cell_of_row _ w.heap.size (0 + i) _ _ _ (heap_alloc_new w _)]
  have : cs[0 + i]? = (xs.map (Value.int .u8))[i]? := by rw [← hcs]; simp
  rw [this]
  simp [show i < xs.length by omega]
end Go.Proofs.Ytcbnmahbdcjamaa
