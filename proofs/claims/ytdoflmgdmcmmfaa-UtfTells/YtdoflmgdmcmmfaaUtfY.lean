/- Walks of the reference: Size, one, guess, whole; strings as rows of numbers. -/
import Derived.Test.YtdoflmgdmcmmfaaUtfR
import Derived.Test.YtdoflmgdmcmmfaaUtfX
namespace Go.Proofs.Ytdoflmgdmcmmfaa
open Go.RowKit
set_option linter.unusedVariables false

theorem str_ext {s t : ByteArray} (h : s.data.toList = t.data.toList) : s = t := by
  obtain ⟨⟨a⟩⟩ := s
  obtain ⟨⟨b⟩⟩ := t
  simp at h
  rw [h]
theorem str_take (xs : List Int) (n : Nat) (h : n ≤ xs.length) (W : World) : (Instr.slice 9 (.string (strOfNums xs)) none (some (.int .i64 n)) none).run Try.prog W = .ok (.string (strOfNums (xs.take n))) W := by
  rw [run_slice_string_h W 9 _ Try.underlying9 .i64 n (by omega) (by rw [strOfNums_size]; omega)]
  congr 2
  apply str_ext
  rw [Lib.extract_data, strOfNums_data, strOfNums_data]
  simp
theorem str_drop (xs : List Int) (n : Nat) (h : n ≤ xs.length) (W : World) : (Instr.slice 9 (.string (strOfNums xs)) (some (.int .i64 n)) none none).run Try.prog W = .ok (.string (strOfNums (xs.drop n))) W := by
  rw [run_slice_string_l W 9 _ Try.underlying9 .i64 n (by omega) (by rw [strOfNums_size]; omega)]
  congr 2
  apply str_ext
  rw [Lib.extract_data, strOfNums_data, strOfNums_data, strOfNums_size]
  rw [List.take_of_length_le (by simp)]
  simp
theorem str_at (xs : List Int) (n : Nat) (h : n < xs.length) (hr : ∀ y ∈ xs, 0 ≤ y ∧ y ≤ 255) (W : World) : (Instr.index 9 (.string (strOfNums xs)) (.int .i64 n)).run Try.prog W = .ok (.int .u8 (xs.getD n 0)) W := by
  have hs := strOfNums_size xs
  rw [run_index_string W _ _ _ _ Try.underlying9, dif_pos (by omega)]
  congr 2
  have hb := hr (xs.getD n 0) (by simp [h])
  have : ((strOfNums xs)[((n : Int)).toNat]'(by omega)) = UInt8.ofNat (xs.getD n 0).toNat := by
    show (strOfNums xs).data[n]'_ = _
    simp [strOfNums, h]
  rw [this]
  generalize xs.getD n 0 = y at hb ⊢
  simp
  omega
theorem map_inj : (xs ys : List Int) → (∀ y ∈ xs, 0 ≤ y ∧ y ≤ 255) → (∀ y ∈ ys, 0 ≤ y ∧ y ≤ 255) → (xs.map fun n => UInt8.ofNat n.toNat) = (ys.map fun n => UInt8.ofNat n.toNat) → xs = ys
  | [], [], _, _, _ => rfl
  | [], _ :: _, _, _, h => by simp at h
  | _ :: _, [], _, _, h => by simp at h
  | x :: xs, y :: ys, hx, hy, h => by
    simp only [List.map_cons, List.cons.injEq] at h
    have h1 := hx x (by simp)
    have h2 := hy y (by simp)
    have e := congrArg UInt8.toNat h.1
    simp at e
    rw [map_inj xs ys (fun z hz => hx z (by simp [hz])) (fun z hz => hy z (by simp [hz])) h.2, show x = y by omega]
theorem str_eq (xs ys : List Int) (hx : ∀ y ∈ xs, 0 ≤ y ∧ y ≤ 255) (hy : ∀ y ∈ ys, 0 ≤ y ∧ y ≤ 255) : ((strOfNums xs).toList == (strOfNums ys).toList) = decide (xs = ys) := by
  rw [Lib.toList_data, Lib.toList_data, strOfNums_data, strOfNums_data, Bool.eq_iff_iff]
  simp only [beq_iff_eq, decide_eq_true_eq]
  exact ⟨map_inj xs ys hx hy, fun h => by rw [h]⟩

theorem rsize_any (c : Int) (w : World) :
    Calls Try.prog 18 #[.int .i32 c] w fun e w' => e = .returned (.int .i64 (sz c)) ∧ w' = w := by
  rcases (by omega : c < 0 ∨ (0 ≤ c ∧ 1114111 < c) ∨ (0 ≤ c ∧ c ≤ 1114111 ∧ 55296 ≤ c ∧ c ≤ 57343) ∨ (0 ≤ c ∧ c < 55296) ∨ (57343 < c ∧ c ≤ 1114111)) with h | h | h | h | h
  all_goals
    go_enter Try.func18, Try.ntmps18
    go_wp2
  all_goals go_ret
  all_goals exact ⟨ret_int (by unfold sz; repeat' split; all_goals omega), rfl⟩

theorem rd_block (w : World) (xs : List Int) (cs : Array Value) (t : TypeId) (hcs : cs.toList = xs.map (Value.int .u8)) (H : Nat) (hH : w.heap.size = H) (n : Nat) (hn : xs.length = n) : Rd .u8 (w.alloc (.cells cs t)) (some ⟨H, 0, none⟩) n xs := by
  subst hH
  refine ⟨hn, fun _ => ⟨w.heap.size, 0, rfl, fun i hi => ?_⟩⟩
  rw [cell_of_row _ w.heap.size (0 + i) _ _ _ (heap_alloc_new w _)]
  have : cs[0 + i]? = (xs.map (Value.int .u8))[i]? := by rw [← hcs]; simp
  rw [this]
  simp [show i < xs.length by omega]

theorem one_1 (c : Int) (w : World) (h0 : 0 ≤ c) (h1 : c ≤ 127) :
    Calls Try.prog 22 #[.int .i32 c] w fun e w' => e = .returned (.string (strOfNums [c])) ∧ Below w.heap.size w w' := by
  have hs := sz_1 c h0 h1
  have hcv := conv_str (w := w.alloc (.cells #[.int .u8 c] 5)) (cap := 1) (rd_one .u8 w c 5 _ rfl)
  go_enter Try.func22, Try.ntmps22
  go_wp2_with (first | (go_at_call 18; refine (rsize_any _ _).mono ?_; rw [hs]; rintro e w' ⟨rfl, hw⟩; obtain rfl : w = w' := hw.symm))
  go_ret
  exact ⟨rfl, (Below.refl _ _).alloc (Nat.le_refl _) _⟩

theorem mk_2 (w : World) : (Instr.makeSlice 23 (.int .i64 2) (.int .i64 2)).run Try.prog w = .ok (.slice (some ⟨w.heap.size, 0, none⟩) 2 2) (w.alloc (.cells #[.int .u8 0, .int .u8 0] 5)) := by kernel_rfl
theorem mk_3 (w : World) : (Instr.makeSlice 23 (.int .i64 3) (.int .i64 3)).run Try.prog w = .ok (.slice (some ⟨w.heap.size, 0, none⟩) 3 3) (w.alloc (.cells #[.int .u8 0, .int .u8 0, .int .u8 0] 5)) := by kernel_rfl
theorem mk_4 (w : World) : (Instr.makeSlice 23 (.int .i64 4) (.int .i64 4)).run Try.prog w = .ok (.slice (some ⟨w.heap.size, 0, none⟩) 4 4) (w.alloc (.cells #[.int .u8 0, .int .u8 0, .int .u8 0, .int .u8 0] 5)) := by kernel_rfl

theorem one_2 (c : Int) (w : World) (h : 128 ≤ c ∧ c ≤ 2047) :
    Calls Try.prog 22 #[.int .i32 c] w fun e w' => e = .returned (.string (strOfNums [192 + c / 64, 128 + c % 64])) ∧ Below w.heap.size w w' := by
  have hs := sz_2 c h
  obtain ⟨h0, h1⟩ := h
  have hmk := mk_2
  have hcv := conv_str (cap := 2) (rd_block w [192 + c / 64, 128 + c % 64] #[.int .u8 (192 + c / 64), .int .u8 (128 + c % 64)] 5 rfl _ rfl 2 rfl)
  go_enter Try.func22, Try.ntmps22
  go_wp2_with (first | (go_at_call 18; refine (rsize_any _ _).mono ?_; rw [hs]; rintro e w' ⟨rfl, hw⟩; obtain rfl : w = w' := hw.symm))
  refine wp_loop_rounds 2 ?_
  rw [rounds_succ]
  go_wp2
  rw [rounds_succ]
  go_wp2
  go_ret
  exact ⟨rfl, (Below.refl _ _).alloc (Nat.le_refl _) _⟩
theorem one_3 (c : Int) (w : World) (h : 2048 ≤ c ∧ c ≤ 65535) (hs : sz c = 3) :
    Calls Try.prog 22 #[.int .i32 c] w fun e w' => e = .returned (.string (strOfNums [224 + c / 64 / 64, 128 + c / 64 % 64, 128 + c % 64])) ∧ Below w.heap.size w w' := by
  obtain ⟨h0, h1⟩ := h
  have hmk := mk_3
  have hcv := conv_str (cap := 3) (rd_block w [224 + c / 64 / 64, 128 + c / 64 % 64, 128 + c % 64] #[.int .u8 (224 + c / 64 / 64), .int .u8 (128 + c / 64 % 64), .int .u8 (128 + c % 64)] 5 rfl _ rfl 3 rfl)
  go_enter Try.func22, Try.ntmps22
  go_wp2_with (first | (go_at_call 18; refine (rsize_any _ _).mono ?_; rw [hs]; rintro e w' ⟨rfl, hw⟩; obtain rfl : w = w' := hw.symm))
  refine wp_loop_rounds 3 ?_
  rw [rounds_succ]
  go_wp2
  rw [rounds_succ]
  go_wp2
  rw [rounds_succ]
  go_wp2
  go_ret
  exact ⟨rfl, (Below.refl _ _).alloc (Nat.le_refl _) _⟩
theorem one_4 (c : Int) (w : World) (h : 65536 ≤ c ∧ c ≤ 1114111) (hs : sz c = 4) :
    Calls Try.prog 22 #[.int .i32 c] w fun e w' => e = .returned (.string (strOfNums [240 + c / 64 / 64 / 64, 128 + c / 64 / 64 % 64, 128 + c / 64 % 64, 128 + c % 64])) ∧ Below w.heap.size w w' := by
  obtain ⟨h0, h1⟩ := h
  have hmk := mk_4
  have hcv := conv_str (cap := 4) (rd_block w [240 + c / 64 / 64 / 64, 128 + c / 64 / 64 % 64, 128 + c / 64 % 64, 128 + c % 64] #[.int .u8 (240 + c / 64 / 64 / 64), .int .u8 (128 + c / 64 / 64 % 64), .int .u8 (128 + c / 64 % 64), .int .u8 (128 + c % 64)] 5 rfl _ rfl 4 rfl)
  go_enter Try.func22, Try.ntmps22
  go_wp2_with (first | (go_at_call 18; refine (rsize_any _ _).mono ?_; rw [hs]; rintro e w' ⟨rfl, hw⟩; obtain rfl : w = w' := hw.symm))
  refine wp_loop_rounds 4 ?_
  rw [rounds_succ]
  go_wp2
  rw [rounds_succ]
  go_wp2
  rw [rounds_succ]
  go_wp2
  rw [rounds_succ]
  go_wp2
  go_ret
  exact ⟨rfl, (Below.refl _ _).alloc (Nat.le_refl _) _⟩

/-- one, of a character: its bytes. -/
theorem one_any (c : Int) (w : World) (hc : sz c ≠ 0) :
    Calls Try.prog 22 #[.int .i32 c] w fun e w' => e = .returned (.string (strOfNums (by8 c))) ∧ Below w.heap.size w w' := by
  have hp := sz_pos c hc
  rcases (by omega : c ≤ 127 ∨ (128 ≤ c ∧ c ≤ 2047) ∨ (2048 ≤ c ∧ c ≤ 65535) ∨ (65536 ≤ c ∧ c ≤ 1114111)) with h | h | h | h
  · rw [by8_1 c h]; exact one_1 c w hp.1 h
  · rw [by8_2 c h]; exact one_2 c w h
  · rw [by8_3 c h]; exact one_3 c w h (sz_3 c h hc)
  · rw [by8_4 c h.1]; exact one_4 c w h (sz_4 c h.1 hc)

theorem str_lit (xs : List Int) (n : Nat) (i y : Int) (hi : i = (n : Int)) (hy : xs.getD n 0 = y) (h : n < xs.length) (hr : ∀ y ∈ xs, 0 ≤ y ∧ y ≤ 255) (W : World) : (Instr.index 9 (.string (strOfNums xs)) (.int .i64 i)).run Try.prog W = .ok (.int .u8 y) W := by
  subst hi hy; exact str_at xs n h hr W

theorem guess_1 (x : Int) (w : World) (hr : ∀ q ∈ [x], 0 ≤ q ∧ q ≤ 255) :
    Calls Try.prog 29 #[.string (strOfNums [x]), .int .i64 1] w fun e w' => e = .returned (.int .i32 (gs [x])) ∧ w' = w := by
  have i0 := str_lit [x] 0 0 x rfl rfl (by simp) hr
  have hx := hr x (by simp)
  have hx0 : 0 ≤ x := hx.1
  have hx1 : x ≤ 255 := hx.2
  clear hr hx
  go_enter Try.func29, Try.ntmps29
  go_wp2
  refine wp_loop_rounds 1 ?_
  rw [rounds_succ]
  go_wp2
  go_ret
  exact ⟨ret_int (by simp only [gs]), rfl⟩
theorem guess_2 (x y : Int) (w : World) (hr : ∀ q ∈ [x, y], 0 ≤ q ∧ q ≤ 255) :
    Calls Try.prog 29 #[.string (strOfNums [x, y]), .int .i64 2] w fun e w' => e = .returned (.int .i32 (gs [x, y])) ∧ w' = w := by
  have i0 := str_lit [x, y] 0 0 x rfl rfl (by simp) hr
  have hx := hr x (by simp)
  have hx0 : 0 ≤ x := hx.1
  have hx1 : x ≤ 255 := hx.2
  have i1 := str_lit [x, y] 1 1 y rfl rfl (by simp) hr
  have hy := hr y (by simp)
  have hy0 : 0 ≤ y := hy.1
  have hy1 : y ≤ 255 := hy.2
  clear hr hx hy
  go_enter Try.func29, Try.ntmps29
  go_wp2
  refine wp_loop_rounds 2 ?_
  rw [rounds_succ]
  go_wp2
  rw [rounds_succ]
  go_wp2
  go_ret
  exact ⟨ret_int (by simp only [gs]), rfl⟩
theorem guess_3 (x y z : Int) (w : World) (hr : ∀ q ∈ [x, y, z], 0 ≤ q ∧ q ≤ 255) :
    Calls Try.prog 29 #[.string (strOfNums [x, y, z]), .int .i64 3] w fun e w' => e = .returned (.int .i32 (gs [x, y, z])) ∧ w' = w := by
  have i0 := str_lit [x, y, z] 0 0 x rfl rfl (by simp) hr
  have hx := hr x (by simp)
  have hx0 : 0 ≤ x := hx.1
  have hx1 : x ≤ 255 := hx.2
  have i1 := str_lit [x, y, z] 1 1 y rfl rfl (by simp) hr
  have hy := hr y (by simp)
  have hy0 : 0 ≤ y := hy.1
  have hy1 : y ≤ 255 := hy.2
  have i2 := str_lit [x, y, z] 2 2 z rfl rfl (by simp) hr
  have hz := hr z (by simp)
  have hz0 : 0 ≤ z := hz.1
  have hz1 : z ≤ 255 := hz.2
  clear hr hx hy hz
  go_enter Try.func29, Try.ntmps29
  go_wp2
  refine wp_loop_rounds 3 ?_
  rw [rounds_succ]
  go_wp2
  rw [rounds_succ]
  go_wp2
  rw [rounds_succ]
  go_wp2
  go_ret
  exact ⟨ret_int (by simp only [gs]), rfl⟩
theorem guess_4 (x y z u : Int) (w : World) (hr : ∀ q ∈ [x, y, z, u], 0 ≤ q ∧ q ≤ 255) :
    Calls Try.prog 29 #[.string (strOfNums [x, y, z, u]), .int .i64 4] w fun e w' => e = .returned (.int .i32 (gs [x, y, z, u])) ∧ w' = w := by
  have i0 := str_lit [x, y, z, u] 0 0 x rfl rfl (by simp) hr
  have hx := hr x (by simp)
  have hx0 : 0 ≤ x := hx.1
  have hx1 : x ≤ 255 := hx.2
  have i1 := str_lit [x, y, z, u] 1 1 y rfl rfl (by simp) hr
  have hy := hr y (by simp)
  have hy0 : 0 ≤ y := hy.1
  have hy1 : y ≤ 255 := hy.2
  have i2 := str_lit [x, y, z, u] 2 2 z rfl rfl (by simp) hr
  have hz := hr z (by simp)
  have hz0 : 0 ≤ z := hz.1
  have hz1 : z ≤ 255 := hz.2
  have i3 := str_lit [x, y, z, u] 3 3 u rfl rfl (by simp) hr
  have hu := hr u (by simp)
  have hu0 : 0 ≤ u := hu.1
  have hu1 : u ≤ 255 := hu.2
  clear hr hx hy hz hu
  go_enter Try.func29, Try.ntmps29
  go_wp2
  refine wp_loop_rounds 4 ?_
  rw [rounds_succ]
  go_wp2
  rw [rounds_succ]
  go_wp2
  rw [rounds_succ]
  go_wp2
  rw [rounds_succ]
  go_wp2
  go_ret
  exact ⟨ret_int (by simp only [gs]), rfl⟩

theorem guess_any (bs : List Int) (w : World) (h1 : 1 ≤ bs.length) (h4 : bs.length ≤ 4) (hr : ∀ q ∈ bs, 0 ≤ q ∧ q ≤ 255) :
    Calls Try.prog 29 #[.string (strOfNums bs), .int .i64 (bs.length : Nat)] w fun e w' => e = .returned (.int .i32 (gs bs)) ∧ w' = w := by
  match bs, h1, h4, hr with
  | [x], _, _, hr => exact guess_1 x w hr
  | [x, y], _, _, hr => exact guess_2 x y w hr
  | [x, y, z], _, _, hr => exact guess_3 x y z w hr
  | [x, y, z, u], _, _, hr => exact guess_4 x y z u w hr
  | _ :: _ :: _ :: _ :: _ :: _, _, h4, _ => exact absurd h4 (by simp)

theorem gs_rng (bs : List Int) (hr : ∀ q ∈ bs, 0 ≤ q ∧ q ≤ 255) : 0 ≤ gs bs ∧ gs bs ≤ 2097151 := by
  match bs with
  | [x] => have := hr x (by simp); simp only [gs]; omega
  | [x, y] => simp only [gs]; omega
  | [x, y, z] => simp only [gs]; omega
  | [x, y, z, u] => simp only [gs]; omega
  | [] => simp [gs]
  | _ :: _ :: _ :: _ :: _ :: _ => simp [gs]

/-- whole, of any bytes. -/
theorem whole_none (bs : List Int) (w : World) (hr : ∀ q ∈ bs, 0 ≤ q ∧ q ≤ 255) (hlen : bs.length ≤ 100000000000) (hw : whl bs = none) :
    Calls Try.prog 25 #[.string (strOfNums bs)] w fun e w' => e = .returned (.tuple #[.int .i32 0, .bool false]) ∧ Below w.heap.size w w' := by
  have hsz := strOfNums_size bs
  by_cases hl : 1 ≤ bs.length ∧ bs.length ≤ 4
  · obtain ⟨h1, h4⟩ := hl
    have HR : Hid (∀ q ∈ bs, 0 ≤ q ∧ q ≤ 255) := hr
    by_cases hs : sz (gs bs) = (bs.length : Int)
    · have hne : sz (gs bs) ≠ 0 := by omega
      have hneq : by8 (gs bs) ≠ bs := by
        intro h; unfold whl at hw; rw [if_pos ⟨⟨h1, h4⟩, hs, h⟩] at hw; cases hw
      have HQ : Hid (((strOfNums (by8 (gs bs))).toList == (strOfNums bs).toList) = false) := by
        show _ = _; rw [str_eq _ _ (by8_rng _ hne) hr]; simpa using hneq
      obtain ⟨S, hS⟩ : ∃ S, S = strOfNums (by8 (gs bs)) := ⟨_, rfl⟩
      have HS : Hid (S = strOfNums (by8 (gs bs))) := hS
      have hq : (S.toList == (strOfNums bs).toList) = false := by rw [hS]; exact HQ.out
      have HNE : Hid (sz (gs bs) ≠ 0) := hne
      clear hw hr hne hneq HQ hS
      go_enter Try.func25, Try.ntmps25
      go_wp2_with (first | (go_at_call 29; refine (guess_any bs _ h1 h4 HR.out).mono ?_; rintro e w' ⟨rfl, hw'⟩; obtain rfl : w = w' := hw'.symm) | (go_at_call 18; refine (rsize_any _ _).mono ?_; rw [hs]; rintro e w' ⟨rfl, hw'⟩; obtain rfl : w = w' := hw'.symm) | (go_at_call 22; refine (one_any _ _ HNE.out).mono ?_; rw [← HS.out]; rintro e w1 ⟨rfl, hb1⟩; have HB1 : Hid (Below w.heap.size w w1) := hb1; clear hb1))
      go_ret2
      exact ⟨rfl, HB1.out⟩
    · have hs' : (sz (gs bs) != (bs.length : Int)) = true := by simpa using hs
      clear hw hr hs
      go_enter Try.func25, Try.ntmps25
      go_wp2_with (first | (go_at_call 29; refine (guess_any bs _ h1 h4 HR.out).mono ?_; rintro e w' ⟨rfl, hw'⟩; obtain rfl : w = w' := hw'.symm) | (go_at_call 18; refine (rsize_any _ _).mono ?_; rintro e w' ⟨rfl, hw'⟩; obtain rfl : w = w' := hw'.symm))
      go_ret2
      exact ⟨rfl, Below.refl _ _⟩
  · clear hw hr
    by_cases h1 : bs.length < 1
    · clear hl
      go_enter Try.func25, Try.ntmps25
      go_wp2
      go_ret2
      exact ⟨rfl, Below.refl _ _⟩
    · have h4 : 4 < bs.length := by omega
      clear hl
      go_enter Try.func25, Try.ntmps25
      go_wp2
      go_ret2
      exact ⟨rfl, Below.refl _ _⟩
theorem whole_some (bs : List Int) (c : Int) (w : World) (hr : ∀ q ∈ bs, 0 ≤ q ∧ q ≤ 255) (hw : whl bs = some c) :
    Calls Try.prog 25 #[.string (strOfNums bs)] w fun e w' => e = .returned (.tuple #[.int .i32 c, .bool true]) ∧ Below w.heap.size w w' := by
  have hsz := strOfNums_size bs
  obtain ⟨hc, hb, hs⟩ := whl_inv bs c hw
  have hl := by8_len c
  rw [← hb] at hl
  have h1 : 1 ≤ bs.length := hl.1
  have h4 : bs.length ≤ 4 := hl.2
  have hg : gs bs = c := by rw [hb]; exact gs_by8 c hc
  have HG : Hid (gs bs = c) := hg
  have HR : Hid (∀ q ∈ bs, 0 ≤ q ∧ q ≤ 255) := hr
  have HC : Hid (sz c ≠ 0) := hc
  have HBB : Hid (bs = by8 c) := hb
  clear hw hr hc hb hl hg
  go_enter Try.func25, Try.ntmps25
  go_wp2_with (first | (go_at_call 29; refine (guess_any bs _ h1 h4 HR.out).mono ?_; rw [HG.out]; rintro e w' ⟨rfl, hw'⟩; obtain rfl : w = w' := hw'.symm) | (go_at_call 18; refine (rsize_any _ _).mono ?_; rw [hs]; rintro e w' ⟨rfl, hw'⟩; obtain rfl : w = w' := hw'.symm) | (go_at_call 22; refine (one_any _ _ HC.out).mono ?_; rw [← HBB.out]; rintro e w1 ⟨rfl, hb1⟩; have HB1 : Hid (Below w.heap.size w w1) := hb1; clear hb1))
  go_ret2
  exact ⟨rfl, HB1.out⟩
end Go.Proofs.Ytdoflmgdmcmmfaa
