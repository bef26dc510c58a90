/- Encode of any characters that can be read; the walk of Tail. -/
import Derived.Test.YtdoflmgdmcmmfaaUtfE
namespace Go.Proofs.Ytdoflmgdmcmmfaa
open Go.RowKit
set_option linter.unusedVariables false

theorem encode_nil (a : Option Addr) (cap : Nat) (w : World) :
    Calls Try.prog 10 #[.slice a 0 cap] w fun e w' => Below w.heap.size w w' ∧
      ∃ v, e = .returned (.tuple #[v, .int .i64 0]) ∧ w'.ownsRow w.heap.size 5 1 v 0 [] := by
  obtain ⟨i0, hi, hz0, hz1, hz2⟩ := info_parts info_u8
  go_enter Try.func10, Try.ntmps10
  go_wp2_with (at_make; refine wpList_make_own _ rfl _ _ 23 rfl w.heap.size 5 i0 (.int .u8 0) 1 Try.underlying23 hi hz0 hz1 .i64 .i64 _ 0 rfl rfl rfl ?m1 ?m2 ?m3 ?_)
  case m1 => simp
  case m2 => simp
  case m3 => omega
  intro w1 hown1 hgrow1
  have HB1 : Hid (Below w.heap.size w w1) := (Below.refl _ w).grown hgrow1 (by omega) (by simp)
  have HO1 : Hid (w1.ownsRow w.heap.size 5 1 (.slice (some ⟨w.heap.size, 0, none⟩) 0 0) 0 []) := hown1
  clear hown1 hgrow1
  go_wp2
  refine wp_loop_rounds 1 ?_
  rw [rounds_succ]
  go_wp2
  go_ret2
  exact ⟨HB1.out, _, rfl, HO1.out⟩

/-- ENCODE, of any characters that can be read. -/
theorem encode_any (l : List Int) (a : Option Addr) (len cap : Nat) (w : World) (hlen : len ≤ 100000000000) (hrd : Rd .i32 w a len l) :
    Calls Try.prog 10 #[.slice a len cap] w fun e w' => Below w.heap.size w w' ∧
      ((oks l = false ∧ e = .returned (.tuple #[.slice none 0 0, .int .i64 1])) ∨
       (oks l = true ∧ ∃ v, e = .returned (.tuple #[v, .int .i64 0]) ∧ w'.ownsRow w.heap.size 5 1 v (encs l).length ((encs l).map (Value.int .u8)))) := by
  obtain ⟨hl, hc⟩ := hrd
  cases l with
  | nil =>
    obtain rfl : len = 0 := by simpa using hl.symm
    exact (encode_nil a cap w).mono fun e w' ⟨hb, v, he, ho⟩ => ⟨hb, .inr ⟨rfl, v, he, ho⟩⟩
  | cons x r =>
    obtain ⟨b, off, rfl, hcc⟩ := hc (by simp at hl; omega)
    exact encode_some (x :: r) b off len cap w (by simp at hl; omega) hl hlen hcc

theorem Rd.drop {k : IntKind} {w : World} {b off len n : Nat} {xs : List Int} (hl : xs.length = len) (hc : ∀ i, i < len → w.cell? ⟨b, off + i, none⟩ = some (.int k (xs.getD i 0))) (hn : n ≤ len) :
    Rd k w (some ⟨b, off + n, none⟩) (len - n) (xs.drop n) := by
  refine ⟨by simp; omega, fun hp => ⟨b, off + n, rfl, fun i hi => ?_⟩⟩
  rw [show off + n + i = off + (n + i) by omega, hc (n + i) (by omega)]
  simp

set_option maxHeartbeats 1000000 in
theorem tail_some (bs : List Int) (b off len cap : Nat) (w : World) (hpos : 0 < len) (hl : bs.length = len) (hcap : len ≤ cap) (hm : cap ≤ 9223372036854775807) (hr : ∀ y ∈ bs, 0 ≤ y ∧ y ≤ 255)
    (hc : ∀ i, i < len → w.cell? ⟨b, off + i, none⟩ = some (.int .u8 (bs.getD i 0))) :
    Calls Try.prog 19 #[.slice (some ⟨b, off, none⟩) len cap] w fun e w' => e = .returned (.int .i64 (tail8 bs)) ∧ w' = w := by
  have HC : Hid (∀ i, i < len → w.cell? ⟨b, off + i, none⟩ = some (.int .u8 (bs.getD i 0))) := hc
  have HR : Hid (∀ y ∈ bs, 0 ≤ y ∧ y ≤ 255) := hr
  have HL : Hid (bs.length = len) := hl
  obtain ⟨T, hT⟩ : ∃ T, T = tail8 bs := ⟨_, rfl⟩
  rw [← hT]
  have HS : Hid (∀ m, m = min 3 len → T = tailF bs m) := by
    intro m hm; rw [hT, tail8, hl, hm]
  clear hc hr hl hT
  have hcase : 3 ≤ len ∨ len < 3 := by omega
  rcases hcase with h3 | h3
  all_goals
    go_enter Try.func19, Try.ntmps19
    go_wp2
    go_loop [3] (fun n => ∃ k : Nat, k ≤ 3 ∧ k ≤ len ∧ n = .int .i64 k ∧ T = tailF bs k) (fun n => (intOf n).toNat)
    case atStart => first | exact ⟨3, by omega, by omega, rfl, HS.out 3 (by omega)⟩ | exact ⟨len, by omega, by omega, rfl, HS.out len (by omega)⟩
    case round =>
      obtain ⟨k, hk, hkl, rfl, hTk⟩ := hrel
      have HT : Hid (T = tailF bs k) := hTk
      clear hTk
      by_cases h0 : k = 0
      · subst h0
        go_wp2
        go_ret
        exact ⟨ret_int (by rw [HT.out]; rfl), rfl⟩
      · have h1 : 1 ≤ k := by omega
        have hp : (0 : Int) < (k : Int) := by omega
        obtain ⟨⟨c, n, er⟩, hF⟩ : ∃ F : Int × Int × Int, F = first (bs.drop (len - k)) := ⟨_, rfl⟩
        have HF : Hid ((c, n, er) = first (bs.drop (len - k))) := hF
        have HRD : Hid (Rd .u8 w (some ⟨b, off + (len - k), none⟩) (len - (len - k)) (bs.drop (len - k))) := Rd.drop HL.out HC.out (by omega)
        clear hF h0
        have e1 : len - (len - k) = k := by omega
        have hlk : len - k < cap := by omega
        by_cases he : er = 6
        · subst he
          go_wp2_with (first | (go_at_call 12; refine (first_any (bs.drop (len - k)) _ _ _ _ (by omega) (by omega) (fun y hy => HR.out y (List.mem_of_mem_drop hy)) (by have := HRD.out; rw [e1] at this; exact this)).mono ?_; rw [← HF.out]; rintro e w' ⟨rfl, rfl⟩))
          go_ret
          exact ⟨ret_int (by rw [HT.out, tailF_yes bs k h1 (by rw [HL.out, ← HF.out])]), rfl⟩
        · have he' : (er == 6) = false := by simpa using he
          go_wp2_with (first | (go_at_call 12; refine (first_any (bs.drop (len - k)) _ _ _ _ (by omega) (by omega) (fun y hy => HR.out y (List.mem_of_mem_drop hy)) (by have := HRD.out; rw [e1] at this; exact this)).mono ?_; rw [← HF.out]; rintro e w' ⟨rfl, rfl⟩))
          go_round
          case rel => exact ⟨k - 1, by omega, by omega, by go_num, by rw [HT.out, tailF_no bs k h1 (by rw [HL.out, ← HF.out]; exact he)]⟩
          case measure => simp [intOf]; omega

theorem tail_nil (a : Option Addr) (cap : Nat) (w : World) :
    Calls Try.prog 19 #[.slice a 0 cap] w fun e w' => e = .returned (.int .i64 0) ∧ w' = w := by
  go_enter Try.func19, Try.ntmps19
  go_wp2
  refine wp_loop_rounds 1 ?_
  rw [rounds_succ]
  go_wp2
  go_ret
  exact ⟨rfl, rfl⟩

/-- TAIL, of any bytes that can be read. -/
theorem tail_any (bs : List Int) (a : Option Addr) (len cap : Nat) (w : World) (hcap : len ≤ cap) (hm : cap ≤ 9223372036854775807) (hr : ∀ y ∈ bs, 0 ≤ y ∧ y ≤ 255) (hrd : Rd .u8 w a len bs) :
    Calls Try.prog 19 #[.slice a len cap] w fun e w' => e = .returned (.int .i64 (tail8 bs)) ∧ w' = w := by
  obtain ⟨hl, hc⟩ := hrd
  cases bs with
  | nil =>
    obtain rfl : len = 0 := by simpa using hl.symm
    exact tail_nil a cap w
  | cons x r =>
    obtain ⟨b, off, rfl, hcc⟩ := hc (by simp at hl; omega)
    exact tail_some (x :: r) b off len cap w (by simp at hl; omega) hl hcap hm hr hcc
end Go.Proofs.Ytdoflmgdmcmmfaa
