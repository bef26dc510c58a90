/- The walk of Encode: the bytes of characters, in new memory; ErrArg, if one is none. -/
import Derived.Test.YtdoflmgdmcmmfaaUtfB
import Derived.LoopN
namespace Go.Proofs.Ytdoflmgdmcmmfaa
open Go.RowKit
set_option linter.unusedVariables false

/-- The slice at a, of len elements, reads as the numbers xs. -/
def Rd (k : IntKind) (w : World) (a : Option Addr) (len : Nat) (xs : List Int) : Prop :=
  xs.length = len ∧ (0 < len → ∃ b off, a = some ⟨b, off, none⟩ ∧ ∀ i, i < len → w.cell? ⟨b, off + i, none⟩ = some (.int k (xs.getD i 0)))

theorem rel_lay {w wr w1 : World} {B k : Nat} {l : List Int} {v' : Value} (hk : k < l.length)
    (h : w1.ownsRow B 5 1 v' ((encs (l.take k)).length + (by8 (l.getD k 0)).length) ((encs (l.take k)).map (Value.int .u8) ++ (by8 (l.getD k 0)).map (Value.int .u8)))
    (hb : Below B w wr) (hb' : Below B wr w1) :
    w1.ownsRow B 5 1 v' (encs (l.take (k + 1))).length ((encs (l.take (k + 1))).map (Value.int .u8)) ∧ Below B w w1 := by
  rw [encs_take l k hk]
  exact ⟨by simpa using h, hb.trans hb'⟩

theorem encode_some (l : List Int) (b off len cap : Nat) (w : World) (hpos : 0 < len) (hl : l.length = len) (hlen : len ≤ 100000000000)
    (hc : ∀ i, i < len → w.cell? ⟨b, off + i, none⟩ = some (.int .i32 (l.getD i 0))) :
    Calls Try.prog 10 #[.slice (some ⟨b, off, none⟩) len cap] w fun e w' => Below w.heap.size w w' ∧
      ((oks l = false ∧ e = .returned (.tuple #[.slice none 0 0, .int .i64 1])) ∨
       (oks l = true ∧ ∃ v, e = .returned (.tuple #[v, .int .i64 0]) ∧ w'.ownsRow w.heap.size 5 1 v (encs l).length ((encs l).map (Value.int .u8)))) := by
  obtain ⟨i0, hi, hz0, hz1, hz2⟩ := info_parts info_u8
  have hblt : b < w.heap.size := World.block_lt_of_cell? w _ (hc 0 hpos)
  have HC : Hid (∀ i, i < len → w.cell? ⟨b, off + i, none⟩ = some (.int .i32 (l.getD i 0))) := hc
  clear hc
  go_enter Try.func10, Try.ntmps10
  go_wp2_with (at_make; refine wpList_make_own _ rfl _ _ 23 rfl w.heap.size 5 i0 (.int .u8 0) 1 Try.underlying23 hi hz0 hz1 .i64 .i64 _ len rfl rfl rfl ?m1 ?m2 ?m3 ?_)
  case m1 => rw [hz2]; omega
  case m2 => unfold maxLen; omega
  case m3 => omega
  intro w1 hown1 hgrow1
  have HB1 : Hid (Below w.heap.size w w1) := (Below.refl _ w).grown hgrow1 (by omega) (by simp)
  have HO1 : Hid (w1.ownsRow w.heap.size 5 1 (.slice (some ⟨w.heap.size, 0, none⟩) 0 len) 0 []) := hown1
  clear hown1 hgrow1
  go_wp2
  go_loopw [4, 13] (fun v i wr => ∃ k : Nat, k ≤ len ∧ i = .int .i64 k ∧ oks (l.take k) = true ∧ wr.ownsRow w.heap.size 5 1 v (encs (l.take k)).length ((encs (l.take k)).map (Value.int .u8)) ∧ Below w.heap.size w wr) (fun _ i _ => len - (intOf i).toNat)
  case atStart => exact ⟨0, Nat.zero_le _, rfl, rfl, HO1.out, HB1.out⟩
  case round =>
    obtain ⟨k, hk, rfl, hok, hown, hbel⟩ := hrel
    have HO : Hid (wr.ownsRow w.heap.size 5 1 _ (encs (l.take k)).length ((encs (l.take k)).map (Value.int .u8))) := hown
    have HB : Hid (Below w.heap.size w wr) := hbel
    have HK : Hid (oks (l.take k) = true) := hok
    have hsz := hbel.size
    clear hown hbel hok
    by_cases hlt : k < len
    · have hcx : wr.cell? ⟨b, off + k, none⟩ = some (.int .i32 (l.getD k 0)) := (HB.out.cell hblt).trans (HC.out k hlt)
      obtain ⟨c, hcc⟩ : ∃ c, c = l.getD k 0 := ⟨_, rfl⟩
      rw [← hcc] at hcx
      have HCC : Hid (c = l.getD k 0) := hcc
      clear hcc
      by_cases hs : sz c = 0
      · go_wp2_with (first | (go_at_call 17; refine (size_any _ _).mono ?_; rintro e w' ⟨rfl, rfl⟩))
        go_ret2
        exact ⟨HB.out, .inl ⟨oks_not l k (by omega) (HCC.out ▸ hs), rfl⟩⟩
      · have hs' : (sz c == 0) = false := by simpa using hs
        go_wp2_with (first | (go_at_call 17; refine (size_any _ _).mono ?_; rintro e w' ⟨rfl, rfl⟩) | (go_at_call 21; refine (lay_any w.heap.size _ _ _ _ _ hs HO.out (by have := encs_take_len l k; omega) (by omega)).mono ?_; rintro e w2 ⟨v', rfl, hown2, hbel2⟩))
        have hlt2 : k < l.length := by omega
        have R := rel_lay (B := w.heap.size) (w := w) (wr := _) (w1 := _) (l := l) (v' := _) hlt2 (by rw [← HCC.out]; exact hown2) HB.out hbel2
        have HR := R
        clear hown2 hbel2
        go_wp2
        go_roundw
        case rel => exact ⟨k + 1, by omega, by go_num, by rw [oks_take l k hlt2, HK.out, ← HCC.out]; simp [hs], R.1, R.2⟩
        case measure => simp [intOf]; omega
    · have hkl : k = len := by omega
      go_wp2
      go_ret2
      refine ⟨HB.out, .inr ⟨?_, _, rfl, ?_⟩⟩
      · have := HK.out; rwa [List.take_of_length_le (by omega)] at this
      · have := HO.out; rwa [List.take_of_length_le (by omega)] at this
end Go.Proofs.Ytdoflmgdmcmmfaa
