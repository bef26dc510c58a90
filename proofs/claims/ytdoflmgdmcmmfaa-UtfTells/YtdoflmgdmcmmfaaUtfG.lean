/- What the calls give, as slices that can be read; the closed case that every statement of this layer runs first. -/
import Derived.Test.YtdoflmgdmcmmfaaUtfF
import Derived.Laws.BytesArg
namespace Go.Proofs.Ytdoflmgdmcmmfaa
open Go.RowKit
set_option linter.unusedVariables false

theorem rd_own {k : IntKind} {w : World} {B : Nat} {e : TypeId} {v : Value} {n : Nat} {xs : List Int} (h : w.ownsRow B e 1 v n (xs.map (Value.int k))) :
    ∃ a cap, v = .slice a n cap ∧ n ≤ cap ∧ cap ≤ 9223372036854775807 ∧ Rd k w a n xs := by
  have hl : xs.length = n := by simpa using h.1
  rcases h.2 with ⟨rfl, rfl⟩ | ⟨g, cap, cur, rfl, hb, hg, hn, hm, hs, ht⟩
  · exact ⟨none, 0, rfl, by omega, by omega, hl, fun hp => absurd hp (by omega)⟩
  · refine ⟨_, cap, rfl, hn, by simpa [maxLen] using hm, hl, fun hp => ⟨g, 0, rfl, fun i hi => ?_⟩⟩
    rw [cell_of_row w g (0 + i) cur e (0, 0) hg]
    have h1 : (cur.toList.take (n * 1))[i]? = (xs.map (Value.int k))[i]? := by rw [ht]
    rw [List.getElem?_take, if_pos (by omega)] at h1
    simp at h1 ⊢
    rw [h1]
    simp [show i < xs.length by omega]

theorem conv_str {w : World} {a : Option Addr} {len cap : Nat} {xs : List Int} (h : Rd .u8 w a len xs) :
    (convert 23 9 (.slice a len cap)).run Try.prog w = .ok (.string (strOfNums xs)) w := by
  obtain ⟨hl, hc⟩ := h
  by_cases hz : len = 0
  · subst hz
    obtain rfl : xs = [] := by cases xs with
      | nil => rfl
      | cons _ _ => simp at hl
    rw [run_convert_bytes_string w _ _ 5 _ 0 cap Try.underlying23 Try.underlying5 Try.underlying9]
    cases a <;> simp [Conv.bytesToString, loadCells]
    all_goals rfl
  · obtain ⟨b, off, rfl, hcc⟩ := hc (by omega)
    exact run_convert_bytes_arg w 23 5 Try.underlying23 Try.underlying5 b off len cap xs hl hcc 9 Try.underlying9

theorem encode_ok (l : List Int) (a : Option Addr) (len cap : Nat) (w : World) (hlen : len ≤ 100000000000) (hrd : Rd .i32 w a len l) (hok : oks l = true) :
    Calls Try.prog 10 #[.slice a len cap] w fun e w' => Below w.heap.size w w' ∧ ∃ a' cap', e = .returned (.tuple #[.slice a' (encs l).length cap', .int .i64 0]) ∧ (encs l).length ≤ cap' ∧ cap' ≤ 9223372036854775807 ∧ Rd .u8 w' a' (encs l).length (encs l) := by
  refine (encode_any l a len cap w hlen hrd).mono fun e w' ⟨hb, h⟩ => ⟨hb, ?_⟩
  rcases h with ⟨h, _⟩ | ⟨_, v, he, ho⟩
  · rw [hok] at h; cases h
  · obtain ⟨a', cap', rfl, h1, h2, h3⟩ := rd_own ho
    exact ⟨a', cap', he, h1, h2, h3⟩
theorem encode_bad (l : List Int) (a : Option Addr) (len cap : Nat) (w : World) (hlen : len ≤ 100000000000) (hrd : Rd .i32 w a len l) (hok : oks l = false) :
    Calls Try.prog 10 #[.slice a len cap] w fun e w' => Below w.heap.size w w' ∧ e = .returned (.tuple #[.slice none 0 0, .int .i64 1]) := by
  refine (encode_any l a len cap w hlen hrd).mono fun e w' ⟨hb, h⟩ => ⟨hb, ?_⟩
  rcases h with ⟨_, h⟩ | ⟨h, _⟩
  · exact h
  · rw [hok] at h; cases h
theorem decode_ok (bs : List Int) (a : Option Addr) (len cap : Nat) (w : World) (cs : List Int) (hcap : len ≤ cap) (hm : cap ≤ 9223372036854775807) (hlen : len ≤ 100000000000) (hr : ∀ y ∈ bs, 0 ≤ y ∧ y ≤ 255) (hrd : Rd .u8 w a len bs) (hok : dec bs = some cs) :
    Calls Try.prog 14 #[.slice a len cap] w fun e w' => Below w.heap.size w w' ∧ ∃ a' cap', e = .returned (.tuple #[.slice a' cs.length cap', .int .i64 0]) ∧ cs.length ≤ cap' ∧ cap' ≤ 9223372036854775807 ∧ Rd .i32 w' a' cs.length cs := by
  refine (decode_any bs a len cap w hcap hm hlen hr hrd).mono fun e w' ⟨hb, h⟩ => ⟨hb, ?_⟩
  rcases h with ⟨h, _⟩ | ⟨cs', v, hd, _, he, ho⟩
  · rw [hok] at h; cases h
  · rw [hok] at hd; cases hd
    obtain ⟨a', cap', rfl, h1, h2, h3⟩ := rd_own ho
    exact ⟨a', cap', he, h1, h2, h3⟩
theorem decode_bad (bs : List Int) (a : Option Addr) (len cap : Nat) (w : World) (hcap : len ≤ cap) (hm : cap ≤ 9223372036854775807) (hlen : len ≤ 100000000000) (hr : ∀ y ∈ bs, 0 ≤ y ∧ y ≤ 255) (hrd : Rd .u8 w a len bs) (hok : dec bs = none) :
    Calls Try.prog 14 #[.slice a len cap] w fun e w' => Below w.heap.size w w' ∧ e = .returned (.tuple #[.slice none 0 0, .int .i64 2]) := by
  refine (decode_any bs a len cap w hcap hm hlen hr hrd).mono fun e w' ⟨hb, h⟩ => ⟨hb, ?_⟩
  rcases h with ⟨_, h⟩ | ⟨cs', v, hd, _⟩
  · exact h
  · rw [hok] at hd; cases hd

theorem rd_two (k : IntKind) (w : World) (x y : Int) (t : TypeId) (H : Nat) (hH : w.heap.size = H) : Rd k (w.alloc (.cells #[.int k x, .int k y] t)) (some ⟨H, 0, none⟩) 2 [x, y] := by
  subst hH
  refine ⟨rfl, fun _ => ⟨w.heap.size, 0, rfl, fun i hi => ?_⟩⟩
  rw [cell_of_row _ w.heap.size (0 + i) _ _ _ (heap_alloc_new w _)]
  rcases (by omega : i = 0 ∨ i = 1) with rfl | rfl <;> rfl

theorem dec_shown : dec [97, 195, 169] = some [97, 233] := by
  rw [dec_ok 97 [195, 169] (by decide), show first [97, 195, 169] = (97, 1, 0) by decide]
  show (dec [195, 169]).map _ = _
  rw [dec_ok 195 [169] (by decide), show first [195, 169] = (233, 2, 0) by decide]
  show ((dec []).map _).map _ = _
  rw [dec_nil]
  rfl

theorem shown_any (w : World) : Calls Try.prog 9 #[] w fun e w' => e = .returned (.bool true) ∧ Below w.heap.size w w' := by
  go_enter Try.func9, Try.ntmps9
  go_wp2_with fail
  refine (encode_ok [97, 233] _ _ _ _ (by omega) (rd_two .i32 w 97 233 _ _ rfl) (by decide)).mono ?_
  rintro e w1 ⟨hb1, a1, cap1, rfl, hc1, hm1, hrd1⟩
  have HB1 : Hid (Below w.heap.size w w1) := ((Below.refl _ w).alloc (Nat.le_refl _) _).trans (hb1.mono (by simp))
  clear hb1
  have e1 : (encs [97, 233]) = [97, 195, 169] := by decide
  rw [e1] at hrd1 hc1 ⊢
  have HR1 : Hid (Rd .u8 w1 a1 3 [97, 195, 169]) := hrd1
  have hc1' : 3 ≤ cap1 := hc1
  simp only [List.length_cons, List.length_nil, Nat.zero_add, Nat.reduceAdd]
  clear hrd1 e1 hc1
  go_wp2_with fail
  refine (first_any [226, 130] _ _ _ _ (by omega) (by omega) (by decide) (rd_two .u8 w1 226 130 _ _ rfl)).mono ?_
  rw [show first [226, 130] = (0, 0, 6) by decide]
  rintro e w2 ⟨rfl, rfl⟩
  go_wp2_with fail
  refine (first_any [192, 128] _ _ _ _ (by omega) (by omega) (by decide) (rd_two .u8 _ 192 128 _ _ (by simp))).mono ?_
  rw [show first [192, 128] = (0, 0, 2) by decide]
  rintro e w3 ⟨rfl, rfl⟩
  have HB2 : ∀ o1 o2 : Obj, Below w1.heap.size w1 ((w1.alloc o1).alloc o2) := fun o1 o2 => ((Below.refl _ w1).alloc (Nat.le_refl _) o1).alloc (by simp) o2
  go_wp2_with fail
  refine (decode_ok [97, 195, 169] _ _ _ _ [97, 233] hc1' hm1 (by simp) (by decide) (HR1.out.later (HB2 _ _)) dec_shown).mono ?_
  rintro e w4 ⟨hb4, a4, cap4, rfl, hc4, hm4, hrd4⟩
  have HB4 : Hid (Below w1.heap.size w1 w4) := (HB2 _ _).trans (hb4.mono (by simp; omega))
  have hcv := conv_str (cap := cap1) (HR1.out.later HB4.out)
  have hst : strOfNums [97, 195, 169] = ⟨#[97, 195, 169]⟩ := by decide
  rw [hst] at hcv
  have hsz14 := HB4.out.size
  clear hb4 hrd4 HB2 HR1 hst
  go_wp2_with (first | (go_at_call 17; refine (size_any _ _).mono ?_; rw [show sz 1114111 = 4 by decide]; rintro e w' ⟨rfl, rfl⟩) | (go_at_call 19; refine (tail_any [97, 226] _ _ _ _ (by omega) (by omega) (by decide) (rd_two .u8 _ 97 226 _ _ rfl)).mono ?_; rw [show tail8 [97, 226] = 1 by decide]; rintro e w' ⟨rfl, rfl⟩))
  go_ret
  refine ⟨rfl, ?_⟩
  exact (HB1.out.trans (HB4.out.mono HB1.out.size)).alloc (by have := HB1.out.size; have := HB4.out.size; omega) _
end Go.Proofs.Ytdoflmgdmcmmfaa
