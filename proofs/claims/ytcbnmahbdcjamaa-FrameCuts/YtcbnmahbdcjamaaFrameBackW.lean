/- The walk of FrameBack. -/
import Derived.Test.YtcbnmahbdcjamaaFrBm
namespace Go.Proofs.Ytcbnmahbdcjamaa
open Go.RowKit
set_option linter.unusedVariables false
set_option linter.unusedSimpArgs false

theorem bytes_min (f : Frm) : 12 ≤ (bytesN (cutF f)).length := by
  have h1 : (bytesN (cutF f)).length = 6 + (pt (bodyN (cutF f))).length := wrapN_len _
  have h2 := pt_len (bodyN (cutF f))
  have h3 : (numN (cutF f)).length ≤ (bodyN (cutF f)).length := pks_len (numN (cutF f))
  have h4 : 5 ≤ (numN (cutF f)).length := by rw [numN]; simp only [List.length_append, List.length_cons, List.length_nil]; omega
  have h5 := pk_len ((bodyN (cutF f)).length : Nat)
  omega
/-- Of, of bytes that are no frame's. -/
theorem of_no (bs : List Int) (a : Option Addr) (n c : Nat) (W : World) (h0 : ofN bs = none) (hb : Byt bs) (hr : Rd .u8 W a n bs) (hc : n ≤ c) (hn : n ≤ 100000) : Calls Try.prog 34 #[.slice a n c] W fun e w' => e = .returned (.tuple #[frV 0 0 none 0 0 none 0 0 0, .int .i64 2]) ∧ Below W.heap.size W w' :=
  (frOf_any bs a n c W hb hr hc hn).mono fun e w' h => ⟨h.2.1 h0, h.1⟩
theorem own_u8 (W : World) : (W.alloc (.cells #[] 5)).ownsRow W.heap.size 5 1 (.slice (some ⟨W.heap.size, 0, none⟩) 0 0) 0 (([] : List Int).map (Value.int .u8)) := World.ownsRow_made W #[] 0 (Nat.le_refl _) (by simp [maxLen]) rfl
theorem own_cells {w : World} {B L : Nat} {v : Value} {xs : List Int} (h : w.ownsRow B 5 1 v L (xs.map (Value.int .u8))) (hL : 0 < L) : ∃ g c cur, v = .slice (some ⟨g, 0, none⟩) L c ∧ L ≤ c ∧ B ≤ g ∧ w.heap[g]? = some (.cells cur 5 (0, 0)) ∧ Rd .u8 w (some ⟨g, 0, none⟩) L xs := by
  obtain ⟨a, c, e, hc, _, hr, _⟩ := rd_own2 h
  rcases h.2 with ⟨_, h0⟩ | ⟨g, cap, cur, hv, hb, hg, hn, hm, hs, ht⟩
  · omega
  · rw [hv] at e
    cases e
    exact ⟨g, _, cur, hv, hc, hb, hg, hr⟩
theorem rd_set {w : World} {g L : Nat} {cur : Array Value} {xs : List Int} (hg : w.heap[g]? = some (.cells cur 5 (0, 0))) (hr : Rd .u8 w (some ⟨g, 0, none⟩) L xs) (k : Nat) (hk : k < L) (y : Int) : Rd .u8 (w.setCell ⟨g, k, none⟩ (.int .u8 y)) (some ⟨g, 0, none⟩) L (xs.set k y) := by
  refine ⟨by rw [List.length_set]; exact hr.1, fun hp => ⟨g, 0, rfl, fun i hi => ?_⟩⟩
  obtain ⟨b, off, e, hc⟩ := hr.2 hp
  cases e
  have h1 := hc i hi
  have hlen := hr.1
  rw [cell_of_row w g _ _ _ _ hg] at h1
  rw [cell_of_row _ g _ _ _ _ (heap_setX w g k _ _ _ _ hg)]
  rw [Nat.zero_add] at h1 ⊢
  by_cases hik : k = i
  · subst hik
    have hlt : k < cur.size := by
      rcases Nat.lt_or_ge k cur.size with h | h
      · exact h
      · rw [Array.getElem?_eq_none h] at h1; cases h1
    rw [Array.getElem?_setIfInBounds_self_of_lt hlt]
    simp [show k < xs.length by omega]
  · rw [Array.getElem?_setIfInBounds_ne hik, h1]
    simp [List.getElem?_set, hik]
end Go.Proofs.Ytcbnmahbdcjamaa
