/- HoldPlays: what both holds answer is the same. -/
import Derived.Test.YtcbnmahbdcjamaaHoRm
import Derived.Test.YtcbnmahbdcjamaaHoSt
namespace Go.Proofs.Ytcbnmahbdcjamaa
open Go.RowKit Go.Sort
set_option linter.unusedVariables false
set_option linter.unusedSimpArgs false

abbrev nbK (_ : Nat) : Prop := False
theorem perm_has {l M : List Opn} (hp : l.Perm M) (a s : Int) : hasK l a s = hasK M a s := by
  rw [Bool.eq_iff_iff, hasK_iff, hasK_iff]
  constructor
  · rintro ⟨x, h1, h2⟩; exact ⟨x, hp.mem_iff.1 h1, h2⟩
  · rintro ⟨x, h1, h2⟩; exact ⟨x, hp.mem_iff.2 h1, h2⟩
theorem perm_add {l M : List Opn} (hp : l.Perm M) (r : Nat) (o : Opn) : addE l r o = rfE M r o ∧ (addK l r o).Perm (rfA M r o) := by
  have h1 := perm_has hp o.a o.s
  have h2 := hp.length_eq
  unfold addE rfE addK rfA
  rw [h1, h2]
  by_cases h : M.length < r
  · have h' : ¬ r ≤ M.length := by omega
    cases hasK M o.a o.s
    · refine ⟨by simp [h, h'], ?_⟩
      have e1 : (if false = true then l else if M.length < r then putK l o else l) = putK l o := by simp [h]
      have e2 : (if false = true then M else if r ≤ M.length then M else M ++ [o]) = M ++ [o] := by simp [h']
      rw [e1, e2]
      refine (putK_perm l o).trans ?_
      exact (hp.cons o).trans (List.perm_append_singleton o M).symm
    · exact ⟨by simp, by simpa using hp⟩
  · have h' : r ≤ M.length := by omega
    cases hasK M o.a o.s
    · exact ⟨by simp [h, h'], by simpa [h, h'] using hp⟩
    · exact ⟨by simp, by simpa using hp⟩
/-- What is written over, cell by cell. -/
def RowW (W : World) (a : Option Addr) (m : Nat) : Prop := 0 < m → ∃ g cur, a = some ⟨g, 0, none⟩ ∧ W.heap[g]? = some (.cells cur 34) ∧ m * 7 ≤ cur.size
theorem RowW.later {W W' : World} {a : Option Addr} {m : Nat} (h : RowW W a m) (hb : Below W.heap.size W W') : RowW W' a m := fun hm => by
  obtain ⟨g, cur, h1, h2, h3⟩ := h hm
  exact ⟨g, cur, h1, bel_heap hb h2, h3⟩
theorem rowW_own {W : World} {B m c : Nat} {a : Option Addr} {xs : List Value} (h : W.ownsRow B 34 7 (.slice a m c) m xs) : RowW W a m := fun hm => by
  rcases h.2 with ⟨_, h0⟩ | ⟨g, cap, cur, hv, hb, hg, hn, hmm, hs, ht⟩
  · omega
  · cases hv; exact ⟨g, cur, rfl, hg, by omega⟩
theorem rowW_at {W : World} {g m k : Nat} {cur : Array Value} (hg : W.heap[g]? = some (.cells cur 34)) (hs : m * 7 ≤ cur.size) (hk : k < m) : (∃ u, W.cell? ⟨g, k * 7 + 2, none⟩ = some u) ∧ W.frozen? ⟨g, k * 7 + 2, none⟩ = false ∧ ∀ x, RowW (W.setCell ⟨g, k * 7 + 2, none⟩ x) (some ⟨g, 0, none⟩) m := by
  refine ⟨?_, Lib.frozen_of_heap hg _, fun x _ => ⟨g, _, rfl, heap_setCell W g (k * 7 + 2) x cur _ (0, 0) hg, by simpa using hs⟩⟩
  rw [cell_of_row W g (k * 7 + 2) _ _ _ hg, Array.getElem?_eq_getElem (by omega)]
  exact ⟨_, rfl⟩
section
variable {w : World} {P r T : Nat}
/-- Ready and ready tell the same. -/
theorem ready_pair {l M : List Opn} (hp : l.Perm M) (hl : l.length ≤ 1000) (hA : AscK l) (n : Int) (N : Nat) :
    ∃ (X : Opn) (z : Bool) (l2 M2 : List Opn), l2.Perm M2 ∧ l2.length ≤ l.length ∧
      (∀ W, HpS w W P r T l M (fun k => k = N) → W.heap[N]? = some (bxI n) → Calls Try.prog 39 #[.pointer (some ⟨P, 0, none⟩), .func (.func 38) #[] #[.pointer (some ⟨N, 0, none⟩)]] W fun e w' => e = .returned (.tuple #[.agg #[.int .i64 X.c, .int .i64 X.a, .int .i64 X.s, .bool X.ins, .int .i64 X.rc, .int .i64 X.ra, .int .i32 X.ch], .bool z]) ∧ HpS w w' P r T l2 M (fun k => k = N) ∧ w'.heap[N]? = some (bxI n)) ∧
      (∀ W bs, HpS w W P r T l2 M bs → Calls Try.prog 40 #[.pointer (some ⟨T, 0, none⟩), .int .i64 n] W fun e w' => e = .returned (.tuple #[.agg #[.int .i64 X.c, .int .i64 X.a, .int .i64 X.s, .bool X.ins, .int .i64 X.rc, .int .i64 X.ra, .int .i32 X.ch], .bool z]) ∧ HpS w w' P r T l2 M2 bs ∧ ∀ k, bs k → w'.heap[k]? = W.heap[k]?) := by
  have hM : M.length ≤ 1000 := by rw [← hp.length_eq]; exact hl
  cases hf : l.find? (rdP n) with
  | none =>
    refine ⟨op0, false, l, M, hp, Nat.le_refl _, fun W h hN => (hp_ready h _ _ _ (ask_may N n W hN)).mono ?_, fun W bs h => (hp_lready h hA hp hM n).mono ?_⟩
    · rintro e w' (⟨o, q, _⟩ | ⟨_, rfl, q1, q2⟩)
      · rw [hf] at q; cases q
      · exact ⟨rfl, q1, (q2 N rfl).trans hN⟩
    · rintro e w' (⟨o, q, _⟩ | ⟨_, rfl, q1, q2⟩)
      · rw [hf] at q; cases q
      · exact ⟨rfl, q1, q2⟩
  | some o =>
    refine ⟨o, true, remK l o.a o.s, remK M o.a o.s, hp.filter _, List.length_filter_le _ _, fun W h hN => (hp_ready h _ _ _ (ask_may N n W hN)).mono ?_, fun W bs h => (hp_lready h hA hp hM n).mono ?_⟩
    · rintro e w' (⟨o2, q, rfl, q1, q2⟩ | ⟨q, _⟩)
      · rw [hf] at q; cases q
        exact ⟨rfl, q1, (q2 N rfl).trans hN⟩
      · rw [hf] at q; cases q
    · rintro e w' (⟨o2, q, rfl, q1, q2⟩ | ⟨q, _⟩)
      · rw [hf] at q; cases q
        exact ⟨rfl, q1, q2⟩
      · rw [hf] at q; cases q
/-- Drop and drop tell the same. -/
theorem drop_pair {l M : List Opn} (hp : l.Perm M) (hl : l.length ≤ 1000) (hA : AscK l) (n : Int) (N : Nat) :
    ∃ (c : Int) (l2 : List Opn), l2.length ≤ l.length ∧
      (∀ W, HpS w W P r T l M (fun k => k = N) → W.heap[N]? = some (bxI n) → Calls Try.prog 42 #[.pointer (some ⟨P, 0, none⟩), .func (.func 41) #[] #[.pointer (some ⟨N, 0, none⟩)]] W fun e w' => e = .returned (.int .i64 c) ∧ HpS w w' P r T l2 M (fun k => k = N) ∧ w'.heap[N]? = some (bxI n)) ∧
      (∀ W, HpS w W P r T l2 M (fun k => k = N) → W.heap[N]? = some (bxI n) → Calls Try.prog 43 #[.pointer (some ⟨T, 0, none⟩), .int .i64 n] W fun e w' => e = .returned (.int .i64 c) ∧ ∃ M2, l2.Perm M2 ∧ HpS w w' P r T l2 M2 (fun k => k = N) ∧ w'.heap[N]? = some (bxI n)) := by
  have hM : M.length ≤ 1000 := by rw [← hp.length_eq]; exact hl
  refine ⟨((l.filter fun x => decide (x.s ≤ n)).length : Int), l.filter fun x => !decide (x.s ≤ n), List.length_filter_le _ _, fun W h hN => (hp_drop h _ _ _ (ask_old N n W hN)).mono ?_, fun W h hN => (hp_ldrop h hA hp hM n).mono ?_⟩
  · rintro e w' ⟨rfl, q1, q2⟩
    exact ⟨by rw [two_parts], q1, (q2 N rfl).trans hN⟩
  · rintro e w' ⟨rfl, M2, q1, q2, q3⟩
    exact ⟨rfl, M2, q1, q2, (q3 N rfl).trans hN⟩
end
theorem hp_new {w w1 w2 : World} {P r : Nat} (h : HoO w w1 P r [] nbK) (hR : RfH w2 w1.heap.size w1.heap.size r [] (.slice none 0 0)) (hb : Below w1.heap.size w1 w2) : HpS w w2 P r w1.heap.size [] [] nbK :=
  ⟨_, h.more hb (fun k hk => by
    rcases hk with (hk | hk) | hk
    · subst hk; exact .inr ⟨Nat.le_refl _, (Array.getElem?_eq_some_iff.1 hR.box).1⟩
    · cases hk
    · exact hk.elim), ⟨h.below.size, hR.box, World.ownsRow_nil _ _ _ _⟩, fun k hk => hk.elim⟩
end Go.Proofs.Ytcbnmahbdcjamaa
