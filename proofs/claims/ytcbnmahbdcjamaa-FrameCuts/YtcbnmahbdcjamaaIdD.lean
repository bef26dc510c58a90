/- The walks of the library's Clone of entries, and of With. -/
import Derived.Test.YtcbnmahbdcjamaaIdI
import Derived.Deep.DeepCutAuto
namespace Go.Proofs.Ytcbnmahbdcjamaa
open Go.RowKit Go.Sort
set_option linter.unusedVariables false

theorem own_gen {w w' : World} {B : Nat} {e : TypeId} {size : Nat} {v : Value} {n : Nat} {xs : List Value} (h : w.ownsRow B e size v n xs) (hb : Below w.heap.size w w') : w'.ownsRow B e size v n xs :=
  h.kept (row := none) ⟨hb.os, hb.tape, hb.output, hb.size, fun k hk _ => hb.block k hk⟩ (Classical.em _)
theorem rdE_own {w : World} {B : Nat} {e : TypeId} {v : Value} {n : Nat} {rs : List (Int × Int)} (h : w.ownsRow B e 2 v n (flatE rs)) :
    ∃ a cap, v = .slice a n cap ∧ n ≤ cap ∧ cap ≤ 9223372036854775807 ∧ RdE w a n rs ∧ (a = none → cap = 0) := by
  have hl : rs.length = n := by have := h.1; rw [flatE_len] at this; omega
  rcases h.2 with ⟨rfl, rfl⟩ | ⟨g, cap, cur, rfl, hb, hg, hn, hm, hs, ht⟩
  · exact ⟨none, 0, rfl, by omega, by omega, ⟨hl, fun hp => absurd hp (by omega)⟩, fun _ => rfl⟩
  · refine ⟨_, cap, rfl, hn, by simpa [maxLen] using hm, ⟨hl, fun hp => ⟨g, 0, rfl, fun j u hu => ?_⟩⟩, fun h => by cases h⟩
    rw [Nat.zero_add, cell_of_row w g j cur e (0, 0) hg]
    rw [← ht, List.getElem?_take] at hu
    split at hu
    · simpa using hu
    · cases hu
theorem flatE_set : (v : List (Int × Int)) → (i : Nat) → i < v.length → ∀ m, flatE (v.set i ((v.getD i (0, 0)).1, m)) = (flatE v).set (2 * i + 1) (.int .i64 m)
  | [], i, h, _ => by simp at h
  | x :: r, 0, _, m => rfl
  | x :: r, i + 1, h, m => by
    have ih := flatE_set r i (by simpa using h) m
    rw [List.set_cons_succ, flatE_one, flatE_one, show 2 * (i + 1) + 1 = (2 * i + 1) + 2 by omega]
    have e : ((x :: r).getD (i + 1) (0, 0)) = r.getD i (0, 0) := by simp
    rw [e, ih]
    rfl
theorem own_set {w : World} {B g n cap : Nat} {e : TypeId} {v : List (Int × Int)} (h : w.ownsRow B e 2 (.slice (some ⟨g, 0, none⟩) n cap) n (flatE v)) (i : Nat) (hi : i < n) (m : Int) :
    (w.setCell ⟨g, i * 2 + 1, none⟩ (.int .i64 m)).ownsRow B e 2 (.slice (some ⟨g, 0, none⟩) n cap) n (flatE (v.set i ((v.getD i (0, 0)).1, m))) := by
  have hl : v.length = n := by have := h.1; rw [flatE_len] at this; omega
  rcases h.2 with ⟨h0, _⟩ | ⟨g', cap', cur, hv, hb, hg, hn, hm, hs, ht⟩
  · cases h0
  · cases hv
    refine ⟨by rw [flatE_len]; simp; omega, .inr ⟨g, cap, _, rfl, hb, heap_setCell w g (i * 2 + 1) _ cur e (0, 0) hg, hn, hm, by simpa using hs, ?_⟩⟩
    rw [flatE_set v i (by omega) m, ← ht, show i * 2 + 1 = 2 * i + 1 by omega]
    simp [List.take_set]
theorem own_at {w : World} {B n cap : Nat} {a : Option Addr} {e : TypeId} {v : List (Int × Int)} (h : w.ownsRow B e 2 (.slice a n cap) n (flatE v)) (i : Nat) (hi : i < n) :
    ∃ g, a = some ⟨g, 0, none⟩ ∧ w.cell? ⟨g, i * 2, none⟩ = some (.int .i64 (v.getD i (0, 0)).1) ∧ w.cell? ⟨g, i * 2 + 1, none⟩ = some (.int .i64 (v.getD i (0, 0)).2) ∧ w.frozen? ⟨g, i * 2 + 1, none⟩ = false ∧ B ≤ g := by
  obtain ⟨a', cap', hv, _, _, hr, _⟩ := rdE_own h
  cases hv
  rcases h.2 with ⟨h0, h1⟩ | ⟨g', cap', cur, hv, hb, hg, hn, hm, hs, ht⟩
  · omega
  · cases hv
    obtain ⟨b, off, hab, c0, c1⟩ := hr.at i hi
    cases hab
    simp only [Nat.zero_add] at c0 c1
    exact ⟨g', rfl, c0, c1, Lib.frozen_of_heap hg _, hb⟩
theorem max_run (x y : Int) (W : World) : (Builtin.max_ #[3, 3] 3 #[.int .i64 x, .int .i64 y]).run Try.prog W = .ok (.int .i64 (max x y)) W := by
  rw [run_max_int2]
  congr 2
  split <;> omega
/-- What With leaves: a row of the call's own. -/
def RowP (rs : List (Int × Int)) (w : World) (e : Ending) (w' : World) : Prop :=
  ∃ v, e = .returned v ∧ w'.ownsRow w.heap.size 107 2 v rs.length (flatE rs) ∧ Below w.heap.size w w'
end Go.Proofs.Ytcbnmahbdcjamaa
