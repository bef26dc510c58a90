/- The walks of an index's New, Seen, Rank, Select. -/
import Derived.Test.YtcbnmahbdcjamaaIxC
namespace Go.Proofs.Ytcbnmahbdcjamaa
open Go.RowKit
set_option linter.unusedVariables false
set_option linter.unusedSimpArgs false

/-- An index without marks. -/
def IxNew (W : World) : World := W.alloc (.cells #[.int .i64 0, .int .i64 0, .slice none 0 0] 143)
theorem new_any (W : World) : Calls Try.prog 54 #[] W fun e w' => e = .returned (.pointer (some ⟨W.heap.size, 0, none⟩)) ∧ w' = IxNew W := by
  unfold IxNew
  go_enter Try.func54, Try.ntmps54
  go_wp2
  go_ret
  exact ⟨rfl, rfl⟩
theorem new_at (W : World) (B : Nat) (hB : B ≤ W.heap.size) : IxAt (IxNew W) W.heap.size B (.slice none 0 0) [] :=
  ⟨[], fun b hb => by simp at hb, rfl, heap_alloc_new W _, World.ownsRow_nil _ _ _ _, by simp [Value.ownBlock], hB⟩
theorem new_below (W : World) : Below W.heap.size W (IxNew W) := (Below.refl _ W).alloc (Nat.le_refl _) _
/-- Whether a mark is seen, wherever. -/
def seenB (L : List Bool) (a : Int) : Bool := decide (0 ≤ a) && L.getD a.toNat false
set_option maxHeartbeats 1000000 in
theorem seen_any (P B : Nat) (v : Value) (L : List Bool) (a : Int) (W : World) (h : IxAt W P B v L) (hL : L.length ≤ 100000) :
    Calls Try.prog 66 #[.pointer (some ⟨P, 0, none⟩), .int .i64 a] W fun e w' => e = .returned (.bool (seenB L a)) ∧ w' = W := by
  obtain ⟨Bs, hg, hf, hx⟩ := h
  have hbl : Bs.length ≤ L.length := by
    rw [← hf]
    clear hx hf
    induction Bs with
    | nil => simp
    | cons b r ih =>
      have h1 := (hg b (by simp)).1
      have h2 := ih (fun x hx => hg x (by simp [hx]))
      rw [List.flatten_cons, List.length_append, List.length_cons]
      omega
  have HH : Hid (Calls Try.prog 113 #[.pointer (some ⟨P, 0, none⟩), .int .i64 a] W fun e w' => e = .returned (.bool (hasI L.length a)) ∧ w' = W) := thas_any L.length a P 0 W hx.cells.1
  obtain ⟨_, _, c2, _⟩ := hx.cells
  by_cases hin : 0 ≤ a ∧ a < (L.length : Int)
  · obtain ⟨n, rfl⟩ : ∃ n : Nat, a = (n : Int) := ⟨a.toNat, by omega⟩
    have hh : hasI L.length (n : Int) = true := by unfold hasI; simp only [decide_eq_true hin.1, decide_eq_true hin.2, Bool.true_and]
    rw [hh] at HH
    obtain ⟨i, p, f1, f2, f3, f4⟩ := fnd_in Bs n (by rw [hf]; omega)
    have HF : Hid (Calls Try.prog 114 #[.pointer (some ⟨P, 0, none⟩), .int .i64 (n : Int)] W fun e w' => e = .returned (.tuple #[.int .i64 (i : Int), .int .i64 (p : Int)]) ∧ w' = W) := by
      have := find_any P B _ _ v Bs (n : Int) W hx (by omega) (by omega) (by omega)
      rw [f1] at this
      exact this
    obtain ⟨g, cap, A, D, rfl, hb, _, hcap, hcm, _⟩ := own_blk hx.2.1 i f2
    have HS : Hid (Calls Try.prog 115 #[.pointer (some ⟨g, i * 3, none⟩), .int .i64 (p : Int)] W fun e w' => e = .returned (.bool (seenB L (n : Int))) ∧ w' = W) := by
      have := sees_any (Bs.getD i []) p g (i * 3) A D W f3 (good_at hg i f2).2 hb
      rw [← getD_flat Bs i p f2 f3, ← f4, hf] at this
      have e : seenB L (n : Int) = L.getD n false := by unfold seenB; rw [decide_eq_true (by omega), Bool.true_and]; rfl
      rw [e]
      exact this
    have hi0 : (0 : Int) ≤ (i : Int) := by omega
    have hi1 : (i : Int) < (Bs.length : Int) := by omega
    generalize Bs.length = N at c2 hi1
    generalize seenB L (n : Int) = R at HS ⊢
    clear hx hg hf hin hh hL hbl f1 f2 f3 f4 hb hcap
    go_enter Try.func66, Try.ntmps66
    go_wp2_with (first | (go_at_call 113; refine HH.out.mono ?_; rintro e w' ⟨rfl, rfl⟩) | (go_at_call 114; refine HF.out.mono ?_; rintro e w' ⟨rfl, rfl⟩) | (go_at_call 115; refine HS.out.mono ?_; rintro e w' ⟨rfl, rfl⟩))
    go_ret
    exact ⟨rfl, rfl⟩
  · have hh : hasI L.length a = false := by
      unfold hasI
      rw [← Bool.decide_and]
      exact decide_eq_false hin
    rw [hh] at HH
    have e : seenB L a = false := by
      unfold seenB
      by_cases h0 : 0 ≤ a
      · have : L.length ≤ a.toNat := by omega
        rw [List.getD_eq_getElem?_getD, List.getElem?_eq_none this]; simp
      · rw [decide_eq_false h0]; rfl
    rw [e]
    clear hx hg hf hin hh hL hbl e c2
    go_enter Try.func66, Try.ntmps66
    go_wp2_with (first | (go_at_call 113; refine HH.out.mono ?_; rintro e w' ⟨rfl, rfl⟩))
    go_ret
    exact ⟨rfl, rfl⟩
theorem blocks_le {Bs : List (List Bool)} {L : List Bool} (hg : GoodB Bs) (hf : Bs.flatten = L) : Bs.length ≤ L.length := by
  rw [← hf]
  clear hf
  induction Bs with
  | nil => simp
  | cons b r ih =>
    have h1 := (hg b (by simp)).1
    have h2 := ih (fun x hx => hg x (by simp [hx]))
    rw [List.flatten_cons, List.length_append, List.length_cons]
    omega
theorem max_run (x y : Int) (W : World) : (Builtin.max_ #[3, 3] 3 #[.int .i64 x, .int .i64 y]).run Try.prog W = .ok (.int .i64 (max x y)) W := by
  rw [run_max_int2]
  congr 2
  split <;> omega
theorem cntA_le (Bs : List (List Bool)) (i : Nat) : cntA Bs i ≤ Bs.flatten.length ∧ (Bs.take i).flatten.length ≤ Bs.flatten.length := by
  unfold cntA
  have h1 := cnt_le (Bs.take i).flatten
  have h2 := congrArg List.length (congrArg List.flatten (List.take_append_drop i Bs))
  rw [List.flatten_append, List.length_append] at h2
  omega
/-- What Select tells. -/
def selI (L : List Bool) (k : Int) : Int := if 0 ≤ k ∧ k < (cnt L : Int) then (sel L k.toNat : Int) else 0
def selB (L : List Bool) (k : Int) : Bool := decide (0 ≤ k) && decide (k < (cnt L : Int))
end Go.Proofs.Ytcbnmahbdcjamaa
