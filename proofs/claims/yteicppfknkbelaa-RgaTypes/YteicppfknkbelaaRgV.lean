/- The walks of Ops (the library's Clone of operations) and Vector (the library's Sorted over a map's keys). -/
import Derived.Test.YteicppfknkbelaaRgK
import Derived.Test.YteicppfknkbelaaRiI
import Derived.Test.YteicppfknkbelaaShelfH
namespace Go.Proofs.Yteicppfknkbelaa
open Go.RowKit Go.Shelf Go.Maps Go.Sort
set_option linter.unusedVariables false
set_option linter.unusedSimpArgs false

/-- A slice that reads as operations. -/
def RdP (w : World) (a : Option Addr) (n : Nat) (l : List Opn) : Prop :=
  l.length = n ∧ (0 < n → ∃ b off, a = some ⟨b, off, none⟩ ∧ ∀ j u, (flatP l)[j]? = some u → w.cell? ⟨b, off + j, none⟩ = some u)
theorem RdP.later {w w' : World} {a : Option Addr} {n : Nat} {l : List Opn} (h : RdP w a n l) (hb : Below w.heap.size w w') : RdP w' a n l := by
  refine ⟨h.1, fun h0 => ?_⟩
  obtain ⟨b, off, ha, hc⟩ := h.2 h0
  exact ⟨b, off, ha, fun j u hu => hb.cell (World.block_lt_of_cell? w _ (hc j u hu)) ▸ hc j u hu⟩
theorem flatP_at : (l : List Opn) → (i : Nat) → i < l.length → ∀ j, j < 7 → (flatP l)[i * 7 + j]? = (encP (l.getD i op0))[j]?
  | [], i, h, _, _ => absurd h (by simp)
  | x :: r, 0, _, j, hj => by
    have e : flatP (x :: r) = encP x ++ flatP r := by simp [flatP]
    rw [e, Nat.zero_mul, Nat.zero_add, List.getElem?_append_left (by show j < 7; omega)]; rfl
  | x :: r, i + 1, h, j, hj => by
    have e : flatP (x :: r) = encP x ++ flatP r := by simp [flatP]
    have h3 : (encP x).length = 7 := rfl
    rw [e, List.getElem?_append_right (by omega), h3, show (i + 1) * 7 + j - 7 = i * 7 + j by omega, flatP_at r i (by simpa using h) j hj]
    rfl
/-- One operation of a row. -/
theorem RdP.at {w : World} {a : Option Addr} {n : Nat} {l : List Opn} (h : RdP w a n l) (i : Nat) (hi : i < n) : ∃ b off, a = some ⟨b, off, none⟩ ∧ w.cell? ⟨b, off + i * 7, none⟩ = some (.int .i64 (l.getD i op0).c) ∧ w.cell? ⟨b, off + i * 7 + 1, none⟩ = some (.int .i64 (l.getD i op0).a) ∧ w.cell? ⟨b, off + i * 7 + 2, none⟩ = some (.int .i64 (l.getD i op0).s) ∧ w.cell? ⟨b, off + i * 7 + 3, none⟩ = some (.bool (l.getD i op0).ins) ∧ w.cell? ⟨b, off + i * 7 + 4, none⟩ = some (.int .i64 (l.getD i op0).rc) ∧ w.cell? ⟨b, off + i * 7 + 5, none⟩ = some (.int .i64 (l.getD i op0).ra) ∧ w.cell? ⟨b, off + i * 7 + 6, none⟩ = some (.int .i32 (l.getD i op0).ch) := by
  obtain ⟨b, off, ha, hc⟩ := h.2 (by omega)
  have hh : ∀ j u, j < 7 → (encP (l.getD i op0))[j]? = some u → w.cell? ⟨b, off + i * 7 + j, none⟩ = some u := fun j u hj hu => by
    rw [Nat.add_assoc]
    exact hc _ _ (by rw [flatP_at l i (by rw [h.1]; exact hi) j hj]; exact hu)
  exact ⟨b, off, ha, hh 0 _ (by omega) rfl, hh 1 _ (by omega) rfl, hh 2 _ (by omega) rfl, hh 3 _ (by omega) rfl, hh 4 _ (by omega) rfl, hh 5 _ (by omega) rfl, hh 6 _ (by omega) rfl⟩
theorem rdP_own {w : World} {B : Nat} {e : TypeId} {v : Value} {n : Nat} {l : List Opn} (h : w.ownsRow B e 7 v n (flatP l)) : ∃ a cap, v = .slice a n cap ∧ n ≤ cap ∧ cap ≤ 9223372036854775807 ∧ RdP w a n l ∧ (a = none → cap = 0) := by
  have hl : l.length = n := by have := h.1; rw [flatP_len] at this; omega
  rcases h.2 with ⟨rfl, rfl⟩ | ⟨g, cap, cur, rfl, hb, hg, hn, hm, hs, ht⟩
  · exact ⟨none, 0, rfl, by omega, by omega, ⟨hl, fun hp => absurd hp (by omega)⟩, fun _ => rfl⟩
  · refine ⟨_, cap, rfl, hn, by simpa [maxLen] using hm, ⟨hl, fun hp => ⟨g, 0, rfl, fun j u hu => ?_⟩⟩, fun h => by cases h⟩
    rw [Nat.zero_add, cell_of_row w g _ _ _ _ hg]
    rw [← ht, List.getElem?_take] at hu
    split at hu
    · simpa using hu
    · cases hu
theorem flatP_cells (l : List Opn) : ∀ v ∈ flatP l, v.oneCell' = true := by
  intro v hv
  simp only [flatP, List.mem_flatMap] at hv
  obtain ⟨x, _, hx⟩ := hv
  exact encP_one x v hx
set_option maxHeartbeats 1000000 in
theorem cloneP_any (rs : List Opn) (a : Option Addr) (len cap : Nat) (w : World) (hrd : RdP w a len rs) (hnone : a = none → cap = 0) (hl : len ≤ 100000) :
    Calls Try.prog 41 #[.slice a len cap] w fun e w' => ∃ v, e = .returned v ∧ w'.ownsRow w.heap.size 34 7 v len (flatP rs) ∧ Below w.heap.size w w' := by
  have hlen := hrd.1
  have q22 : ∀ (w : World) (a : Option Addr) (n c n' c' : Nat), (binOp .eql 22 (.slice a n c) (.slice none n' c')).run Try.prog w = .ok (.bool a.isNone) w := fun w a n c n' c' => Lib.run_eql_slice_nil w _ _ a n c n' c' Try.underlying22
  cases a with
  | none =>
    have h0 : len = 0 := by
      rcases Nat.eq_zero_or_pos len with h | h
      · exact h
      · obtain ⟨b, off, hb, _⟩ := hrd.2 h; cases hb
    have hr : rs = [] := List.eq_nil_of_length_eq_zero (by omega)
    have hc0 := hnone rfl
    subst h0 hr hc0
    clear hrd hnone hlen hl
    go_enter Try.func41, Try.ntmps41
    go_wp2
    go_ret
    exact ⟨_, rfl, World.ownsRow_nil _ _ _ _, Below.refl _ _⟩
  | some x =>
    obtain ⟨i0, hi, hz0, hz1, hz2⟩ := info_parts info_P
    have HI : Hid (Try.prog.info? 34 = some i0 ∧ i0.zero = some op0.val ∧ i0.size = 7 ∧ i0.bytes = 56) := ⟨hi, hz0, hz1, hz2⟩
    have hown0 : (w.alloc (.cells #[] 34)).ownsRow w.heap.size 34 7 (.slice (some ⟨w.heap.size, 0, none⟩) 0 0) 0 [] := World.ownsRow_made w #[] 0 (Nat.le_refl _) (by simp [maxLen]) rfl
    have HO : Hid ((w.alloc (.cells #[] 34)).ownsRow w.heap.size 34 7 (.slice (some ⟨w.heap.size, 0, none⟩) 0 0) 0 []) := hown0
    have HS : Hid (∀ j u, (flatP rs)[j]? = some u → (w.alloc (.cells #[] 34)).cell? (x.add j) = some u) := by
      intro j u hu
      have hp : 0 < len := by
        rcases Nat.eq_zero_or_pos len with h | h
        · have : rs = [] := List.eq_nil_of_length_eq_zero (by omega)
          rw [this] at hu; simp [flatP] at hu
        · exact h
      obtain ⟨b, off, hb, hc⟩ := hrd.2 hp
      cases hb
      rw [add_lit]
      have h1 := hc j u hu
      exact (gw_alloc w _).below.cell (World.block_lt_of_cell? w _ h1) ▸ h1
    have HX : Hid (∀ v' w2, w2.ownsRow w.heap.size 34 7 v' (0 + len) ([] ++ flatP rs) → (w.alloc (.cells #[] 34)).grownBy w2 (some w.heap.size) → w2.ownsRow w.heap.size 34 7 v' len (flatP rs) ∧ Below w.heap.size w w2) := by
      intro v' w2 o g
      refine ⟨by simpa using o, ((Below.refl _ w).alloc (Nat.le_refl _) _).grown g (by simp) (fun k hk => ?_)⟩
      cases hk; exact Nat.le_refl _
    have HFL : Hid ((flatP rs).length = len * 7) := by
      have := flatP_len rs
      rw [hlen] at this
      exact this.trans (Nat.mul_comm _ _)
    have HLL : Hid (len ≤ 100000) := hl
    clear hrd hnone hown0 hi hz0 hz1 hz2 hlen hl
    go_enter Try.func41, Try.ntmps41
    go_wp2_with (at_builtin; refine wpList_append_own _ rfl _ _ 22 rfl w.heap.size 34 i0 _ 7 56 Try.underlying22 HI.out.1 HI.out.2.1 HI.out.2.2.1 HI.out.2.2.2 rfl (by decide) _ 0 [] rfl HO.out x len cap (flatP rs) rfl HFL.out HS.out (flatP_cells rs) (by have := HLL.out; unfold maxLen; omega) (by have := HLL.out; omega) (by simp) (fun v' w' h1 h2 _ => ?_); have HF := HX.out v' w' h1 h2; have HFF : Hid _ := HF; clear HF h1 h2)
    go_ret
    exact ⟨_, rfl, HFF.out.1, HFF.out.2⟩
theorem ops_rga {P B Q M : Nat} {ve vo vi : Value} {O : List Opn} (hl : O.length ≤ 99000) (w : World) (h : TxAt w P B ve vo vi Q M O) :
    Calls Try.prog 20 #[.pointer (some ⟨P, 0, none⟩)] w fun e w' => ∃ v, e = .returned v ∧ w'.ownsRow w.heap.size 34 7 v O.length (flatP O) ∧ Below w.heap.size w w' := by
  obtain ⟨a, cap, rfl, h1, h2, h3, h4⟩ := rdP_own h.ops
  have HC : Hid (Calls Try.prog 41 #[.slice a O.length cap] w fun e w' => ∃ v, e = .returned v ∧ w'.ownsRow w.heap.size 34 7 v O.length (flatP O) ∧ Below w.heap.size w w') := cloneP_any O a O.length cap w h3 h4 (by omega)
  have c2 := h.cells.2.2.1
  clear h h1 h2 h3 h4 hl
  generalize flatP O = fl at *
  generalize O.length = n at *
  go_enter Try.func20, Try.ntmps20
  go_wp2_with (first | (go_at_call 41; refine HC.out.mono ?_; rintro e w2 ⟨v, rfl, q1, q2⟩; have HZ : Hid (w2.ownsRow w.heap.size 34 7 v n fl ∧ Below w.heap.size w w2) := ⟨q1, q2⟩; clear q1 q2))
  go_ret
  exact ⟨_, rfl, HZ.out.1, HZ.out.2⟩
end Go.Proofs.Yteicppfknkbelaa
