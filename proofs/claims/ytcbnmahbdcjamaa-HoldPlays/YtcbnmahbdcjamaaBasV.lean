/- The library's Clone of operations. -/
import Derived.Test.YtcbnmahbdcjamaaBasW
import Derived.Laws.AppendOwn
import Derived.Deep.DeepCutAuto
namespace Go.Proofs.Ytcbnmahbdcjamaa
open Go.RowKit Go.Shelf Go.Maps Go.Sort
set_option linter.unusedVariables false
set_option linter.unusedSimpArgs false

theorem info_P : (Try.prog.info? 34).map (fun i => (i.zero, i.size, i.bytes)) = some (some op0.val, 7, 56) := by kernel_rfl
set_option maxHeartbeats 1000000 in
theorem cloneP_any (rs : List Opn) (a : Option Addr) (len cap : Nat) (w : World) (hrd : RdP w a len rs) (hnone : a = none → cap = 0) (hl : len ≤ 100000) :
    Calls Try.prog 93 #[.slice a len cap] w fun e w' => ∃ v, e = .returned v ∧ w'.ownsRow w.heap.size 34 7 v len (flatP rs) ∧ Below w.heap.size w w' := by
  have hlen := hrd.1
  have q22 : ∀ (w : World) (a : Option Addr) (n c n' c' : Nat), (binOp .eql 22 (.slice a n c) (.slice none n' c')).run Try.prog w = .ok (.bool a.isNone) w := fun w a n c n' c' => Lib.run_eql_slice_nil w _ _ a n c n' c' Try.underlying22
  cases a with
  | none =>
    have h0 : len = 0 := by
      rcases Nat.eq_zero_or_pos len with h | h
      · exact h
      · obtain ⟨b, off, hb, _⟩ := hrd.2 h; cases hb
    have hr : rs = [] := List.eq_nil_of_length_eq_zero (by omega)
    have hc0 := hnone rfl
    subst h0 hr hc0
    clear hrd hnone hlen hl
    go_enter Try.func93, Try.ntmps93
    go_wp2
    go_ret
    exact ⟨_, rfl, World.ownsRow_nil _ _ _ _, Below.refl _ _⟩
  | some x =>
    obtain ⟨i0, hi, hz0, hz1, hz2⟩ := info_parts info_P
    have HI : Hid (Try.prog.info? 34 = some i0 ∧ i0.zero = some op0.val ∧ i0.size = 7 ∧ i0.bytes = 56) := ⟨hi, hz0, hz1, hz2⟩
    have hown0 : (w.alloc (.cells #[] 34)).ownsRow w.heap.size 34 7 (.slice (some ⟨w.heap.size, 0, none⟩) 0 0) 0 [] := World.ownsRow_made w #[] 0 (Nat.le_refl _) (by simp [maxLen]) rfl
    have HO : Hid ((w.alloc (.cells #[] 34)).ownsRow w.heap.size 34 7 (.slice (some ⟨w.heap.size, 0, none⟩) 0 0) 0 []) := hown0
    have HS : Hid (∀ j u, (flatP rs)[j]? = some u → (w.alloc (.cells #[] 34)).cell? (x.add j) = some u) := by
      intro j u hu
      have hp : 0 < len := by
        rcases Nat.eq_zero_or_pos len with h | h
        · have : rs = [] := List.eq_nil_of_length_eq_zero (by omega)
          rw [this] at hu; simp [flatP] at hu
        · exact h
      obtain ⟨b, off, hb, hc⟩ := hrd.2 hp
      cases hb
      rw [add_lit]
      have h1 := hc j u hu
      exact (gw_alloc w _).below.cell (World.block_lt_of_cell? w _ h1) ▸ h1
    have HX : Hid (∀ v' w2, w2.ownsRow w.heap.size 34 7 v' (0 + len) ([] ++ flatP rs) → (w.alloc (.cells #[] 34)).grownBy w2 (some w.heap.size) → w2.ownsRow w.heap.size 34 7 v' len (flatP rs) ∧ Below w.heap.size w w2) := by
      intro v' w2 o g
      refine ⟨by simpa using o, ((Below.refl _ w).alloc (Nat.le_refl _) _).grown g (by simp) (fun k hk => ?_)⟩
      cases hk; exact Nat.le_refl _
    have HFL : Hid ((flatP rs).length = len * 7) := by
      have := flatP_len rs
      rw [hlen] at this
      exact this.trans (Nat.mul_comm _ _)
    have HLL : Hid (len ≤ 100000) := hl
    clear hrd hnone hown0 hi hz0 hz1 hz2 hlen hl
    go_enter Try.func93, Try.ntmps93
    go_wp2_with (at_builtin; refine wpList_append_own _ rfl _ _ 22 rfl w.heap.size 34 i0 _ 7 56 Try.underlying22 HI.out.1 HI.out.2.1 HI.out.2.2.1 HI.out.2.2.2 rfl (by decide) _ 0 [] rfl HO.out x len cap (flatP rs) rfl HFL.out HS.out (flatP_cells rs) (by have := HLL.out; unfold maxLen; omega) (by have := HLL.out; omega) (by simp) (fun v' w' h1 h2 _ => ?_); have HF := HX.out v' w' h1 h2; have HFF : Hid _ := HF; clear HF h1 h2)
    go_ret
    exact ⟨_, rfl, HFF.out.1, HFF.out.2⟩
end Go.Proofs.Ytcbnmahbdcjamaa
