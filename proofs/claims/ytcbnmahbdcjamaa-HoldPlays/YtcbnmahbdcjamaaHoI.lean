/- The walks of Drop with its closure. -/
import Derived.Test.YtcbnmahbdcjamaaHoH
namespace Go.Proofs.Ytcbnmahbdcjamaa
open Go.RowKit Go.Sort
set_option linter.unusedVariables false
set_option linter.unusedSimpArgs false

set_option maxRecDepth 100000 in
theorem dropC_any (G : List Opn) (N n c : Nat) (a : Option Addr) (o : Opn) (w : World) (hN : w.heap[N]? = some (.cells #[.slice a n c] 22 (0, 0))) (hA : AscK G) (hrd : RdP w a n G) (hn : n ≤ 100000) :
    Calls Try.prog 91 #[o.val, .pointer (some ⟨N, 0, none⟩)] w fun e w' => e = .returned (.bool (hasK G o.a o.s)) ∧ Below w.heap.size w w' := by
  obtain ⟨W0, hW0⟩ : ∃ W0, W0 = w.alloc (bxP o) := ⟨_, rfl⟩
  obtain ⟨M, hM⟩ : ∃ M, M = w.heap.size := ⟨_, rfl⟩
  have hb0 : Below w.heap.size w W0 := by rw [hW0]; exact (Below.refl _ w).alloc (Nat.le_refl _) _
  have hbx : W0.heap[M]? = some (bxP o) := by rw [hW0, hM]; exact heap_alloc_new w _
  have hs : W0.cell? ⟨N, 0, none⟩ = some (.slice a n c) := cell_of_row W0 N 0 _ _ _ (bel_heap hb0 hN)
  have HF : Hid (Calls Try.prog 92 #[.slice a n c, o.val] W0 fun e w' => ∃ i : Nat, e = .returned (.tuple #[.int .i64 i, .bool (hasK G o.a o.s)]) ∧ Below w.heap.size w w') := (findK_any G o a n c W0 hA (hrd.later hb0) (by omega)).mono (by
    rintro e w' ⟨i, _, rfl, hb⟩
    exact ⟨i, rfl, hb0.trans (hb.mono hb0.size)⟩)
  obtain ⟨q0, q1, q2, q3, q4, q5, q6⟩ := opAt_box hbx
  generalize hasK G o.a o.s = z at HF ⊢
  clear hN hA hrd hbx hb0
  obtain ⟨oc, oa, os, oi, orc, ora, och⟩ := o
  simp only [Opn.val] at HF q0 q1 q2 q3 q4 q5 q6 ⊢
  go_enter Try.func91, Try.ntmps91
  go_upto_region 1 with fail
  rw [← hM, ← hW0]
  clear hM hW0
  go_wp2_with (go_at_call 92; refine HF.out.mono ?_; rintro e w2 ⟨i, rfl, hb⟩; have HB : Hid (Below w.heap.size w w2) := hb; clear hb)
  go_ret
  exact ⟨rfl, HB.out⟩
theorem dropK_filter (l : List Opn) (P : Opn → Bool) (hA : AscK l) : (l.filter fun x => !hasK (l.filter P) x.a x.s) = l.filter fun x => !P x := by
  apply List.filter_congr
  intro x hx
  congr 1
  rw [Bool.eq_iff_iff, hasK_iff]
  constructor
  · rintro ⟨y, hy, h1, h2⟩
    have hm := List.mem_filter.1 hy
    obtain ⟨i, hi, rfl⟩ := List.mem_iff_getElem.1 hm.1
    obtain ⟨j, hj, rfl⟩ := List.mem_iff_getElem.1 hx
    rcases Nat.lt_trichotomy i j with q | q | q
    · exact absurd ⟨h1, h2⟩ (ltK_ne (List.pairwise_iff_getElem.1 hA i j hi hj q))
    · subst q; exact hm.2
    · exact absurd ⟨h1.symm, h2.symm⟩ (ltK_ne (List.pairwise_iff_getElem.1 hA j i hj hi q))
  · intro h
    exact ⟨x, List.mem_filter.2 ⟨hx, h⟩, rfl, rfl⟩
/-- What Drop leaves. -/
def DroQ (w : World) (B bh r : Nat) (l : List Opn) (v : Value) (P : Opn → Bool) (w' : World) : Prop :=
  ∃ v', HoS w' B bh r (l.filter fun x => !P x) v' ∧ LiesB w v v' ∧ Chg w w' (OwnH bh v)
theorem enter_drop (x : Array Value) (W : World) : (callFunc 91 x).run Try.prog W = .ok (.enter 91 x) W := enter_of Try.func91 (by kernel_rfl) (by kernel_rfl) x W
set_option maxRecDepth 100000 in
set_option maxHeartbeats 8000000 in
theorem dropK_any {B bh r : Nat} {l : List Opn} {v : Value} (w : World) (F : Nat) (cs : Array Value) (P : Opn → Bool) (h : HoS w B bh r l v) (hl : l.length ≤ 100000) (hA : Ask F cs P w) :
    Calls Try.prog 42 #[.pointer (some ⟨bh, 0, none⟩), .func (.func F) #[] cs] w fun e w' => e = .returned (.int .i64 ((l.length : Int) - ((l.filter fun x => !P x).length : Int))) ∧ DroQ w B bh r l v P w' := by
  obtain ⟨a, cap, rfl, g1, g2, g3, g4⟩ := h.rd
  obtain ⟨n, hn⟩ : ∃ n, n = l.length := ⟨_, rfl⟩
  rw [← hn] at g1 g3 h ⊢
  have HB0 : Hid (HoS w B bh r l (.slice a n cap)) := h
  have HLN : Hid (n = l.length) := hn
  have hnl : n ≤ 100000 := by omega
  have HTH : Hid (Calls Try.prog 89 #[.pointer (some ⟨bh, 0, none⟩), .func (.func F) #[] cs] w fun e w' => ∃ a1 n1 c1, e = .returned (.slice a1 n1 c1) ∧ w'.ownsRow w.heap.size 34 7 (.slice a1 n1 c1) n1 (flatP (l.filter P)) ∧ n1 ≤ n ∧ Below w.heap.size w w') := (thoseK_any w F cs P h (by omega) hA).mono (by
    rintro e w' ⟨u, rfl, ho, hb⟩
    obtain ⟨a1, c1, rfl, _⟩ := rdP_own ho
    exact ⟨a1, _, c1, rfl, ho, by have := List.length_filter_le P l; omega, hb⟩)
  have HDL : Hid (∀ (V : World) (a1 : Option Addr) (n1 c1 N : Nat), n1 ≤ n → V.ownsRow w.heap.size 34 7 (.slice a1 n1 c1) n1 (flatP (l.filter P)) → w.heap.size ≤ N → V.heap[N]? = some (.cells #[.slice a1 n1 c1] 22 (0, 0)) → Below w.heap.size w V →
      Calls Try.prog 90 #[.slice a n cap, .func (.func 91) #[] #[.pointer (some ⟨N, 0, none⟩)]] V fun e w' => ∃ m : Nat, e = .returned (.slice a m cap) ∧ m ≤ n ∧ m = (l.filter fun x => !P x).length ∧ w'.cell? ⟨bh, 1, none⟩ = some (.slice a n cap) ∧ w'.frozen? ⟨bh, 1, none⟩ = false ∧ DroQ w B bh r l (.slice a n cap) P (w'.setCell ⟨bh, 1, none⟩ (.slice a m cap))) := by
    intro V a1 n1 c1 N hn1 ho hN hbx hb
    have hV := h.later hb
    have hlt := h.lt
    have hask : AskC 91 #[.pointer (some ⟨N, 0, none⟩)] (fun x => hasK (l.filter P) x.a x.s) V (fun k => (Value.slice a n cap).ownBlock = some k) := by
      refine ⟨enter_drop, fun o W hW => ?_⟩
      have hbx2 : W.heap[N]? = some (.cells #[.slice a1 n1 c1] 22 (0, 0)) := cg_heap hW hbx (fun q => by have := (h.row.lt _ q).2; omega)
      obtain ⟨a2, c2, hv2, _, _, hr2, _⟩ := rdP_own (cg_own hW ho (fun k hk q => by have := (h.row.lt _ q).2; have := (ho.lt k hk).1; omega))
      cases hv2
      exact dropC_any (l.filter P) N n1 c1 a1 o W hbx2 (h.asc.filter P) hr2 (by omega)
    have hrow : V.ownsRow B 34 7 (.slice a n cap) n (flatP l) := by
      have := hV.row
      rw [← hn] at this
      exact this
    refine (deleteK_any B l a n cap V _ _ _ hrow (by omega) hask).mono ?_
    rintro e w' ⟨m, rfl, hm, hown, hc⟩
    rw [dropK_filter l P h.asc] at hm hown
    have hbn : (Value.slice a n cap).ownBlock ≠ some bh := h.ne
    have hbx3 := cg_heap hc hV.box hbn
    have hml : m ≤ n := by rw [hm, hn]; exact List.length_filter_le _ _
    have hob : (Value.slice a m cap).ownBlock = (Value.slice a n cap).ownBlock := by cases a <;> rfl
    have hc2 := cg_set w' bh 1 (.slice a m cap)
    refine ⟨m, rfl, hml, hm, cell_of_row w' bh 1 _ _ _ hbx3, Lib.frozen_of_heap hbx3 _, .slice a m cap, ⟨h.low, ?_, ?_, h.asc.filter _, ?_⟩, fun k hk => .inl (by rw [← hob]; exact hk), ?_⟩
    · rw [heap_setX w' bh 1 _ _ _ _ hbx3]; simp
    · rw [← hm]
      exact cg_own hc2 hown (fun k hk q => by subst q; rw [hob] at hk; exact hbn hk)
    · rw [← hm]; have := h.room; omega
    · exact cg_trans (cg_trans (cg_below hb (OwnH bh (.slice a n cap))) hc (fun k _ q => .inr q)) hc2 (fun k _ q => .inl q)
  have HQ : Hid (∃ Q : World → Prop, Q = DroQ w B bh r l (.slice a n cap) P) := ⟨_, rfl⟩
  obtain ⟨Q, hQ⟩ := HQ.out
  show Calls _ _ _ _ fun e w' => e = .returned (.int .i64 ((n : Int) - ((l.filter fun x => !P x).length : Int))) ∧ DroQ w B bh r l (.slice a n cap) P w'
  rw [← hQ] at HDL ⊢
  have HBC : Hid (∀ V, Below w.heap.size w V → V.cell? ⟨bh, 1, none⟩ = some (.slice a n cap)) := fun V hV => (h.later hV).cells.2.1
  have HDQ : Hid (∀ V, Q V → ∃ v', V.cell? ⟨bh, 1, none⟩ = some v') := by
    rw [hQ]
    rintro V ⟨v', q1, _⟩
    exact ⟨v', q1.cells.2.1⟩
  obtain ⟨M, hM⟩ : ∃ M, M = (l.filter fun x => !P x).length := ⟨_, rfl⟩
  rw [← hM] at HDL ⊢
  clear HQ hQ h hn hl g3 g4 g1 hA hM HDQ
  go_enter Try.func42, Try.ntmps42
  go_upto_region 2 with (go_at_call 89; refine HTH.out.mono ?_; rintro e w1 ⟨a1, n1, c1, rfl, h1, h2, h3⟩; have H1 : Hid (w1.ownsRow w.heap.size 34 7 (.slice a1 n1 c1) n1 (flatP (l.filter P)) ∧ n1 ≤ n ∧ Below w.heap.size w w1) := ⟨h1, h2, h3⟩; clear h1 h2 h3)
  obtain ⟨W1, hW1⟩ : ∃ W1, W1 = w1.alloc (.cells #[.slice a1 n1 c1] 22 (0, 0)) := ⟨_, rfl⟩
  obtain ⟨N, hN⟩ : ∃ N, N = w1.heap.size := ⟨_, rfl⟩
  have hb1 : Below w.heap.size w W1 := by rw [hW1]; exact H1.out.2.2.alloc H1.out.2.2.size _
  have hd1 := HDL.out W1 a1 n1 c1 N H1.out.2.1 (by rw [hW1]; exact H1.out.1.alloc _) (by rw [hN]; exact H1.out.2.2.size) (by rw [hW1, hN]; exact heap_alloc_new w1 _) hb1
  have HD1 : Hid (type_of% hd1) := hd1
  clear hd1
  have hk1 := HBC.out W1 hb1
  rw [← hN, ← hW1]
  clear hN hW1 HDL HBC hb1 H1 HTH HB0
  go_wp2_with (go_at_call 90; refine HD1.out.mono ?_; rintro e w2 ⟨m, rfl, h1, h2, h3, h4, h5⟩; have HE : Hid (m ≤ n ∧ m = M ∧ Q (w2.setCell ⟨bh, 1, none⟩ (.slice a m cap))) := ⟨h1, h2, h5⟩; have hs1 : IntKind.i64.wrap ((n : Int) - (m : Int)) = (n : Int) - (m : Int) := (by rw [IntKind.wrap_i64]; omega); have hs2 : wrap64 ((n : Int) - (m : Int)) = (n : Int) - (m : Int) := (by unfold wrap64; omega); clear h1 h2 h5)
  go_ret
  obtain ⟨_, rfl, hq⟩ := HE.out
  exact ⟨rfl, hq⟩
end Go.Proofs.Ytcbnmahbdcjamaa
