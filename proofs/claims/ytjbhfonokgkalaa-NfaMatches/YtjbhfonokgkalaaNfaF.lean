/- The walk of New. -/
import Derived.Test.YtjbhfonokgkalaaNfaE
namespace Go.Proofs.Ytjbhfonokgkalaa
open Go.RowKit
set_option linter.unusedVariables false
set_option linter.unusedSimpArgs false

theorem po_any : (D : Nat) → PoC D
  | 0 => fun n ca pa cc pc U w0 w bm l st en h => h.elim
  | D + 1 => po_up D (po_any D)
theorem MAt.start {B U : Nat} {w : World} {bm : Nat} {l : List St} {st en : Nat} (h : MAt B U w bm l st en) (a : Nat) : MAt B U (w.setCell ⟨bm, 1, none⟩ (.int .i64 (a : Int))) bm l a en := by
  obtain ⟨h0, h1, h2, vv, h3, xs, cv, nv, h4⟩ := h
  have hg := grown_cell w bm 1 (.int .i64 (a : Int))
  refine ⟨h0, h1, Nat.le_trans h2 hg.size, vv, heap_setCell_same w bm 1 _ _ _ h3, xs, cv, nv, h4.kept hg (.inr (own_ne h4.1 h3 (by decide))) (fun i hi => ?_)⟩
  obtain ⟨s, hs⟩ : ∃ s, l[i]? = some s := ⟨_, List.getElem?_eq_getElem hi⟩
  obtain ⟨_, _, _, a4, a5, _⟩ := h4.2 i s hs
  exact ⟨.inr (own_ne a4 h3 (by decide)), .inr (own_ne a5 h3 (by decide))⟩
theorem MAt.fin {B U : Nat} {w : World} {bm : Nat} {l : List St} {st en : Nat} (h : MAt B U w bm l st en) (a : Nat) : MAt B U (w.setCell ⟨bm, 2, none⟩ (.int .i64 (a : Int))) bm l st a := by
  obtain ⟨h0, h1, h2, vv, h3, xs, cv, nv, h4⟩ := h
  have hg := grown_cell w bm 2 (.int .i64 (a : Int))
  refine ⟨h0, h1, Nat.le_trans h2 hg.size, vv, heap_setCell_same w bm 2 _ _ _ h3, xs, cv, nv, h4.kept hg (.inr (own_ne h4.1 h3 (by decide))) (fun i hi => ?_)⟩
  obtain ⟨s, hs⟩ : ∃ s, l[i]? = some s := ⟨_, List.getElem?_eq_getElem hi⟩
  obtain ⟨_, _, _, a4, a5, _⟩ := h4.2 i s hs
  exact ⟨.inr (own_ne a4 h3 (by decide)), .inr (own_ne a5 h3 (by decide))⟩
theorem MAt.cells {B U : Nat} {w : World} {bm : Nat} {l : List St} {st en : Nat} (h : MAt B U w bm l st en) : w.cell? ⟨bm, 1, none⟩ = some (nI st) ∧ w.cell? ⟨bm, 2, none⟩ = some (nI en) ∧ w.frozen? ⟨bm, 1, none⟩ = false ∧ w.frozen? ⟨bm, 2, none⟩ = false := by
  obtain ⟨_, _, _, v, h3, _⟩ := h
  exact ⟨cell_of_row w bm 1 _ _ _ h3, cell_of_row w bm 2 _ _ _ h3, Lib.frozen_of_heap h3 1, Lib.frozen_of_heap h3 2⟩
/-- What New leaves. -/
def NewPost (n : Nd) (w : World) (e : Ending) (w' : World) : Prop :=
  Below w.heap.size w w' ∧ ((n.ok = true ∧ ∃ bm, e = .returned (.tuple #[.pointer (some ⟨bm, 0, none⟩), .int .i64 0]) ∧ MAt w.heap.size w'.heap.size w' bm (n.piece []).1 (n.piece []).2.1 (n.piece []).2.2) ∨ (n.ok = false ∧ e = .returned (.tuple #[.pointer none, .int .i64 1])))
set_option maxHeartbeats 4000000 in
theorem new_any (D : Nat) (n : Nd) (ca pa : Option Addr) (cc pc : Nat) (w : World) (hin : InV w.heap.size w D n [.int .i64 n.op, .slice ca n.cl.length cc, .slice pa (toL n.kids).length pc]) :
    Calls Try.prog 24 #[.agg #[.int .i64 n.op, .slice ca n.cl.length cc, .slice pa (toL n.kids).length pc]] w (NewPost n w) := by
  obtain ⟨op, hop⟩ : ∃ op, op = n.op := ⟨_, rfl⟩
  obtain ⟨cn, hcn⟩ : ∃ cn, cn = n.cl.length := ⟨_, rfl⟩
  obtain ⟨K, hK⟩ : ∃ K, K = (toL n.kids).length := ⟨_, rfl⟩
  obtain ⟨W0, hW0⟩ : ∃ W0, W0 = w.alloc (.cells #[.int .i64 op, .slice ca cn cc, .slice pa K pc] 33) := ⟨_, rfl⟩
  obtain ⟨H, hH⟩ : ∃ H, H = w.heap.size := ⟨_, rfl⟩
  have HB0 : Hid (Below w.heap.size w W0) := by rw [hW0]; exact (Below.refl _ w).alloc (Nat.le_refl _) _
  have hax : W0.heap[H]? = some (.cells #[.int .i64 op, .slice ca cn cc, .slice pa K pc] 33) := by rw [hW0, hH]; exact heap_alloc_new w _
  have HAX : Hid (W0.heap[H]? = some (.cells #[.int .i64 op, .slice ca cn cc, .slice pa K pc] 33)) := hax
  have HR : Hid (Calls Try.prog 27 #[.agg #[.int .i64 op, .slice ca cn cc, .slice pa K pc]] W0 fun e w' => e = .returned (.bool n.ok) ∧ Below W0.heap.size W0 w') := by
    rw [hop, hcn, hK]
    exact right_any D n ca pa cc pc W0 ((hin.later HB0.out D).base HB0.out.size D)
  have HPO : Hid (∀ (V : World) (bm U : Nat), n.ok = true → Below w.heap.size w V → MAt w.heap.size U V bm [] 0 0 → Calls Try.prog 49 #[.pointer (some ⟨bm, 0, none⟩), .agg #[.int .i64 op, .slice ca cn cc, .slice pa K pc]] V (PoPost w.heap.size n bm [] 0 0 V)) := by
    intro V bm U hok hV hm
    obtain ⟨hr, hc⟩ := Nd.ok_right hok
    rw [hop, hcn, hK]
    exact po_any D n ca pa cc pc U w V bm [] 0 0 hin hV hr hm (by simp [szS]; omega)
  have e0 : W0.cell? ⟨H, 0, none⟩ = some (.int .i64 op) := cell_of_row W0 H 0 _ _ _ hax
  have e1 : W0.cell? ⟨H, 1, none⟩ = some (.slice ca cn cc) := cell_of_row W0 H 1 _ _ _ hax
  have e2 : W0.cell? ⟨H, 2, none⟩ = some (.slice pa K pc) := cell_of_row W0 H 2 _ _ _ hax
  rw [← hop, ← hcn, ← hK]
  clear hin hop hcn hK hax
  go_enter Try.func24, Try.ntmps24
  go_upto_region 1 with fail
  rw [← hH, ← hW0]
  clear hH hW0
  go_wp2_with fail
  refine HR.out.mono ?_
  rintro e w1 ⟨rfl, hb1⟩
  have HB1 : Hid (Below w.heap.size w w1) := HB0.out.trans (hb1.mono HB0.out.size)
  have hax1 : w1.heap[H]? = some (.cells #[.int .i64 op, .slice ca cn cc, .slice pa K pc] 33) := (hb1.block H (Array.getElem?_eq_some_iff.1 HAX.out).1).trans HAX.out
  have HAX1 : Hid (w1.heap[H]? = some (.cells #[.int .i64 op, .slice ca cn cc, .slice pa K pc] 33)) := hax1
  clear hb1 hax1 e0 e1 e2 HR
  obtain ⟨ok, hok⟩ : ∃ ok, ok = n.ok := ⟨_, rfl⟩
  rw [← hok]
  cases ok with
  | false =>
    have HOK : Hid (n.ok = false) := hok.symm
    clear hok
    go_wp2
    go_ret2
    exact ⟨HB1.out, .inr ⟨HOK.out, rfl⟩⟩
  | true =>
    have HOK : Hid (n.ok = true) := hok.symm
    clear hok
    obtain ⟨W2, hW2⟩ : ∃ W2, W2 = w1.alloc (.cells #[.slice none 0 0, .int .i64 0, .int .i64 0] 66) := ⟨_, rfl⟩
    obtain ⟨bm, hbm⟩ : ∃ bm, bm = w1.heap.size := ⟨_, rfl⟩
    have HB2 : Hid (Below w1.heap.size w1 W2) := by rw [hW2]; exact (Below.refl _ w1).alloc (Nat.le_refl _) _
    have hmb : W2.heap[bm]? = some (.cells #[.slice none 0 0, nI 0, nI 0] 66) := by rw [hW2, hbm]; exact heap_alloc_new w1 _
    have HW2 : Hid (Below w.heap.size w W2) := HB1.out.trans (HB2.out.mono HB1.out.size)
    have HM2 : Hid (MAt w.heap.size W2.heap.size W2 bm [] 0 0) := ⟨by rw [hbm]; exact HB1.out.size, HW2.out.size, Nat.le_refl _, _, hmb, [], fun _ => .slice none 0 0, fun _ => .slice none 0 0, World.ownsRow_nil _ _ _ _, fun i s hs => by simp at hs⟩
    have HC : Hid (Calls Try.prog 49 #[.pointer (some ⟨bm, 0, none⟩), .agg #[.int .i64 op, .slice ca cn cc, .slice pa K pc]] W2 (PoPost w.heap.size n bm [] 0 0 W2)) := HPO.out W2 bm _ HOK.out HW2.out HM2.out
    have hax2 := (HB2.out.block H (Array.getElem?_eq_some_iff.1 HAX1.out).1).trans HAX1.out
    have e0 : W2.cell? ⟨H, 0, none⟩ = some (.int .i64 op) := cell_of_row W2 H 0 _ _ _ hax2
    have e1 : W2.cell? ⟨H, 1, none⟩ = some (.slice ca cn cc) := cell_of_row W2 H 1 _ _ _ hax2
    have e2 : W2.cell? ⟨H, 2, none⟩ = some (.slice pa K pc) := cell_of_row W2 H 2 _ _ _ hax2
    clear hmb hax2
    go_upto_region 4 with fail
    rw [← hbm, ← hW2]
    clear hbm hW2
    go_wp2_with fail
    refine HC.out.mono ?_
    rintro e w3 ⟨rfl, hm3, hs3⟩
    obtain ⟨p1, hp1⟩ : ∃ p1, p1 = (n.piece []).2.1 := ⟨_, rfl⟩
    obtain ⟨p2, hp2⟩ : ∃ p2, p2 = (n.piece []).2.2 := ⟨_, rfl⟩
    rw [← hp1, ← hp2]
    unfold nI
    obtain ⟨W3, hW3⟩ : ∃ W3, W3 = w3.alloc (.cells #[.int .i64 (p1 : Int), .int .i64 (p2 : Int)] 68) := ⟨_, rfl⟩
    obtain ⟨G, hG⟩ : ∃ G, G = w3.heap.size := ⟨_, rfl⟩
    have HB3 : Hid (Below w3.heap.size w3 W3) := by rw [hW3]; exact (Below.refl _ w3).alloc (Nat.le_refl _) _
    have hgx : W3.heap[G]? = some (.cells #[.int .i64 (p1 : Int), .int .i64 (p2 : Int)] 68) := by rw [hW3, hG]; exact heap_alloc_new w3 _
    have HM3 : Hid (MAt w.heap.size w3.heap.size W3 bm (n.piece []).1 0 0) := hm3.later HB3.out
    have HW3 : Hid (Below w.heap.size w W3) := HW2.out.trans (hs3.below.trans (HB3.out.mono hm3.base))
    have g0 : W3.cell? ⟨G, 0, none⟩ = some (.int .i64 (p1 : Int)) := cell_of_row W3 G 0 _ _ _ hgx
    have g1 : W3.cell? ⟨G, 1, none⟩ = some (.int .i64 (p2 : Int)) := cell_of_row W3 G 1 _ _ _ hgx
    obtain ⟨m1, m2, m3, m4⟩ := HM3.out.cells
    unfold nI at m1 m2
    have hne : ¬ (G = bm) := fun e => by
      obtain ⟨_, _, _, v, h3, _⟩ := HM3.out
      rw [← e, hgx] at h3
      simp at h3
    have HPP : Hid (p1 = (n.piece []).2.1 ∧ p2 = (n.piece []).2.2) := ⟨hp1, hp2⟩
    have HBM : Hid (w.heap.size ≤ bm) := HM3.out.1
    have HF1 : Hid (NewPost n w (.returned (.tuple #[.pointer (some ⟨bm, 0, none⟩), .int .i64 0])) (((W3.setCell ⟨bm, 1, none⟩ (.int .i64 (p1 : Int))).setCell ⟨bm, 2, none⟩ (.int .i64 (p2 : Int))).drew)) := by
      refine ⟨((HW3.out.setCell (p := ⟨bm, 1, none⟩) HBM.out _).setCell (p := ⟨bm, 2, none⟩) HBM.out _).drew, .inl ⟨HOK.out, bm, rfl, ?_⟩⟩
      have h1 := ((HM3.out.start p1).fin p2).later (Below.refl _ _).drew
      rw [← HPP.out.1, ← HPP.out.2]
      exact h1.up h1.2.2.1 (Nat.le_refl _)
    have HF2 : Hid (NewPost n w (.returned (.tuple #[.pointer (some ⟨bm, 0, none⟩), .int .i64 0])) (((W3.setCell ⟨bm, 2, none⟩ (.int .i64 (p2 : Int))).setCell ⟨bm, 1, none⟩ (.int .i64 (p1 : Int))).drew)) := by
      refine ⟨((HW3.out.setCell (p := ⟨bm, 2, none⟩) HBM.out _).setCell (p := ⟨bm, 1, none⟩) HBM.out _).drew, .inl ⟨HOK.out, bm, rfl, ?_⟩⟩
      have h1 := ((HM3.out.fin p2).start p1).later (Below.refl _ _).drew
      rw [← HPP.out.1, ← HPP.out.2]
      exact h1.up h1.2.2.1 (Nat.le_refl _)
    clear hm3 hs3 hp1 hp2 hgx HC e0 e1 e2
    go_upto_region 5 with fail
    rw [← hG, ← hW3]
    clear hG hW3
    go_region
    all_goals
      go_wp2
      go_ret2
      first | with_reducible exact HF1.out | with_reducible exact HF2.out | exact HF1.out | exact HF2.out
end Go.Proofs.Ytjbhfonokgkalaa
