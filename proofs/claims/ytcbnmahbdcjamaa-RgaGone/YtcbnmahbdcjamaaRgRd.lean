/- A text that operations make: 'right'. -/
import Derived.Test.YtcbnmahbdcjamaaRgRc
namespace Go.Proofs.Ytcbnmahbdcjamaa
open Go.RowKit Go.Sort
set_option linter.unusedVariables false
set_option linter.unusedSimpArgs false
/-- The operations of a row's beginning that are taken, one behind the other. -/
def rtF (l : List Opn) (k : Nat) : List Opn := (l.take k).foldl putO []
theorem rtF_snoc (l : List Opn) (k : Nat) (h : k < l.length) : rtF l (k + 1) = putO (rtF l k) (l.getD k op0) := by
  unfold rtF; rw [take_nextR l k h, List.foldl_append]; rfl
theorem putO_rv {O : List Opn} (h : Rv O) (o : Opn) : Rv (putO O o) := by
  unfold putO
  by_cases q : (putA O o).1 = true
  · rw [if_pos q]; exact rv_snoc h q
  · rw [if_neg q]; exact h
theorem putO_len (O : List Opn) (o : Opn) : (putO O o).length ≤ O.length + 1 := by
  unfold putO
  by_cases q : (putA O o).1 = true
  · rw [if_pos q]; simp
  · rw [if_neg q]; omega
theorem rv_nilR : Rv [] := fun A x B e => by cases A <;> cases e
theorem rtF_rv (l : List Opn) (k : Nat) : Rv (rtF l k) ∧ (rtF l k).length ≤ (l.take k).length := by
  unfold rtF
  refine snocR (P := fun m => Rv (m.foldl putO []) ∧ (m.foldl putO []).length ≤ m.length) ⟨rv_nilR, Nat.le_refl _⟩ (fun m x ih => ?_) (l.take k)
  rw [List.foldl_append]
  refine ⟨putO_rv ih.1 x, ?_⟩
  have := putO_len (m.foldl putO []) x
  simp only [List.foldl_cons, List.foldl_nil, List.length_append, List.length_singleton]
  omega
theorem putO_rf {w : World} {T : Nat} {a : Option Addr} {n c : Nat} {O : List Opn} (h : RfT w T a n c O) (hn : n ≤ 100000) (hv : Rv O) (o : Opn) :
    Calls Try.prog 55 #[.pointer (some ⟨T, 0, none⟩), o.val] w fun e w' => (∃ z r, e = .returned (.tuple #[.bool z, .int .i64 r])) ∧ ∃ a' n' c', RfT w' T a' n' c' (putO O o) ∧ Chg w w' (fun k => k = T) ∧ ∀ x, a' = some x → a = some x ∨ w.heap.size ≤ x.block := by
  cases ht : (putA O o).1
  · refine (no_rf h hn hv o ht).mono ?_
    rintro e w' ⟨rfl, q⟩
    exact ⟨⟨_, _, rfl⟩, a, n, c, by unfold putO; rw [if_neg (by rw [ht]; decide)]; exact h.later q, cg_below q _, fun x e => .inl e⟩
  · refine (put_rf h hn hv o ht).mono ?_
    rintro e w' ⟨rfl, a', n', c', h1, h2, h3⟩
    exact ⟨⟨_, _, rfl⟩, a', n', c', by unfold putO; rw [if_pos ht]; exact h1, h2, fun x e => .inr (h3 x e)⟩
set_option maxRecDepth 100000 in
set_option maxHeartbeats 8000000 in
theorem right_rf {w : World} {a : Option Addr} {n c : Nat} {l : List Opn} (hl : RdP w a n l) (m : Int) (hm : 0 ≤ m ∧ m ≤ 100000) :
    Calls Try.prog 11 #[.slice a n c, .int .i64 m] w fun e w' => ∃ a' c', e = .returned (.slice a' (rtF l m.toNat).length c') ∧ RdP w' a' (rtF l m.toNat).length (rtF l m.toNat) ∧ (a' = none → c' = 0) ∧ Below w.heap.size w w' ∧ ∀ x, a' = some x → w.heap.size ≤ x.block := by
  obtain ⟨W1, hW1⟩ : ∃ W1, W1 = w.alloc (.cells #[.slice none 0 0] 97) := ⟨_, rfl⟩
  obtain ⟨T, hT⟩ : ∃ T, T = w.heap.size := ⟨_, rfl⟩
  have hb1 : Below w.heap.size w W1 := by rw [hW1]; exact (Below.refl _ w).alloc (Nat.le_refl _) _
  have H1 : Hid (RfT W1 T none 0 0 []) := ⟨by rw [hW1, hT]; exact heap_alloc_new w _, ⟨rfl, fun q => absurd q (by omega)⟩, fun _ => rfl⟩
  have HBV : Hid (∀ V, Chg W1 V (fun k => k = T) → Below w.heap.size w V) := fun V hV => hb1.trans (cg_bel hV hb1.size (fun k q => by rw [q, hT]; exact Nat.le_refl _))
  have HR : Hid (∀ V, Chg W1 V (fun k => k = T) → RdP V a n l) := fun V hV => hl.later (HBV.out V hV)
  have HN : Hid (l.length = n) := hl.1
  have HS : Hid (w.heap.size ≤ W1.heap.size) := hb1.size
  clear hl hb1
  go_enter Try.func11, Try.ntmps11
  go_upto_region 2 with fail
  rw [← hT, ← hW1]
  clear hT hW1
  go_wp2
  go_loopw [6] (fun x6 wr => ∃ (i : Nat) (a' : Option Addr) (n' c' : Nat), x6 = .int .i64 (i : Int) ∧ i ≤ n ∧ (i : Int) ≤ m ∧ RfT wr T a' n' c' (rtF l i) ∧ Chg W1 wr (fun k => k = T) ∧ ∀ x, a' = some x → w.heap.size ≤ x.block) (fun x6 _ => n - (RowKit.intOf x6).toNat)
  case atStart => exact ⟨0, none, 0, 0, rfl, by omega, by omega, H1.out, cg_refl _ _, fun x e => by cases e⟩
  case round =>
    obtain ⟨i, a', n', c', h6, hi, him, hrf, hcg, hfr⟩ := hrel
    subst h6
    by_cases hlt : i < n
    · have hi0 : (0 : Int) ≤ (i : Int) := by omega
      have hi1 : (i : Int) < (n : Int) := by omega
      by_cases hlm : (i : Int) < m
      · obtain ⟨b, off, rfl, c0, c1, c2, c3, c4, c5, c6⟩ := (HR.out wr hcg).at i hlt
        have hrn := hrf.row.1
        have hrl := (rtF_rv l i).2
        rw [List.length_take] at hrl
        have HP := putO_rf hrf (by omega) (rtF_rv l i).1 (l.getD i op0)
        rw [← rtF_snoc l i (by rw [HN.out]; exact hlt)] at HP
        generalize l.getD i op0 = E at c0 c1 c2 c3 c4 c5 c6 HP
        simp only [Opn.val] at HP
        have HPH : Hid (type_of% HP) := HP
        have HCG : Hid (Chg W1 wr (fun k => k = T) ∧ (∀ x, a' = some x → w.heap.size ≤ x.block) ∧ w.heap.size ≤ wr.heap.size) := ⟨hcg, hfr, (HBV.out wr hcg).size⟩
        have hd2 : decide ((i : Int) < m) = true := decide_eq_true hlm
        clear HP hcg hfr hrf hrl hrn
        go_wp2_with (go_at_call 55; refine HPH.out.mono ?_; rintro e w5 ⟨⟨z, r, rfl⟩, a5, n5, c5, g1, g2, g3⟩; have HG : Hid (RfT w5 T a5 n5 c5 (rtF l (i + 1)) ∧ Chg wr w5 (fun k => k = T) ∧ ∀ x, a5 = some x → a' = some x ∨ wr.heap.size ≤ x.block) := ⟨g1, g2, g3⟩; clear g1 g2 g3)
        go_roundw
        case rel => exact ⟨i + 1, a5, n5, c5, by go_num, by omega, by omega, HG.out.1, cg_trans HCG.out.1 HG.out.2.1 (fun _ _ q => q), fun x e => (HG.out.2.2 x e).elim (fun q => HCG.out.2.1 x q) (fun q => Nat.le_trans HCG.out.2.2 q)⟩
        case measure => simp [RowKit.intOf]; omega
      · have hd2 : decide ((i : Int) < m) = false := decide_eq_false hlm
        have hk := hrf.cell.1
        have HL : Hid (rtF l i = rtF l m.toNat) := (show rtF l i = rtF l m.toNat by rw [show m.toNat = i by omega])
        have hnn := hrf.row.1
        subst hnn
        have HF : Hid (∃ a5 c5, (Value.slice a' (rtF l i).length c') = .slice a5 (rtF l m.toNat).length c5 ∧ RdP wr a5 (rtF l m.toNat).length (rtF l m.toNat) ∧ (a5 = none → c5 = 0) ∧ Below w.heap.size w wr ∧ ∀ x, a5 = some x → w.heap.size ≤ x.block) := by
          rw [← HL.out]
          exact ⟨a', c', rfl, hrf.row, hrf.nil, HBV.out wr hcg, hfr⟩
        clear hrf hcg hfr
        go_wp2
        go_ret
        obtain ⟨a5, c5, g1, g2⟩ := HF.out
        exact ⟨a5, c5, congrArg _ g1, g2⟩
    · obtain rfl : i = n := by omega
      have hk := hrf.cell.1
      have HL : Hid (rtF l i = rtF l m.toNat) := (show rtF l i = rtF l m.toNat by unfold rtF; rw [List.take_of_length_le (by rw [HN.out]; omega), List.take_of_length_le (by rw [HN.out]; omega)])
      have hnn := hrf.row.1
      subst hnn
      have HF : Hid (∃ a5 c5, (Value.slice a' (rtF l i).length c') = .slice a5 (rtF l m.toNat).length c5 ∧ RdP wr a5 (rtF l m.toNat).length (rtF l m.toNat) ∧ (a5 = none → c5 = 0) ∧ Below w.heap.size w wr ∧ ∀ x, a5 = some x → w.heap.size ≤ x.block) := by
        rw [← HL.out]
        exact ⟨a', c', rfl, hrf.row, hrf.nil, HBV.out wr hcg, hfr⟩
      clear hrf hcg hfr
      go_wp2
      go_ret
      obtain ⟨a5, c5, g1, g2⟩ := HF.out
      exact ⟨a5, c5, congrArg _ g1, g2⟩
end Go.Proofs.Ytcbnmahbdcjamaa
