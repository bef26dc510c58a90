/- The reference's text in memory; the walks of its known and Has. -/
import Derived.Test.YtcbnmahbdcjamaaRgM
import Derived.Test.YtcbnmahbdcjamaaRgB
import Derived.BigQuiet
namespace Go.Proofs.Ytcbnmahbdcjamaa
open Go.RowKit Go.Sort
set_option linter.unusedVariables false
set_option linter.unusedSimpArgs false

/-- Of an author the last Seq and Ctr, as the reference counts them. -/
def knF (O : List Opn) (a : Int) : Int × Int := O.foldl (fun z o => if o.a = a ∧ z.1 < o.s then (o.s, o.c) else z) (0, 0)
theorem knF_snoc (O : List Opn) (o : Opn) (a : Int) : knF (O ++ [o]) a = if o.a = a ∧ (knF O a).1 < o.s then (o.s, o.c) else knF O a := by
  unfold knF
  rw [List.foldl_append]
  rfl
theorem knF_last {O : List Opn} : Rv O → ∀ a, knF O a = ((lastO O a).s, (lastO O a).c) := by
  refine snocR (P := fun O => Rv O → ∀ a, knF O a = ((lastO O a).s, (lastO O a).c)) (fun _ a => rfl) (fun O x ih h a => ?_) O
  obtain ⟨h1, h2⟩ := rv_front h
  obtain ⟨_, hs, _, _⟩ := (putA_iff _ _).1 h2
  rw [knF_snoc, lastO_snoc, ih h1 a]
  by_cases hx : x.a = a
  · subst hx
    rw [if_pos ⟨rfl, by show (lastO O x.a).s < x.s; omega⟩, if_pos rfl]
  · rw [if_neg (fun q => hx q.1), if_neg hx]
/-- The reference's text in memory. -/
structure RfT (w : World) (T : Nat) (a : Option Addr) (n c : Nat) (O : List Opn) : Prop where
  box : w.heap[T]? = some (.cells #[.slice a n c] 97 (0, 0))
  row : RdP w a n O
  nil : a = none → c = 0
theorem RfT.later {w w' : World} {T : Nat} {a : Option Addr} {n c : Nat} {O : List Opn} (h : RfT w T a n c O) (hb : Below w.heap.size w w') : RfT w' T a n c O :=
  ⟨(hb.block T (Array.getElem?_eq_some_iff.1 h.box).1).trans h.box, h.row.later hb, h.nil⟩
theorem RfT.cell {w : World} {T : Nat} {a : Option Addr} {n c : Nat} {O : List Opn} (h : RfT w T a n c O) : w.cell? ⟨T, 0, none⟩ = some (.slice a n c) ∧ w.frozen? ⟨T, 0, none⟩ = false :=
  ⟨cell_of_row w T 0 _ _ _ h.box, Lib.frozen_of_heap h.box _⟩
theorem take_nextR (xs : List Opn) (i : Nat) (h : i < xs.length) : xs.take (i + 1) = xs.take i ++ [xs.getD i op0] := by
  rw [List.take_add_one, List.getElem?_eq_getElem h]
  simp [h]
set_option maxRecDepth 100000 in
set_option maxHeartbeats 4000000 in
theorem known_rf {w : World} {T : Nat} {a : Option Addr} {n c : Nat} {O : List Opn} (h : RfT w T a n c O) (hn : n ≤ 1000000) (au : Int) :
    Calls Try.prog 96 #[.pointer (some ⟨T, 0, none⟩), .int .i64 au] w fun e w' => e = .returned (.tuple #[.int .i64 (knF O au).1, .int .i64 (knF O au).2]) ∧ w' = w := by
  have hk := h.cell.1
  have HR : Hid (RdP w a n O) := h.row
  have HN : Hid (O.length = n) := h.row.1
  clear h
  go_enter Try.func96, Try.ntmps96
  go_wp2
  go_loopw [6, 7, 8] (fun x6 x7 x8 wr => ∃ (i : Nat) (u v : Int), x8 = .int .i64 (i : Int) ∧ x6 = .int .i64 u ∧ x7 = .int .i64 v ∧ i ≤ n ∧ (u, v) = knF (O.take i) au ∧ wr = w) (fun _ _ x8 _ => n - (RowKit.intOf x8).toNat)
  case atStart => exact ⟨0, 0, 0, rfl, rfl, rfl, by omega, rfl, rfl⟩
  case round =>
    obtain ⟨i, u, v, h8, h6, h7, hi, hkn, rfl⟩ := hrel
    subst h8 h6 h7
    by_cases hlt : i < n
    · obtain ⟨b, off, rfl, c0, c1, c2, c3, c4, c5, c6⟩ := HR.out.at i hlt
      have hsn := knF_snoc (O.take i) (O.getD i op0) au
      rw [← take_nextR O i (by rw [HN.out]; exact hlt), ← hkn] at hsn
      generalize O.getD i op0 = E at c0 c1 c2 c3 c4 c5 c6 hsn
      have hi0 : (0 : Int) ≤ (i : Int) := by omega
      have hi1 : (i : Int) < (n : Int) := by omega
      by_cases e1 : E.a = au
      · have e1b : (E.a == au) = true := by simp [e1]
        by_cases e2 : u < E.s
        · have e2b : decide (u < E.s) = true := decide_eq_true e2
          have HK : Hid ((E.s, E.c) = knF (O.take (i + 1)) au) := by
            rw [if_pos ⟨e1, e2⟩] at hsn
            exact hsn.symm
          clear hsn hkn e1
          go_wp2
          go_roundw
          case rel => exact ⟨i + 1, E.s, E.c, by go_num, rfl, rfl, by omega, HK.out, trivial⟩
          case measure => simp [RowKit.intOf]; omega
        · have e2b : decide (u < E.s) = false := decide_eq_false e2
          have HK : Hid ((u, v) = knF (O.take (i + 1)) au) := by
            rw [if_neg (fun q => e2 q.2)] at hsn
            exact hsn.symm
          clear hsn hkn e1
          go_wp2
          go_roundw
          case rel => exact ⟨i + 1, u, v, by go_num, rfl, rfl, by omega, HK.out, trivial⟩
          case measure => simp [RowKit.intOf]; omega
      · have e1b : (E.a == au) = false := by simpa using e1
        have HK : Hid ((u, v) = knF (O.take (i + 1)) au) := by
          rw [if_neg (fun q => e1 q.1)] at hsn
          exact hsn.symm
        clear hsn hkn
        go_wp2
        go_roundw
        case rel => exact ⟨i + 1, u, v, by go_num, rfl, rfl, by omega, HK.out, trivial⟩
        case measure => simp [RowKit.intOf]; omega
    · obtain rfl : i = n := by omega
      have HK : Hid (u = (knF O au).1 ∧ v = (knF O au).2) := by
        rw [List.take_of_length_le (by rw [HN.out]; omega)] at hkn
        rw [← hkn]
        exact ⟨rfl, rfl⟩
      clear hkn
      go_wp2
      go_ret2
      exact ⟨by rw [HK.out.1, HK.out.2]; rfl, rfl⟩
set_option maxRecDepth 100000 in
set_option maxHeartbeats 4000000 in
theorem has_rf {w : World} {T : Nat} {a : Option Addr} {n c : Nat} {O : List Opn} (h : RfT w T a n c O) (hn : n ≤ 1000000) (i1 i2 : Int) :
    Calls Try.prog 97 #[.pointer (some ⟨T, 0, none⟩), .agg #[.int .i64 i1, .int .i64 i2]] w fun e w' => e = .returned (.bool (hasE O (i1, i2))) ∧ Below w.heap.size w w' := by
  have mixed : Try.prog.follows .mixedOrders = true := by kernel_rfl
  obtain ⟨W0, hW0⟩ : ∃ W0, W0 = w.alloc (.cells #[.int .i64 i1, .int .i64 i2] 32 (0, 0)) := ⟨_, rfl⟩
  obtain ⟨X, hX⟩ : ∃ X, X = w.heap.size := ⟨_, rfl⟩
  have hb0 : Below w.heap.size w W0 := by rw [hW0]; exact (Below.refl _ w).alloc (Nat.le_refl _) _
  have hx0 : W0.heap[X]? = some (.cells #[.int .i64 i1, .int .i64 i2] 32 (0, 0)) := by rw [hW0, hX]; exact heap_alloc_new w _
  have HF : Hid (∀ V, Below W0.heap.size W0 V → V.cell? ⟨T, 0, none⟩ = some (.slice a n c) ∧ RdP V a n O ∧ V.cell? ⟨X, 0, none⟩ = some (.int .i64 i1) ∧ V.cell? ⟨X, 1, none⟩ = some (.int .i64 i2) ∧ Below w.heap.size w V) := fun V hV => by
    have h1 := (h.later hb0).later hV
    have h2 : V.heap[X]? = some (.cells #[.int .i64 i1, .int .i64 i2] 32 (0, 0)) := (hV.block X (Array.getElem?_eq_some_iff.1 hx0).1).trans hx0
    exact ⟨h1.cell.1, h1.row, cell_of_row V X 0 _ _ _ h2, cell_of_row V X 1 _ _ _ h2, hb0.trans (hV.mono hb0.size)⟩
  have HN : Hid (O.length = n) := h.row.1
  have HB0 : Hid (Below W0.heap.size W0 W0) := Below.refl _ _
  obtain ⟨R, hR⟩ : ∃ R, R = hasE O (i1, i2) := ⟨_, rfl⟩
  have HYES : Hid (∀ i, i < n → (O.getD i op0).ins = true → (O.getD i op0).c = i1 → (O.getD i op0).a = i2 → R = true) := fun i hi q1 q2 q3 => by
    rw [hR, hasE_iff]
    refine ⟨O.getD i op0, ?_, q1, ?_⟩
    · have : i < O.length := by rw [HN.out]; exact hi
      simp [this]
    · unfold Opn.id; rw [q2, q3]
  have HNO : Hid ((∀ i, i < n → ¬ ((O.getD i op0).ins = true ∧ (O.getD i op0).c = i1 ∧ (O.getD i op0).a = i2)) → R = false) := fun q => by
    rw [hR, Bool.eq_false_iff, Ne, hasE_iff]
    rintro ⟨o, ho, h1, h2⟩
    obtain ⟨k, hk, rfl⟩ := List.mem_iff_getElem.1 ho
    have := q k (by rw [← HN.out]; exact hk)
    apply this
    unfold Opn.id at h2
    injection h2 with h2 h3
    simp [hk, h1, h2, h3]
  rw [← hR]
  clear h hb0 hx0 hR
  go_enter Try.func97, Try.ntmps97
  go_upto_region 1 with fail
  rw [← hX, ← hW0]
  clear hX hW0
  go_wp2
  go_loopw [5] (fun x5 wr => ∃ i : Nat, x5 = .int .i64 (i : Int) ∧ i ≤ n ∧ (∀ j, j < i → ¬ ((O.getD j op0).ins = true ∧ (O.getD j op0).c = i1 ∧ (O.getD j op0).a = i2)) ∧ Below W0.heap.size W0 wr) (fun x5 _ => n - (RowKit.intOf x5).toNat)
  case atStart => exact ⟨0, rfl, by omega, fun j hj => absurd hj (by omega), HB0.out⟩
  case round =>
    obtain ⟨i, h5, hi, hno, hb⟩ := hrel
    subst h5
    have HB : Hid (Below W0.heap.size W0 wr) := hb
    have HNN : Hid (∀ j, j < i → ¬ ((O.getD j op0).ins = true ∧ (O.getD j op0).c = i1 ∧ (O.getD j op0).a = i2)) := hno
    clear hb hno HB0
    obtain ⟨hk, hr, x0, x1, -⟩ := HF.out wr HB.out
    by_cases hlt : i < n
    · obtain ⟨b, off, rfl, c0, c1, c2, c3, c4, c5, c6⟩ := hr.at i hlt
      have hyes := HYES.out i hlt
      have hnx : ¬ ((O.getD i op0).ins = true ∧ (O.getD i op0).c = i1 ∧ (O.getD i op0).a = i2) → ∀ j, j < i + 1 → ¬ ((O.getD j op0).ins = true ∧ (O.getD j op0).c = i1 ∧ (O.getD j op0).a = i2) := fun q j hj => by
        rcases Nat.lt_or_ge j i with z | z
        · exact HNN.out j z
        · rw [show j = i by omega]; exact q
      generalize O.getD i op0 = E at c0 c1 c2 c3 c4 c5 c6 hyes hnx
      have hi0 : (0 : Int) ≤ (i : Int) := by omega
      have hi1 : (i : Int) < (n : Int) := by omega
      clear hr
      cases e1 : E.ins
      · rw [e1] at c3
        have HNX : Hid (∀ j, j < i + 1 → ¬ ((O.getD j op0).ins = true ∧ (O.getD j op0).c = i1 ∧ (O.getD j op0).a = i2)) := hnx (by rw [e1]; rintro ⟨q, _⟩; cases q)
        clear hyes hnx e1
        go_upto_region 4 with fail
        go_quiet (fail)
        go_wp2
        go_roundw
        case rel => exact ⟨i + 1, by go_num, by omega, HNX.out, HB.out.trans ⟨rfl, rfl, rfl, Nat.le_refl _, fun _ _ => rfl⟩⟩
        case measure => simp [RowKit.intOf]; omega
      · rw [e1] at c3
        by_cases e2 : E.c = i1 ∧ E.a = i2
        · have hq := eql_ids E.c E.a i1 i2 true (by simp [e2.1, e2.2])
          have HY : Hid (R = true) := hyes e1 e2.1 e2.2
          clear hyes hnx e1 e2
          go_upto_region 4 with fail
          go_quiet (fail)
          go_wp2
          go_ret
          exact ⟨by rw [HY.out]; rfl, (HF.out _ HB.out).2.2.2.2.trans ⟨rfl, rfl, rfl, Nat.le_refl _, fun _ _ => rfl⟩⟩
        · have hq := eql_ids E.c E.a i1 i2 false (by simp; intro q1 q2; exact absurd ⟨q1, q2⟩ e2)
          have HNX : Hid (∀ j, j < i + 1 → ¬ ((O.getD j op0).ins = true ∧ (O.getD j op0).c = i1 ∧ (O.getD j op0).a = i2)) := hnx (fun q => e2 q.2)
          clear hyes hnx e1 e2
          go_upto_region 4 with fail
          go_quiet (fail)
          go_wp2
          go_roundw
          case rel => exact ⟨i + 1, by go_num, by omega, HNX.out, HB.out.trans ⟨rfl, rfl, rfl, Nat.le_refl _, fun _ _ => rfl⟩⟩
          case measure => simp [RowKit.intOf]; omega
    · obtain rfl : i = n := by omega
      have HY : Hid (R = false) := HNO.out HNN.out
      clear hr
      go_wp2
      go_ret
      exact ⟨by rw [HY.out]; rfl, (HF.out _ HB.out).2.2.2.2⟩
end Go.Proofs.Ytcbnmahbdcjamaa
