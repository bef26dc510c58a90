/- RgaMeets: two texts, and the operations in another order in a row of the call's own. -/
import Derived.Test.YtcbnmahbdcjamaaRgTt
import Derived.Deep.MidRow
namespace Go.Proofs.Ytcbnmahbdcjamaa
open Go.RowKit Go.Shelf Go.Maps Go.Sort
set_option linter.unusedVariables false
set_option linter.unusedSimpArgs false

theorem flat_setM {α β : Type} (f : α → List β) (k : Nat) (hf : ∀ x, (f x).length = k) : (L : List α) → (i : Nat) → i < L.length → (o : α) → (L.set i o).flatMap f = (L.flatMap f).take (i * k) ++ (f o ++ (L.flatMap f).drop (i * k + k))
  | [], i, h, _ => by simp at h
  | x :: r, 0, _, o => by
    have h1 := hf x
    rw [List.set_cons_zero, List.flatMap_cons, List.flatMap_cons]
    rw [Nat.zero_mul, List.take_zero, List.nil_append, Nat.zero_add, List.drop_append, h1]
    simp [← h1]
  | x :: r, i + 1, h, o => by
    have ih := flat_setM f k hf r i (by simpa using h) o
    have h1 := hf x
    rw [List.set_cons_succ, List.flatMap_cons, ih, List.flatMap_cons, show (i + 1) * k = k + i * k by rw [Nat.add_mul]; omega]
    rw [List.take_append, List.drop_append, h1]
    rw [List.take_of_length_le (l := f x) (by omega), List.drop_of_length_le (l := f x) (by omega)]
    simp only [List.append_assoc, List.nil_append]
    rw [show k + i * k - k = i * k by omega, show k + i * k + k - k = i * k + k by omega]
theorem flat_takeM {β : Type} (T E : List β) (n i k : Nat) (hE : E.length = k) (hi : i * k + k ≤ n) (hn : n ≤ T.length) : (T.take (i * k) ++ (E ++ T.drop (i * k + k))).take n = (T.take n).take (i * k) ++ (E ++ (T.take n).drop (i * k + k)) := by
  rw [List.take_append, List.take_append, List.drop_take, List.take_take]
  have h1 : (T.take (i * k)).length = i * k := by rw [List.length_take]; omega
  rw [h1, List.take_take, hE]
  rw [show min n (i * k) = min (i * k) n by omega, List.take_of_length_le (l := E) (by omega), show n - i * k - k = n - (i * k + k) by omega]
theorem encP_len (o : Opn) : (encP o).length = 7 := rfl
/-- An operation is written into a row. -/
theorem own_setP {w : World} {B g n cap : Nat} {e : TypeId} {L : List Opn} (h : w.ownsRow B e 7 (.slice (some ⟨g, 0, none⟩) n cap) n (flatP L)) (i : Nat) (hi : i < n) (o : Opn) :
    (w.setCells g (i * 7) (encP o)).ownsRow B e 7 (.slice (some ⟨g, 0, none⟩) n cap) n (flatP (L.set i o)) := by
  have hl : L.length = n := by have := h.1; rw [flatP_len] at this; omega
  rcases h.2 with ⟨h0, _⟩ | ⟨g', cap', cur, hv, hb, hg, hn, hm, hs, ht⟩
  · cases h0
  · cases hv
    refine ⟨by rw [flatP_len]; simp; omega, .inr ⟨g, cap, _, rfl, hb, heap_setCells g (encP o) (i * 7) w cur e (0, 0) hg, hn, hm, by rw [setL_size]; exact hs, ?_⟩⟩
    have hs' : cur.toList.length = cap * 7 := by simpa using hs
    rw [setL_list _ _ _ (by rw [encP_len, hs]; omega), encP_len, flat_takeM cur.toList (encP o) (n * 7) i 7 rfl (by omega) (by omega), ht]
    exact (flat_setM encP 7 encP_len L i (by omega) o).symm
theorem setCells_opM (w : World) (g k : Nat) (o : Opn) : w.setCells g k (encP o) = ((((((w.setCell ⟨g, k, none⟩ (.int .i64 o.c)).setCell ⟨g, k + 1, none⟩ (.int .i64 o.a)).setCell ⟨g, k + 2, none⟩ (.int .i64 o.s)).setCell ⟨g, k + 3, none⟩ (.bool o.ins)).setCell ⟨g, k + 4, none⟩ (.int .i64 o.rc)).setCell ⟨g, k + 5, none⟩ (.int .i64 o.ra)).setCell ⟨g, k + 6, none⟩ (.int .i32 o.ch) := rfl
theorem cg_cellsM (w : World) (g o : Nat) (D : List Value) : Chg w (w.setCells g o D) (fun k => k = g) := by
  obtain ⟨s1, s2, s3, s4⟩ := size_setCells g D o w
  exact ⟨s2, s3, s4, by rw [s1]; exact Nat.le_refl _, fun k _ hq => heap_setCells_other g k hq D o w⟩
theorem wpList_append_srcM {P : Program} {w : World} {ops : Array Oper} {rest : List Oper} {o : Oper} {a : Act} {Q : Exit → Act → World → Prop} (hgd : o.guard = none) (s x : Operand) (t : TypeId)
    (ho : o.op = .call { callee := .builtin .append, args := #[s, x], argTypes := #[t, t] })
    (base : Nat) (e : TypeId) (i : TypeInfo) (z : Value) (size bytes : Nat) (ht : P.underlying t = some (.slice e)) (hi : P.info? e = some i) (hz : i.zero = some z)
    (hsize : i.size = size) (hby : i.bytes = bytes) (hzs : z.cells.size = size) (hsz : 0 < size)
    (v : Value) (n : Nat) (xs : List Value) (hs : a.eval s = v) (hown : w.ownsRow base e size v n xs)
    (ad : Option Addr) (m c : Nat) (news : List Value) (hx : a.eval x = .slice ad m c) (hsrc : SrcAt w ad m c size news)
    (h63 : n + m ≤ maxLen) (hbytes : (n + m) * bytes ≤ 140737488355328) (hbase : base ≤ w.heap.size)
    (h : ∀ v' w', w'.ownsRow base e size v' (n + m) (xs ++ news) → w.grownBy w' v.ownBlock → wpList P ops Q rest (a.put o.dst v') w') : wpList P ops Q (o :: rest) a w := by
  obtain ⟨s1, s2, s3, s4⟩ := hsrc
  cases ad with
  | none =>
    obtain ⟨rfl, rfl⟩ := s2 rfl
    obtain rfl : news = [] := List.eq_nil_of_length_eq_zero (by simpa using s1)
    exact wpList_append_own_none hgd s x t ho base e i size ht hi v n xs hs hown hx (h v w (by simpa using hown) ⟨rfl, rfl, rfl, Nat.le_refl _, fun _ _ _ => rfl⟩)
  | some x' =>
    exact wpList_append_own _ hgd s x t ho base e i z size bytes ht hi hz hsize hby hzs hsz v n xs hs hown x' m c news hx s1 (s3 x' rfl) s4 h63 hbytes hbase
      (fun v' w' h1 h2 _ => h v' w' h1 h2)
theorem srcPM {w : World} {a : Option Addr} {n c : Nat} {l : List Opn} (h : RdP w a n l) (hn : a = none → c = 0) : SrcAt w a n c 7 (flatP l) := by
  refine ⟨by rw [flatP_len, h.1]; omega, fun e => ⟨?_, hn e⟩, fun y e j u hu => ?_, flatP_cells l⟩
  · rcases Nat.eq_zero_or_pos n with h0 | h0
    · exact h0
    · obtain ⟨b, off, hb, _⟩ := h.2 h0; rw [e] at hb; cases hb
  · have hp : 0 < n := by
      rcases Nat.eq_zero_or_pos n with h0 | h0
      · have : l = [] := List.eq_nil_of_length_eq_zero (by rw [h.1]; exact h0)
        rw [this] at hu; simp [flatP] at hu
      · exact h0
    obtain ⟨b, off, hb, hc⟩ := h.2 hp
    rw [e] at hb
    cases hb
    rw [add_lit]
    exact hc j u hu
/-- Two texts, and a row of the call's own that is written. -/
def MtS (w W : World) (P : Nat) (O : List Opn) (Q : Nat) (B : List Opn) (b : Option Addr) (n cb : Nat) (Lf : List Opn) : Prop :=
  TtS w W P O Q B (fun k => (Value.slice b n cb).ownBlock = some k) ∧ W.ownsRow w.heap.size 34 7 (.slice b n cb) n (flatP Lf)
theorem MtS.later {w W W' : World} {P Q : Nat} {O B : List Opn} {b : Option Addr} {n cb : Nat} {Lf : List Opn} (h : MtS w W P O Q B b n cb Lf) (hb : Below W.heap.size W W') : MtS w W' P O Q B b n cb Lf := ⟨h.1.later hb, own_laterX h.2 hb⟩
theorem MtS.rd {w W : World} {P Q : Nat} {O B : List Opn} {b : Option Addr} {n cb : Nat} {Lf : List Opn} (h : MtS w W P O Q B b n cb Lf) : RdP W b n Lf := by
  obtain ⟨a, c, e, _, _, r, _⟩ := rdP_own h.2
  cases e
  exact r
theorem MtS.at {w W : World} {P Q : Nat} {O B : List Opn} {b : Option Addr} {n cb : Nat} {Lf : List Opn} (h : MtS w W P O Q B b n cb Lf) (hn : 0 < n) : ∃ g, b = some ⟨g, 0, none⟩ ∧ ∃ cur, W.heap[g]? = some (.cells cur 34) := by
  rcases h.2.2 with ⟨e, h0⟩ | ⟨g, cap, cur, e, _, hg, _⟩
  · omega
  · cases e; exact ⟨g, rfl, cur, hg⟩
/-- Behind the copy. -/
theorem mts_new {w W W' : World} {P Q : Nat} {O B L : List Opn} {a : Option Addr} {n : Nat} {v : Value} (h : TtR w W P O Q B L a n) (ho : W'.ownsRow W.heap.size 34 7 v n (flatP L)) (hg : (W.alloc (.cells #[] 34)).grownBy W' (some W.heap.size)) : ∃ b c, v = .slice b n c ∧ MtS w W' P O Q B b n c L := by
  obtain ⟨b, c, rfl, _⟩ := rdP_own ho
  have hc : Chg W W' (fun _ => False) := cg_trans (cg_alloc (cg_refl W (fun _ => False)) _) (cg_gb hg) (fun j hj e => by cases e; exact absurd hj (Nat.lt_irrefl _))
  have hbl : Below W.heap.size W W' := cg_bel hc (Nat.le_refl _) (fun k q => q.elim)
  exact ⟨b, c, rfl, h.1.more hbl (fun k hk => .inr (ho.lt k hk)), ownsRow_base_a ho h.1.below.size⟩
/-- Two of the row are changed about. -/
theorem mts_swap {w W : World} {P Q : Nat} {O B Lf : List Opn} {g n cb : Nat} (h : MtS w W P O Q B (some ⟨g, 0, none⟩) n cb Lf) (i k : Nat) (hi : i < n) (hk : k < n) (x y : Opn) :
    MtS w ((W.setCells g (i * 7) (encP x)).setCells g (k * 7) (encP y)) P O Q B (some ⟨g, 0, none⟩) n cb ((Lf.set i x).set k y) := by
  have h2 := own_setP (own_setP h.2 i hi x) k hk y
  have hgw : w.heap.size ≤ g := (own_cur h.2 (k := g) rfl).1
  exact ⟨h.1.chg (cg_trans (cg_cellsM W g _ _) (cg_cellsM _ g _ _) (fun k _ q => q)) (fun k q => by subst q; rfl) (fun k q => by subst q; exact hgw), h2⟩
theorem mts_set {w W : World} {P Q : Nat} {O B Lf : List Opn} {g n cb : Nat} (h : MtS w W P O Q B (some ⟨g, 0, none⟩) n cb Lf) (i : Nat) (hi : i < n) (x : Opn) :
    MtS w (W.setCells g (i * 7) (encP x)) P O Q B (some ⟨g, 0, none⟩) n cb (Lf.set i x) := by
  have hgw : w.heap.size ≤ g := (own_cur h.2 (k := g) rfl).1
  exact ⟨h.1.chg (cg_cellsM W g _ _) (fun k q => by subst q; rfl) (fun k q => by subst q; exact hgw), own_setP h.2 i hi x⟩
theorem MtS.there {w W : World} {P Q : Nat} {O B Lf : List Opn} {g n cb : Nat} (h : MtS w W P O Q B (some ⟨g, 0, none⟩) n cb Lf) (i : Nat) (hi : i < n) : W.there g (i * 7) 7 := by
  rcases h.2.2 with ⟨h0, _⟩ | ⟨g', cap', cur, hv, hb, hg, hn, hm, hs, ht⟩
  · cases h0
  · cases hv
    intro j hj
    refine ⟨?_, Lib.frozen_of_heap hg _⟩
    rw [cell_of_row W g (i * 7 + j) _ _ _ hg, Array.getElem?_eq_getElem (by omega)]
    rfl
theorem MtS.cells {w W : World} {P Q : Nat} {O B Lf : List Opn} {g n cb : Nat} (h : MtS w W P O Q B (some ⟨g, 0, none⟩) n cb Lf) (i : Nat) (hi : i < n) : W.cell? ⟨g, i * 7, none⟩ = some (.int .i64 (Lf.getD i op0).c) ∧ W.cell? ⟨g, i * 7 + 1, none⟩ = some (.int .i64 (Lf.getD i op0).a) ∧ W.cell? ⟨g, i * 7 + 2, none⟩ = some (.int .i64 (Lf.getD i op0).s) ∧ W.cell? ⟨g, i * 7 + 3, none⟩ = some (.bool (Lf.getD i op0).ins) ∧ W.cell? ⟨g, i * 7 + 4, none⟩ = some (.int .i64 (Lf.getD i op0).rc) ∧ W.cell? ⟨g, i * 7 + 5, none⟩ = some (.int .i64 (Lf.getD i op0).ra) ∧ W.cell? ⟨g, i * 7 + 6, none⟩ = some (.int .i32 (Lf.getD i op0).ch) := by
  obtain ⟨b, off, e, c⟩ := h.rd.at i hi
  cases e
  rw [Nat.zero_add] at c
  exact c
theorem mts_put2 {w W : World} {P Q : Nat} {O B Lf : List Opn} {b : Option Addr} {n cb : Nat} (h : MtS w W P O Q B b n cb Lf) (x : Opn) (hl : B.length ≤ 99000) :
    Calls Try.prog 12 #[.pointer (some ⟨Q, 0, none⟩), .agg #[.int .i64 x.c, .int .i64 x.a, .int .i64 x.s, .bool x.ins, .int .i64 x.rc, .int .i64 x.ra, .int .i32 x.ch]] W fun e w' => e = .returned (.tuple #[.bool (putA B x).1, .int .i64 (putA B x).2]) ∧ MtS w w' P O Q (putO B x) b n cb Lf :=
  (tt_put2 h.1 x hl).mono fun e w' q => ⟨q.1, q.2.1, own_heapX h.2 fun k hk => q.2.2.1 k hk⟩
end Go.Proofs.Ytcbnmahbdcjamaa
