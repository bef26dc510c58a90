/- The walk of Join: both vectors at once. -/
import Derived.Test.YtcbnmahbdcjamaaIdD
import Derived.Test.YtcbnmahbdcjamaaBasR
namespace Go.Proofs.Ytcbnmahbdcjamaa
open Go.RowKit Go.Sort
set_option linter.unusedVariables false

theorem vec_tail {x : Int × Int} {r : List (Int × Int)} (h : Vec (x :: r)) : Vec r := ⟨h.1.2, fun z hz => h.2 z (by simp [hz])⟩
theorem join_lt {x y : Int × Int} {P Q : List (Int × Int)} (hp : Vec (x :: P)) (hq : Vec (y :: Q)) (h : x.1 < y.1) : joinL (x :: P) (y :: Q) = x :: joinL P (y :: Q) := by
  rw [← mrg_join (x :: P) (y :: Q) (P.length + (Q.length + 1) + 1) (by simp; omega) hp hq, ← mrg_join P (y :: Q) (P.length + (Q.length + 1)) (by simp) (vec_tail hp) hq, mrgF, if_pos h]
theorem join_gt {x y : Int × Int} {P Q : List (Int × Int)} (hp : Vec (x :: P)) (hq : Vec (y :: Q)) (h : y.1 < x.1) : joinL (x :: P) (y :: Q) = y :: joinL (x :: P) Q := by
  rw [← mrg_join (x :: P) (y :: Q) (P.length + (Q.length + 1) + 1) (by simp; omega) hp hq, ← mrg_join (x :: P) Q (P.length + (Q.length + 1)) (by simp; omega) hp (vec_tail hq), mrgF, if_neg (by omega), if_pos h]
theorem join_eq {x y : Int × Int} {P Q : List (Int × Int)} (hp : Vec (x :: P)) (hq : Vec (y :: Q)) (h : x.1 = y.1) : joinL (x :: P) (y :: Q) = (x.1, max x.2 y.2) :: joinL P Q := by
  rw [← mrg_join (x :: P) (y :: Q) (P.length + (Q.length + 1) + 1) (by simp; omega) hp hq, ← mrg_join P Q (P.length + (Q.length + 1)) (by simp) (vec_tail hp) (vec_tail hq), mrgF, if_neg (by omega), if_neg (by omega)]
theorem join_end {P Q : List (Int × Int)} (hp : Vec P) (hq : Vec Q) (h : P = [] ∨ Q = []) : joinL P Q = P ++ Q := by
  rw [← mrg_join P Q (P.length + Q.length) (Nat.le_refl _) hp hq]
  rcases h with rfl | rfl
  · cases Q <;> rfl
  · cases P <;> rfl
theorem rdE_tail {w : World} {b off n cap : Nat} {x : Int × Int} {r : List (Int × Int)} (h : RdE w (some ⟨b, off, none⟩) (n + 1) (x :: r)) (hc : n + 1 ≤ cap) : RdE w (some ⟨b, if cap = 1 then off else off + 2, none⟩) n r := by
  refine ⟨by simpa using h.1, fun hp => ⟨b, _, rfl, fun j v hv => ?_⟩⟩
  rw [if_neg (by omega)]
  obtain ⟨b', off', hab, hc⟩ := h.2 (by omega)
  cases hab
  have := hc (j + 2) v (by rw [flatE_one]; exact hv)
  rw [show off + 2 + j = off + (j + 2) by omega]
  exact this
theorem rdE_head {w : World} {a : Option Addr} {n : Nat} {x : Int × Int} {r : List (Int × Int)} (h : RdE w a (n + 1) (x :: r)) : ∃ b off, a = some ⟨b, off, none⟩ ∧ w.cell? ⟨b, off, none⟩ = some (.int .i64 x.1) ∧ w.cell? ⟨b, off + 1, none⟩ = some (.int .i64 x.2) := by
  obtain ⟨b, off, h1, h2, h3⟩ := h.at 0 (by omega)
  exact ⟨b, off, h1, by simpa using h2, by simpa using h3⟩
theorem cutE_1 (b off len cap : Nat) (h1 : 1 ≤ len) (h2 : len ≤ cap) (W : World) : (Instr.slice 42 (.slice (some ⟨b, off, none⟩) len cap) (some (.int .i64 1)) none none).run Try.prog W = .ok (.slice (some ⟨b, if cap = 1 then off else off + 2, none⟩) (len - 1) (cap - 1)) W := cutE_from b off len cap 1 h1 h2 W
theorem srcE {w : World} {a : Option Addr} {n c : Nat} {P : List (Int × Int)} (h : RdE w a n P) (hn : a = none → c = 0) : SrcAt w a n c 2 (flatE P) := by
  refine ⟨by rw [flatE_len, h.1]; omega, fun ha => ⟨?_, hn ha⟩, fun x hx j u hu => ?_, flatE_cells P⟩
  · rcases Nat.eq_zero_or_pos n with h0 | h0
    · exact h0
    · obtain ⟨b, off, hb, _⟩ := h.2 h0
      rw [ha] at hb; cases hb
  · have hp : 0 < n := by
      rcases Nat.eq_zero_or_pos n with h0 | h0
      · have : P = [] := List.eq_nil_of_length_eq_zero (by rw [h.1]; exact h0)
        rw [this] at hu; simp [flatE] at hu
      · exact h0
    obtain ⟨b, off, hb, hc⟩ := h.2 hp
    rw [hx] at hb
    cases hb
    rw [add_lit]
    exact hc j u hu
theorem wpList_append_src {P : Program} {w : World} {ops : Array Oper} {rest : List Oper} {o : Oper} {a : Act} {Q : Exit → Act → World → Prop} (hgd : o.guard = none) (s x : Operand) (t : TypeId)
    (ho : o.op = .call { callee := .builtin .append, args := #[s, x], argTypes := #[t, t] })
    (base : Nat) (e : TypeId) (i : TypeInfo) (z : Value) (size bytes : Nat) (ht : P.underlying t = some (.slice e)) (hi : P.info? e = some i) (hz : i.zero = some z)
    (hsize : i.size = size) (hby : i.bytes = bytes) (hzs : z.cells.size = size) (h0 : 0 < size)
    (v : Value) (n : Nat) (xs : List Value) (hs : a.eval s = v) (hown : w.ownsRow base e size v n xs)
    (ad : Option Addr) (m c : Nat) (news : List Value) (hx : a.eval x = .slice ad m c) (hsrc : SrcAt w ad m c size news)
    (h63 : n + m ≤ maxLen) (hbytes : (n + m) * bytes ≤ 140737488355328) (hbase : base ≤ w.heap.size)
    (h : ∀ v' w', w'.ownsRow base e size v' (n + m) (xs ++ news) → w.grownBy w' v.ownBlock → wpList P ops Q rest (a.put o.dst v') w') : wpList P ops Q (o :: rest) a w := by
  obtain ⟨s1, s2, s3, s4⟩ := hsrc
  cases ad with
  | none =>
    obtain ⟨rfl, rfl⟩ := s2 rfl
    obtain rfl : news = [] := List.eq_nil_of_length_eq_zero (by simpa using s1)
    exact wpList_append_own_none hgd s x t ho base e i size ht hi v n xs hs hown hx (h v w (by simpa using hown) ⟨rfl, rfl, rfl, Nat.le_refl _, fun _ _ _ => rfl⟩)
  | some x' =>
    exact wpList_append_own _ hgd s x t ho base e i z size bytes ht hi hz hsize hby hzs h0 v n xs hs hown x' m c news hx s1 (s3 x' rfl) s4 h63 hbytes hbase
      (fun v' w' h1 h2 _ => h v' w' h1 h2)
/-- Where Join stands: what is left of both, and the row so far. -/
def JnR (w : World) (A B : List (Int × Int)) (ad : Option Addr) (na ca : Nat) (bd : Option Addr) (nb cb : Nat) (v5 : Value) (wr : World) : Prop :=
  ∃ P Q l, RdE w ad na P ∧ (ad = none → ca = 0) ∧ na ≤ ca ∧ ca ≤ 9223372036854775807 ∧ RdE w bd nb Q ∧ (bd = none → cb = 0) ∧ nb ≤ cb ∧ cb ≤ 9223372036854775807 ∧ Vec P ∧ Vec Q ∧ l.length + na + nb ≤ 2000 ∧
    wr.ownsRow w.heap.size 107 2 v5 l.length (flatE l) ∧ Below w.heap.size w wr ∧ l ++ joinL P Q = joinL A B
theorem own_app {w2 : World} {B : Nat} {e : TypeId} {v' : Value} {l : List (Int × Int)} {x : Int × Int} (h : w2.ownsRow B e 2 v' (l.length + 1) (flatE l ++ encE x)) : w2.ownsRow B e 2 v' (l ++ [x]).length (flatE (l ++ [x])) := by
  rw [flatE_app, List.length_append, flatE_one]
  have : flatE ([] : List (Int × Int)) = [] := rfl
  rw [this, List.append_nil]
  exact h

/-- Within a round: the first one's own block, what is left of both, the row so far. -/
def JnW (w : World) (N pb po qb qo : Nat) (x y z : Int × Int) (u : Value) (l : List (Int × Int)) (W : World) : Prop :=
  W.heap[N]? = some (.cells #[.int .i64 z.1, .int .i64 z.2] 107) ∧ w.heap.size ≤ N ∧ pb < w.heap.size ∧ qb < w.heap.size ∧ (∀ k, u.ownBlock = some k → k < N) ∧
  W.ownsRow w.heap.size 107 2 u l.length (flatE l) ∧ Below w.heap.size w W ∧
  (w.cell? ⟨pb, po, none⟩ = some (.int .i64 x.1) ∧ w.cell? ⟨pb, po + 1, none⟩ = some (.int .i64 x.2)) ∧ (w.cell? ⟨qb, qo, none⟩ = some (.int .i64 y.1) ∧ w.cell? ⟨qb, qo + 1, none⟩ = some (.int .i64 y.2))
theorem JnW.gw {w : World} {N pb po qb qo : Nat} {x y z : Int × Int} {u : Value} {l : List (Int × Int)} {W W' : World} (h : JnW w N pb po qb qo x y z u l W) (hg : Gw W W') : JnW w N pb po qb qo x y z u l W' := by
  obtain ⟨h1, h2, h3, h4, h5, h6, h7, h8⟩ := h
  exact ⟨by rw [hg.below.block N (Array.getElem?_eq_some_iff.1 h1).1]; exact h1, h2, h3, h4, h5, own_gen h6 hg.below, h7.trans (hg.below.mono h7.size), h8⟩
theorem JnW.set {w : World} {N pb po qb qo : Nat} {x y z : Int × Int} {u : Value} {l : List (Int × Int)} {W : World} (h : JnW w N pb po qb qo x y z u l W) (o : Nat) (t : Int) (z' : Int × Int) (hz : (#[.int .i64 z.1, .int .i64 z.2] : Array Value).setIfInBounds o (.int .i64 t) = #[.int .i64 z'.1, .int .i64 z'.2]) :
    JnW w N pb po qb qo x y z' u l (W.setCell ⟨N, o, none⟩ (.int .i64 t)) := by
  obtain ⟨h1, h2, h3, h4, h5, h6, h7, h8⟩ := h
  refine ⟨by rw [heap_setCell W N o _ _ _ _ h1, hz], h2, h3, h4, h5, ?_, h7.setCell h2 _, h8⟩
  refine h6.kept (row := some N) ⟨rfl, rfl, rfl, by simp, fun k hk hne => Below.heap_setCell W ⟨N, o, none⟩ _ k (fun e => hne (by rw [e]))⟩ ?_
  exact .inr (fun e => by have := h5 N e; omega)
theorem JnW.cells {w : World} {N pb po qb qo : Nat} {x y z : Int × Int} {u : Value} {l : List (Int × Int)} {W : World} (h : JnW w N pb po qb qo x y z u l W) :
    W.cell? ⟨pb, po, none⟩ = some (.int .i64 x.1) ∧ W.cell? ⟨pb, po + 1, none⟩ = some (.int .i64 x.2) ∧ W.cell? ⟨qb, qo, none⟩ = some (.int .i64 y.1) ∧ W.cell? ⟨qb, qo + 1, none⟩ = some (.int .i64 y.2) ∧
    W.cell? ⟨N, 0, none⟩ = some (.int .i64 z.1) ∧ W.cell? ⟨N, 1, none⟩ = some (.int .i64 z.2) ∧ W.frozen? ⟨N, 0, none⟩ = false ∧ W.frozen? ⟨N, 1, none⟩ = false := by
  obtain ⟨h1, h2, h3, h4, h5, h6, h7, ⟨h8, h9⟩, h10, h11⟩ := h
  exact ⟨(h7.cell (p := ⟨pb, po, none⟩) h3).trans h8, (h7.cell (p := ⟨pb, po + 1, none⟩) h3).trans h9, (h7.cell (p := ⟨qb, qo, none⟩) h4).trans h10, (h7.cell (p := ⟨qb, qo + 1, none⟩) h4).trans h11, (box2 h1).1, (box2 h1).2, Lib.frozen_of_heap h1 _, Lib.frozen_of_heap h1 _⟩

theorem jn_next {w W w' : World} {N pb po qb qo : Nat} {x y z : Int × Int} {u v' : Value} {l A B P Q : List (Int × Int)} (h : JnW w N pb po qb qo x y z u l W) (o : w'.ownsRow w.heap.size 107 2 v' (l.length + 1) (flatE l ++ encE z)) {ob : Obj} (g : (W.alloc ob).grownBy w' u.ownBlock)
    {ad bd : Option Addr} {na ca nb cb : Nat} (rP : RdE w ad na P) (nP : ad = none → ca = 0) (a1 : na ≤ ca) (a2 : ca ≤ 9223372036854775807) (rQ : RdE w bd nb Q) (nQ : bd = none → cb = 0) (b1 : nb ≤ cb) (b2 : cb ≤ 9223372036854775807) (vP : Vec P) (vQ : Vec Q) (hl : l.length + 1 + na + nb ≤ 2000) (heq : l ++ z :: joinL P Q = joinL A B) :
    JnR w A B ad na ca bd nb cb v' w' := by
  refine ⟨P, Q, l ++ [z], rP, nP, a1, a2, rQ, nQ, b1, b2, vP, vQ, by simp; omega, own_app o, ?_, by simpa using heq⟩
  obtain ⟨h1, h2, h3, h4, h5, h6, h7, h8⟩ := h
  exact (h7.alloc h7.size ob).grown g (by simp; have := h7.size; omega) (fun k hk => (h6.lt k hk).1)
theorem jn_app {w W : World} {N pb po qb qo : Nat} {x y z : Int × Int} {u : Value} {l : List (Int × Int)} (h : JnW w N pb po qb qo x y z u l W) :
    (W.alloc (.cells #[.int .i64 z.1, .int .i64 z.2] 107)).ownsRow w.heap.size 107 2 u l.length (flatE l) ∧ w.heap.size ≤ (W.alloc (.cells #[.int .i64 z.1, .int .i64 z.2] 107)).heap.size ∧
    ∀ j v, (encE z)[j]? = some v → (W.alloc (.cells #[.int .i64 z.1, .int .i64 z.2] 107)).cell? ((⟨W.heap.size, 0, none⟩ : Addr).add j) = some v := by
  refine ⟨own_alloc h.2.2.2.2.2.1 _, by simp; have := h.2.2.2.2.2.2.1.size; omega, fun j v hv => ?_⟩
  rw [add_lit]
  exact news_E (x := z) (heap_alloc_new W _) j v hv

end Go.Proofs.Ytcbnmahbdcjamaa
