/- The walk of Join: both vectors at once. -/
import Derived.Test.YtfagmcgcdlboiaaIdD
import Derived.Test.YtfagmcgcdlboiaaBasR
namespace Go.Proofs.Ytfagmcgcdlboiaa
open Go.RowKit Go.Sort
set_option linter.unusedVariables false

theorem vec_tail {x : Int × Int} {r : List (Int × Int)} (h : Vec (x :: r)) : Vec r := ⟨h.1.2, fun z hz => h.2 z (by simp [hz])⟩
theorem join_lt {x y : Int × Int} {P Q : List (Int × Int)} (hp : Vec (x :: P)) (hq : Vec (y :: Q)) (h : x.1 < y.1) : joinL (x :: P) (y :: Q) = x :: joinL P (y :: Q) := by
  rw [← mrg_join (x :: P) (y :: Q) (P.length + (Q.length + 1) + 1) (by simp; omega) hp hq, ← mrg_join P (y :: Q) (P.length + (Q.length + 1)) (by simp) (vec_tail hp) hq, mrgF, if_pos h]
theorem join_gt {x y : Int × Int} {P Q : List (Int × Int)} (hp : Vec (x :: P)) (hq : Vec (y :: Q)) (h : y.1 < x.1) : joinL (x :: P) (y :: Q) = y :: joinL (x :: P) Q := by
  rw [← mrg_join (x :: P) (y :: Q) (P.length + (Q.length + 1) + 1) (by simp; omega) hp hq, ← mrg_join (x :: P) Q (P.length + (Q.length + 1)) (by simp; omega) hp (vec_tail hq), mrgF, if_neg (by omega), if_pos h]
theorem join_eq {x y : Int × Int} {P Q : List (Int × Int)} (hp : Vec (x :: P)) (hq : Vec (y :: Q)) (h : x.1 = y.1) : joinL (x :: P) (y :: Q) = (x.1, max x.2 y.2) :: joinL P Q := by
  rw [← mrg_join (x :: P) (y :: Q) (P.length + (Q.length + 1) + 1) (by simp; omega) hp hq, ← mrg_join P Q (P.length + (Q.length + 1)) (by simp) (vec_tail hp) (vec_tail hq), mrgF, if_neg (by omega), if_neg (by omega)]
theorem join_end {P Q : List (Int × Int)} (hp : Vec P) (hq : Vec Q) (h : P = [] ∨ Q = []) : joinL P Q = P ++ Q := by
  rw [← mrg_join P Q (P.length + Q.length) (Nat.le_refl _) hp hq]
  rcases h with rfl | rfl
  · cases Q <;> rfl
  · cases P <;> rfl
theorem rdE_tail {w : World} {b off n cap : Nat} {x : Int × Int} {r : List (Int × Int)} (h : RdE w (some ⟨b, off, none⟩) (n + 1) (x :: r)) (hc : n + 1 ≤ cap) : RdE w (some ⟨b, if cap = 1 then off else off + 2, none⟩) n r := by
  refine ⟨by simpa using h.1, fun hp => ⟨b, _, rfl, fun j v hv => ?_⟩⟩
  rw [if_neg (by omega)]
  obtain ⟨b', off', hab, hc⟩ := h.2 (by omega)
  cases hab
  have := hc (j + 2) v (by rw [flatE_one]; exact hv)
  rw [show off + 2 + j = off + (j + 2) by omega]
  exact this
theorem rdE_head {w : World} {a : Option Addr} {n : Nat} {x : Int × Int} {r : List (Int × Int)} (h : RdE w a (n + 1) (x :: r)) : ∃ b off, a = some ⟨b, off, none⟩ ∧ w.cell? ⟨b, off, none⟩ = some (.int .i64 x.1) ∧ w.cell? ⟨b, off + 1, none⟩ = some (.int .i64 x.2) := by
  obtain ⟨b, off, h1, h2, h3⟩ := h.at 0 (by omega)
  exact ⟨b, off, h1, by simpa using h2, by simpa using h3⟩
theorem cutE_1 (b off len cap : Nat) (h1 : 1 ≤ len) (h2 : len ≤ cap) (W : World) : (Instr.slice 34 (.slice (some ⟨b, off, none⟩) len cap) (some (.int .i64 1)) none none).run Try.prog W = .ok (.slice (some ⟨b, if cap = 1 then off else off + 2, none⟩) (len - 1) (cap - 1)) W := cutE_from b off len cap 1 h1 h2 W
theorem srcE {w : World} {a : Option Addr} {n c : Nat} {P : List (Int × Int)} (h : RdE w a n P) (hn : a = none → c = 0) : SrcAt w a n c 2 (flatE P) := by
  refine ⟨by rw [flatE_len, h.1]; omega, fun ha => ⟨?_, hn ha⟩, fun x hx j u hu => ?_, flatE_cells P⟩
  · rcases Nat.eq_zero_or_pos n with h0 | h0
    · exact h0
    · obtain ⟨b, off, hb, _⟩ := h.2 h0
      rw [ha] at hb; cases hb
  · have hp : 0 < n := by
      rcases Nat.eq_zero_or_pos n with h0 | h0
      · have : P = [] := List.eq_nil_of_length_eq_zero (by rw [h.1]; exact h0)
        rw [this] at hu; simp [flatE] at hu
      · exact h0
    obtain ⟨b, off, hb, hc⟩ := h.2 hp
    rw [hx] at hb
    cases hb
    rw [add_lit]
    exact hc j u hu
theorem wpList_append_src {P : Program} {w : World} {ops : Array Oper} {rest : List Oper} {o : Oper} {a : Act} {Q : Exit → Act → World → Prop} (hgd : o.guard = none) (s x : Operand) (t : TypeId)
    (ho : o.op = .call { callee := .builtin .append, args := #[s, x], argTypes := #[t, t] })
    (base : Nat) (e : TypeId) (i : TypeInfo) (z : Value) (size bytes : Nat) (ht : P.underlying t = some (.slice e)) (hi : P.info? e = some i) (hz : i.zero = some z)
    (hsize : i.size = size) (hby : i.bytes = bytes) (hzs : z.cells.size = size) (h0 : 0 < size)
    (v : Value) (n : Nat) (xs : List Value) (hs : a.eval s = v) (hown : w.ownsRow base e size v n xs)
    (ad : Option Addr) (m c : Nat) (news : List Value) (hx : a.eval x = .slice ad m c) (hsrc : SrcAt w ad m c size news)
    (h63 : n + m ≤ maxLen) (hbytes : (n + m) * bytes ≤ 140737488355328) (hbase : base ≤ w.heap.size)
    (h : ∀ v' w', w'.ownsRow base e size v' (n + m) (xs ++ news) → w.grownBy w' v.ownBlock → wpList P ops Q rest (a.put o.dst v') w') : wpList P ops Q (o :: rest) a w := by
  obtain ⟨s1, s2, s3, s4⟩ := hsrc
  cases ad with
  | none =>
    obtain ⟨rfl, rfl⟩ := s2 rfl
    obtain rfl : news = [] := List.eq_nil_of_length_eq_zero (by simpa using s1)
    exact wpList_append_own_none hgd s x t ho base e i size ht hi v n xs hs hown hx (h v w (by simpa using hown) ⟨rfl, rfl, rfl, Nat.le_refl _, fun _ _ _ => rfl⟩)
  | some x' =>
    exact wpList_append_own _ hgd s x t ho base e i z size bytes ht hi hz hsize hby hzs h0 v n xs hs hown x' m c news hx s1 (s3 x' rfl) s4 h63 hbytes hbase
      (fun v' w' h1 h2 _ => h v' w' h1 h2)
/-- Where Join stands: what is left of both, and the row so far. -/
def JnR (w : World) (A B : List (Int × Int)) (ad : Option Addr) (na ca : Nat) (bd : Option Addr) (nb cb : Nat) (v5 : Value) (wr : World) : Prop :=
  ∃ P Q l, RdE w ad na P ∧ (ad = none → ca = 0) ∧ na ≤ ca ∧ ca ≤ 9223372036854775807 ∧ RdE w bd nb Q ∧ (bd = none → cb = 0) ∧ nb ≤ cb ∧ cb ≤ 9223372036854775807 ∧ Vec P ∧ Vec Q ∧ l.length + na + nb ≤ 2000 ∧
    wr.ownsRow w.heap.size 47 2 v5 l.length (flatE l) ∧ Below w.heap.size w wr ∧ l ++ joinL P Q = joinL A B
theorem own_app {w2 : World} {B : Nat} {e : TypeId} {v' : Value} {l : List (Int × Int)} {x : Int × Int} (h : w2.ownsRow B e 2 v' (l.length + 1) (flatE l ++ encE x)) : w2.ownsRow B e 2 v' (l ++ [x]).length (flatE (l ++ [x])) := by
  rw [flatE_app, List.length_append, flatE_one]
  have : flatE ([] : List (Int × Int)) = [] := rfl
  rw [this, List.append_nil]
  exact h

/-- Within a round: the first one's own block, what is left of both, the row so far. -/
def JnW (w : World) (N pb po qb qo : Nat) (x y z : Int × Int) (u : Value) (l : List (Int × Int)) (W : World) : Prop :=
  W.heap[N]? = some (.cells #[.int .i64 z.1, .int .i64 z.2] 47) ∧ w.heap.size ≤ N ∧ pb < w.heap.size ∧ qb < w.heap.size ∧ (∀ k, u.ownBlock = some k → k < N) ∧
  W.ownsRow w.heap.size 47 2 u l.length (flatE l) ∧ Below w.heap.size w W ∧
  (w.cell? ⟨pb, po, none⟩ = some (.int .i64 x.1) ∧ w.cell? ⟨pb, po + 1, none⟩ = some (.int .i64 x.2)) ∧ (w.cell? ⟨qb, qo, none⟩ = some (.int .i64 y.1) ∧ w.cell? ⟨qb, qo + 1, none⟩ = some (.int .i64 y.2))
theorem JnW.gw {w : World} {N pb po qb qo : Nat} {x y z : Int × Int} {u : Value} {l : List (Int × Int)} {W W' : World} (h : JnW w N pb po qb qo x y z u l W) (hg : Gw W W') : JnW w N pb po qb qo x y z u l W' := by
  obtain ⟨h1, h2, h3, h4, h5, h6, h7, h8⟩ := h
  exact ⟨by rw [hg.below.block N (Array.getElem?_eq_some_iff.1 h1).1]; exact h1, h2, h3, h4, h5, own_gen h6 hg.below, h7.trans (hg.below.mono h7.size), h8⟩
theorem JnW.set {w : World} {N pb po qb qo : Nat} {x y z : Int × Int} {u : Value} {l : List (Int × Int)} {W : World} (h : JnW w N pb po qb qo x y z u l W) (o : Nat) (t : Int) (z' : Int × Int) (hz : (#[.int .i64 z.1, .int .i64 z.2] : Array Value).setIfInBounds o (.int .i64 t) = #[.int .i64 z'.1, .int .i64 z'.2]) :
    JnW w N pb po qb qo x y z' u l (W.setCell ⟨N, o, none⟩ (.int .i64 t)) := by
  obtain ⟨h1, h2, h3, h4, h5, h6, h7, h8⟩ := h
  refine ⟨by rw [heap_setCell W N o _ _ _ _ h1, hz], h2, h3, h4, h5, ?_, h7.setCell h2 _, h8⟩
  refine h6.kept (row := some N) ⟨rfl, rfl, rfl, by simp, fun k hk hne => Below.heap_setCell W ⟨N, o, none⟩ _ k (fun e => hne (by rw [e]))⟩ ?_
  exact .inr (fun e => by have := h5 N e; omega)
theorem JnW.cells {w : World} {N pb po qb qo : Nat} {x y z : Int × Int} {u : Value} {l : List (Int × Int)} {W : World} (h : JnW w N pb po qb qo x y z u l W) :
    W.cell? ⟨pb, po, none⟩ = some (.int .i64 x.1) ∧ W.cell? ⟨pb, po + 1, none⟩ = some (.int .i64 x.2) ∧ W.cell? ⟨qb, qo, none⟩ = some (.int .i64 y.1) ∧ W.cell? ⟨qb, qo + 1, none⟩ = some (.int .i64 y.2) ∧
    W.cell? ⟨N, 0, none⟩ = some (.int .i64 z.1) ∧ W.cell? ⟨N, 1, none⟩ = some (.int .i64 z.2) ∧ W.frozen? ⟨N, 0, none⟩ = false ∧ W.frozen? ⟨N, 1, none⟩ = false := by
  obtain ⟨h1, h2, h3, h4, h5, h6, h7, ⟨h8, h9⟩, h10, h11⟩ := h
  exact ⟨(h7.cell (p := ⟨pb, po, none⟩) h3).trans h8, (h7.cell (p := ⟨pb, po + 1, none⟩) h3).trans h9, (h7.cell (p := ⟨qb, qo, none⟩) h4).trans h10, (h7.cell (p := ⟨qb, qo + 1, none⟩) h4).trans h11, (box2 h1).1, (box2 h1).2, Lib.frozen_of_heap h1 _, Lib.frozen_of_heap h1 _⟩

theorem jn_next {w W w' : World} {N pb po qb qo : Nat} {x y z : Int × Int} {u v' : Value} {l A B P Q : List (Int × Int)} (h : JnW w N pb po qb qo x y z u l W) (o : w'.ownsRow w.heap.size 47 2 v' (l.length + 1) (flatE l ++ encE z)) {ob : Obj} (g : (W.alloc ob).grownBy w' u.ownBlock)
    {ad bd : Option Addr} {na ca nb cb : Nat} (rP : RdE w ad na P) (nP : ad = none → ca = 0) (a1 : na ≤ ca) (a2 : ca ≤ 9223372036854775807) (rQ : RdE w bd nb Q) (nQ : bd = none → cb = 0) (b1 : nb ≤ cb) (b2 : cb ≤ 9223372036854775807) (vP : Vec P) (vQ : Vec Q) (hl : l.length + 1 + na + nb ≤ 2000) (heq : l ++ z :: joinL P Q = joinL A B) :
    JnR w A B ad na ca bd nb cb v' w' := by
  refine ⟨P, Q, l ++ [z], rP, nP, a1, a2, rQ, nQ, b1, b2, vP, vQ, by simp; omega, own_app o, ?_, by simpa using heq⟩
  obtain ⟨h1, h2, h3, h4, h5, h6, h7, h8⟩ := h
  exact (h7.alloc h7.size ob).grown g (by simp; have := h7.size; omega) (fun k hk => (h6.lt k hk).1)
theorem jn_app {w W : World} {N pb po qb qo : Nat} {x y z : Int × Int} {u : Value} {l : List (Int × Int)} (h : JnW w N pb po qb qo x y z u l W) :
    (W.alloc (.cells #[.int .i64 z.1, .int .i64 z.2] 47)).ownsRow w.heap.size 47 2 u l.length (flatE l) ∧ w.heap.size ≤ (W.alloc (.cells #[.int .i64 z.1, .int .i64 z.2] 47)).heap.size ∧
    ∀ j v, (encE z)[j]? = some v → (W.alloc (.cells #[.int .i64 z.1, .int .i64 z.2] 47)).cell? ((⟨W.heap.size, 0, none⟩ : Addr).add j) = some v := by
  refine ⟨own_alloc h.2.2.2.2.2.1 _, by simp; have := h.2.2.2.2.2.2.1.size; omega, fun j v hv => ?_⟩
  rw [add_lit]
  exact news_E (x := z) (heap_alloc_new W _) j v hv

set_option maxHeartbeats 2000000 in
theorem join_any (A B : List (Int × Int)) (a b : Option Addr) (la ca lb cb : Nat) (w : World) (hA : Vec A) (hB : Vec B) (ra : RdE w a la A) (rb : RdE w b lb B) (na : a = none → ca = 0) (nb : b = none → cb = 0)
    (h1 : la ≤ ca) (h2 : ca ≤ 9223372036854775807) (h3 : lb ≤ cb) (h4 : cb ≤ 9223372036854775807) (hl : la + lb ≤ 2000) :
    Calls Try.prog 23 #[.slice a la ca, .slice b lb cb] w (RowP (joinL A B) w) := by
  have HST : Hid (JnR w A B a la ca b lb cb (.slice none 0 0) w) := ⟨A, B, [], ra, na, h1, h2, rb, nb, h3, h4, hA, hB, by simp; omega, World.ownsRow_nil _ _ _ _, Below.refl _ _, rfl⟩
  obtain ⟨i0, hi, hz0, hz1, hz2⟩ := info_parts info_E
  have HI : Hid (Try.prog.info? 47 = some i0 ∧ i0.zero = some (.agg #[.int .i64 0, .int .i64 0]) ∧ i0.size = 2 ∧ i0.bytes = 16) := ⟨hi, hz0, hz1, hz2⟩
  have mixed : Try.prog.follows .mixedOrders = true := by kernel_rfl
  clear hi hz0 hz1 hz2 hA hB ra rb na nb h1 h2 h3 h4 hl
  go_enter Try.func23, Try.ntmps23
  go_wp2
  go_loopw [0, 1, 5] (fun x0 x1 x5 wr => ∃ ad na ca bd nb cb, x0 = .slice ad na ca ∧ x1 = .slice bd nb cb ∧ JnR w A B ad na ca bd nb cb x5 wr) (fun x0 x1 _ _ => slen x0 + slen x1)
  case atStart => exact ⟨a, la, ca, b, lb, cb, rfl, rfl, HST.out⟩
  case round =>
    clear HST
    obtain ⟨ad, na, ca, bd, nb, cb, hx0, hx1, P, Q, l, rP, nP, pa1, pa2, rQ, nQ, pb1, pb2, vP, vQ, hlen, hown, hbel, heq⟩ := hrel
    subst hx0 hx1
    have HO : Hid (wr.ownsRow w.heap.size 47 2 u5 l.length (flatE l)) := hown
    have HB : Hid (Below w.heap.size w wr) := hbel
    clear hown hbel
    have HP := rP.1
    have HQ := rQ.1
    by_cases hend : P = [] ∨ Q = []
    · have HF1 : Hid (∀ v1 w1, w1.ownsRow w.heap.size 47 2 v1 (l.length + na) (flatE l ++ flatE P) → wr.grownBy w1 u5.ownBlock → w1.ownsRow w.heap.size 47 2 v1 (l.length + na) (flatE l ++ flatE P) ∧ Below w.heap.size w w1 ∧ SrcAt w1 bd nb cb 2 (flatE Q) ∧ w.heap.size ≤ w1.heap.size) := by
        intro v1 w1 o1 g1
        have hb1 : Below w.heap.size w w1 := HB.out.grown g1 HB.out.size (fun k hk => (HO.out.lt k hk).1)
        exact ⟨o1, hb1, srcE (rQ.later hb1) nQ, hb1.size⟩
      have HSA : Hid (SrcAt wr ad na ca 2 (flatE P)) := srcE (rP.later HB.out) nP
      have HBS : Hid (w.heap.size ≤ wr.heap.size) := HB.out.size
      have HF2 : Hid (∀ v1 w1 v2 w2, w1.ownsRow w.heap.size 47 2 v1 (l.length + na) (flatE l ++ flatE P) ∧ Below w.heap.size w w1 ∧ SrcAt w1 bd nb cb 2 (flatE Q) ∧ w.heap.size ≤ w1.heap.size → w2.ownsRow w.heap.size 47 2 v2 (l.length + na + nb) (flatE l ++ flatE P ++ flatE Q) → w1.grownBy w2 v1.ownBlock → RowP (joinL A B) w (.returned v2) w2) := by
        rintro v1 w1 v2 w2 ⟨o1, b1, _, _⟩ o2 g2
        refine ⟨v2, rfl, ?_, b1.grown g2 b1.size (fun k hk => (o1.lt k hk).1)⟩
        rw [← heq, join_end vP vQ hend, ← List.append_assoc, flatE_app, flatE_app, List.length_append, List.length_append, HP, HQ]
        exact o2
      have hcond : (decide (0 < na) && decide (0 < nb)) = false := by
        rcases hend with rfl | rfl
        · obtain rfl : na = 0 := by simpa using HP.symm
          rfl
        · obtain rfl : nb = 0 := by simpa using HQ.symm
          simp
      have hl1 : l.length + na ≤ 2000 := by omega
      have HEX : Hid (l.length + na + nb ≤ 2000) := hlen
      clear rP rQ nP nQ vP vQ heq hend HP HQ hlen
      by_cases hpa : 0 < na
      · have hpb : nb = 0 := by
          simp only [hpa, decide_true, Bool.true_and, decide_eq_false_iff_not] at hcond
          omega
        subst hpb
        clear hcond
        go_wp2_with (first
          | (at_builtin; refine wpList_append_src rfl _ _ 34 rfl w.heap.size 47 i0 _ 2 16 Try.underlying34 HI.out.1 HI.out.2.1 HI.out.2.2.1 HI.out.2.2.2 rfl (by decide) _ (l.length + na) (flatE l ++ flatE P) rfl HX1.out.1 bd 0 cb (flatE Q) rfl HX1.out.2.2.1 (by unfold maxLen; omega) (by omega) HX1.out.2.2.2 (fun v2 w2 o2 g2 => ?_); have HX2 : Hid (RowP (joinL A B) w (.returned v2) w2) := HF2.out v1 w1 v2 w2 HX1.out o2 g2; clear o2 g2)
          | (at_builtin; refine wpList_append_src rfl _ _ 34 rfl w.heap.size 47 i0 _ 2 16 Try.underlying34 HI.out.1 HI.out.2.1 HI.out.2.2.1 HI.out.2.2.2 rfl (by decide) _ l.length (flatE l) rfl HO.out ad na ca (flatE P) rfl HSA.out (by unfold maxLen; omega) (by omega) HBS.out (fun v1 w1 o1 g1 => ?_); have HX1 := HF1.out v1 w1 o1 g1; have HX1 : Hid (w1.ownsRow w.heap.size 47 2 v1 (l.length + na) (flatE l ++ flatE P) ∧ Below w.heap.size w w1 ∧ SrcAt w1 bd 0 cb 2 (flatE Q) ∧ w.heap.size ≤ w1.heap.size) := HX1; clear o1 g1))
        go_ret
        exact HX2.out
      · obtain rfl : na = 0 := by omega
        clear hcond hpa
        go_wp2_with (first
          | (at_builtin; refine wpList_append_src rfl _ _ 34 rfl w.heap.size 47 i0 _ 2 16 Try.underlying34 HI.out.1 HI.out.2.1 HI.out.2.2.1 HI.out.2.2.2 rfl (by decide) _ (l.length + 0) (flatE l ++ flatE P) rfl HX1.out.1 bd nb cb (flatE Q) rfl HX1.out.2.2.1 (by have := HEX.out; unfold maxLen; omega) (by have := HEX.out; omega) HX1.out.2.2.2 (fun v2 w2 o2 g2 => ?_); have HX2 : Hid (RowP (joinL A B) w (.returned v2) w2) := HF2.out v1 w1 v2 w2 HX1.out o2 g2; clear o2 g2)
          | (at_builtin; refine wpList_append_src rfl _ _ 34 rfl w.heap.size 47 i0 _ 2 16 Try.underlying34 HI.out.1 HI.out.2.1 HI.out.2.2.1 HI.out.2.2.2 rfl (by decide) _ l.length (flatE l) rfl HO.out ad 0 ca (flatE P) rfl HSA.out (by unfold maxLen; omega) (by omega) HBS.out (fun v1 w1 o1 g1 => ?_); have HX1 := HF1.out v1 w1 o1 g1; have HX1 : Hid (w1.ownsRow w.heap.size 47 2 v1 (l.length + 0) (flatE l ++ flatE P) ∧ Below w.heap.size w w1 ∧ SrcAt w1 bd nb cb 2 (flatE Q) ∧ w.heap.size ≤ w1.heap.size) := HX1; clear o1 g1))
        go_ret
        exact HX2.out
    · obtain ⟨x, P, rfl⟩ : ∃ x R, P = x :: R := by
        cases P with
        | nil => exact absurd (.inl rfl) hend
        | cons x R => exact ⟨x, R, rfl⟩
      obtain ⟨y, Q, rfl⟩ : ∃ x R, Q = x :: R := by
        cases Q with
        | nil => exact absurd (.inr rfl) hend
        | cons x R => exact ⟨x, R, rfl⟩
      clear hend
      obtain ⟨n, rfl⟩ : ∃ n, na = n + 1 := ⟨P.length, by simpa using HP.symm⟩
      obtain ⟨m, rfl⟩ : ∃ m, nb = m + 1 := ⟨Q.length, by simpa using HQ.symm⟩
      obtain ⟨pb, po, hpa, p0, p1⟩ := rdE_head (rP.later HB.out)
      obtain ⟨qb, qo, hqa, q0, q1⟩ := rdE_head (rQ.later HB.out)
      subst hpa hqa
      have HPB : Hid (pb < w.heap.size ∧ qb < w.heap.size ∧ (w.cell? ⟨pb, po, none⟩ = some (.int .i64 x.1) ∧ w.cell? ⟨pb, po + 1, none⟩ = some (.int .i64 x.2)) ∧ (w.cell? ⟨qb, qo, none⟩ = some (.int .i64 y.1) ∧ w.cell? ⟨qb, qo + 1, none⟩ = some (.int .i64 y.2))) := by
        obtain ⟨_, _, e1, e2, e3⟩ := rdE_head rP
        cases e1
        obtain ⟨_, _, e4, e5, e6⟩ := rdE_head rQ
        cases e4
        exact ⟨World.block_lt_of_cell? w _ e2, World.block_lt_of_cell? w _ e5, ⟨e2, e3⟩, e5, e6⟩
      have HTP : Hid (RdE w (some ⟨pb, if ca = 1 then po else po + 2, none⟩) n P) := rdE_tail rP pa1
      have HTQ : Hid (RdE w (some ⟨qb, if cb = 1 then qo else qo + 2, none⟩) m Q) := rdE_tail rQ pb1
      have HRP : Hid (RdE w (some ⟨pb, po, none⟩) (n + 1) (x :: P)) := rP
      have HRQ : Hid (RdE w (some ⟨qb, qo, none⟩) (m + 1) (y :: Q)) := rQ
      have cutP := cutE_1 pb po (n + 1) ca (by omega) pa1
      have cutQ := cutE_1 qb qo (m + 1) cb (by omega) pb1
      rw [Nat.add_sub_cancel] at cutP cutQ
      generalize hpo : (if ca = 1 then po else po + 2) = po2 at HTP cutP
      generalize hqo : (if cb = 1 then qo else qo + 2) = qo2 at HTQ cutQ
      have HVP : Hid (Vec (x :: P)) := vP
      have HVQ : Hid (Vec (y :: Q)) := vQ
      have HEQ : Hid (l ++ joinL (x :: P) (y :: Q) = joinL A B) := heq
      have HLN : Hid (l.length + (n + 1) + (m + 1) ≤ 2000) := hlen
      clear hpo hqo rP rQ nP nQ vP vQ heq hlen HP HQ
      have HCM : Hid (∀ W : World, Calls Try.prog 43 #[.int .i64 x.1, .int .i64 y.1] W fun e w' => e = .returned (.int .i64 (cmI x.1 y.1)) ∧ w' = W) := fun W => compare_any x.1 y.1 W
      obtain ⟨x1, x2⟩ := x
      obtain ⟨y1, y2⟩ := y
      simp only [] at p0 p1 q0 q1 HCM HPB
      rcases Int.lt_trichotomy x1 y1 with hc | hc | hc
      · have hcm : cmI x1 y1 = -1 := by unfold cmI; rw [if_pos hc]
        rw [hcm] at HCM
        clear hcm
        go_upto_region 4 with fail
        obtain ⟨N, hN⟩ : ∃ N, N = wr.heap.size := ⟨_, rfl⟩
        obtain ⟨W0, hW0⟩ : ∃ W0, W0 = wr.alloc (.cells #[.int .i64 x1, .int .i64 x2] 47) := ⟨_, rfl⟩
        rw [← hN, ← hW0]
        have HW0 : Hid (JnW w N pb po qb qo (x1, x2) (y1, y2) (x1, x2) u5 l W0) := by
          refine ⟨?_, ?_, HPB.out.1, HPB.out.2.1, fun k hk => ?_, ?_, ?_, HPB.out.2.2.1, HPB.out.2.2.2⟩
          · rw [hW0, hN]; exact heap_alloc_new wr _
          · rw [hN]; exact HB.out.size
          · rw [hN]; exact (HO.out.lt k hk).2
          · rw [hW0]; exact own_alloc HO.out _
          · rw [hW0]; exact HB.out.alloc HB.out.size _
        clear hN hW0 p0 p1 q0 q1
        obtain ⟨p0, p1, q0, q1, z0, z1, fz0, fz1⟩ := HW0.out.cells
        simp only [] at p0 p1 q0 q1 z0 z1
        go_quiet (first | (go_at_call 43; exact Calls.quiet_of_same (HCM.out _)))
        obtain ⟨W1, hW1⟩ : ∃ W1, W1 = W0.drewN nq := ⟨_, rfl⟩
        rw [← hW1]
        have HW1 : Hid (JnW w N pb po qb qo (x1, x2) (y1, y2) (x1, x2) u5 l W1) := HW0.out.gw ⟨nq, #[], by rw [hW1, grow_empty]⟩
        clear hW1 p0 p1 q0 q1 z0 z1 fz0 fz1
        obtain ⟨p0, p1, q0, q1, z0, z1, fz0, fz1⟩ := HW1.out.cells
        simp only [] at p0 p1 q0 q1 z0 z1
        go_upto_region 11 with fail
        obtain ⟨ho, hbs, hnew⟩ := jn_app HW1.out
        have HOX : Hid ((W1.alloc (.cells #[.int .i64 x1, .int .i64 x2] 47)).ownsRow w.heap.size 47 2 u5 l.length (flatE l)) := ho
        have HBX : Hid (w.heap.size ≤ (W1.alloc (.cells #[.int .i64 x1, .int .i64 x2] 47)).heap.size) := hbs
        have HNX : Hid (∀ j v, (encE (x1, x2))[j]? = some v → (W1.alloc (.cells #[.int .i64 x1, .int .i64 x2] 47)).cell? ((⟨W1.heap.size, 0, none⟩ : Addr).add j) = some v) := hnew
        clear ho hbs hnew
        go_wp2_with (at_builtin; refine wpList_append_own _ rfl _ _ 34 rfl w.heap.size 47 i0 _ 2 16 Try.underlying34 HI.out.1 HI.out.2.1 HI.out.2.2.1 HI.out.2.2.2 rfl (by decide) _ l.length (flatE l) rfl HOX.out ⟨W1.heap.size, 0, none⟩ 1 1 (encE (x1, x2)) rfl rfl HNX.out (flatE_one' (x1, x2)) (by have := HLN.out; unfold maxLen; omega) (by have := HLN.out; omega) HBX.out (fun v2 w2 o2 g2 _ => ?_); have HO2 : Hid (w2.ownsRow w.heap.size 47 2 v2 (l.length + 1) (flatE l ++ encE (x1, x2))) := o2; have HG2 : Hid ((W1.alloc (.cells #[.int .i64 x1, .int .i64 x2] 47)).grownBy w2 u5.ownBlock) := g2; clear o2 g2)
        go_roundw
        case rel => exact ⟨_, _, _, _, _, _, rfl, rfl, jn_next HW1.out HO2.out HG2.out HTP.out (fun h => by cases h) (by omega) (by omega) HRQ.out (fun h => by cases h) (by omega) (by omega) (vec_tail HVP.out) HVQ.out (by have := HLN.out; omega) (by rw [← HEQ.out, join_lt HVP.out HVQ.out hc])⟩
        case measure => simp [slen] <;> omega
      · subst hc
        have hcm : cmI x1 x1 = 0 := by unfold cmI; rw [if_neg (by omega), if_neg (by omega)]
        rw [hcm] at HCM
        clear hcm
        go_upto_region 4 with fail
        obtain ⟨N, hN⟩ : ∃ N, N = wr.heap.size := ⟨_, rfl⟩
        obtain ⟨W0, hW0⟩ : ∃ W0, W0 = wr.alloc (.cells #[.int .i64 x1, .int .i64 x2] 47) := ⟨_, rfl⟩
        rw [← hN, ← hW0]
        have HW0 : Hid (JnW w N pb po qb qo (x1, x2) (x1, y2) (x1, x2) u5 l W0) := by
          refine ⟨?_, ?_, HPB.out.1, HPB.out.2.1, fun k hk => ?_, ?_, ?_, HPB.out.2.2.1, HPB.out.2.2.2⟩
          · rw [hW0, hN]; exact heap_alloc_new wr _
          · rw [hN]; exact HB.out.size
          · rw [hN]; exact (HO.out.lt k hk).2
          · rw [hW0]; exact own_alloc HO.out _
          · rw [hW0]; exact HB.out.alloc HB.out.size _
        clear hN hW0 p0 p1 q0 q1
        obtain ⟨p0, p1, q0, q1, z0, z1, fz0, fz1⟩ := HW0.out.cells
        simp only [] at p0 p1 q0 q1 z0 z1
        go_quiet (first | (go_at_call 43; exact Calls.quiet_of_same (HCM.out _)))
        obtain ⟨W1, hW1⟩ : ∃ W1, W1 = W0.drewN nq := ⟨_, rfl⟩
        rw [← hW1]
        have HW1 : Hid (JnW w N pb po qb qo (x1, x2) (x1, y2) (x1, x2) u5 l W1) := HW0.out.gw ⟨nq, #[], by rw [hW1, grow_empty]⟩
        clear hW1 p0 p1 q0 q1 z0 z1 fz0 fz1
        obtain ⟨p0, p1, q0, q1, z0, z1, fz0, fz1⟩ := HW1.out.cells
        simp only [] at p0 p1 q0 q1 z0 z1
        go_upto_region 5 with fail
        have hmx := max_run x2 y2
        obtain ⟨M, hM⟩ : ∃ M, M = max x2 y2 := ⟨_, rfl⟩
        rw [← hM] at hmx
        have HM : Hid (M = max x2 y2) := hM
        clear hM
        go_region
        obtain ⟨W2, hW2⟩ : ∃ W2, W2 = (W1.setCell ⟨N, 1, none⟩ (.int .i64 M)).drew := ⟨_, rfl⟩
        rw [← hW2]
        have HW2 : Hid (JnW w N pb po qb qo (x1, x2) (x1, y2) (x1, M) u5 l W2) := by
          rw [hW2]
          exact (HW1.out.set 1 M (x1, M) rfl).gw ⟨1, #[], by rw [grow_empty]; rfl⟩
        clear hW2 p0 p1 q0 q1 z0 z1 fz0 fz1
        go_upto_region 6 with fail
        go_quiet (fail)
        obtain ⟨W3, hW3⟩ : ∃ W3, W3 = W2.drewN nq := ⟨_, rfl⟩
        rw [← hW3]
        have HW3 : Hid (JnW w N pb po qb qo (x1, x2) (x1, y2) (x1, M) u5 l W3) := HW2.out.gw ⟨nq, #[], by rw [hW3, grow_empty]⟩
        clear hW3
        obtain ⟨p0, p1, q0, q1, z0, z1, fz0, fz1⟩ := HW3.out.cells
        simp only [] at p0 p1 q0 q1 z0 z1
        go_upto_region 11 with fail
        obtain ⟨ho, hbs, hnew⟩ := jn_app HW3.out
        have HOX : Hid ((W3.alloc (.cells #[.int .i64 x1, .int .i64 M] 47)).ownsRow w.heap.size 47 2 u5 l.length (flatE l)) := ho
        have HBX : Hid (w.heap.size ≤ (W3.alloc (.cells #[.int .i64 x1, .int .i64 M] 47)).heap.size) := hbs
        have HNX : Hid (∀ j v, (encE (x1, M))[j]? = some v → (W3.alloc (.cells #[.int .i64 x1, .int .i64 M] 47)).cell? ((⟨W3.heap.size, 0, none⟩ : Addr).add j) = some v) := hnew
        clear ho hbs hnew
        go_wp2_with (at_builtin; refine wpList_append_own _ rfl _ _ 34 rfl w.heap.size 47 i0 _ 2 16 Try.underlying34 HI.out.1 HI.out.2.1 HI.out.2.2.1 HI.out.2.2.2 rfl (by decide) _ l.length (flatE l) rfl HOX.out ⟨W3.heap.size, 0, none⟩ 1 1 (encE (x1, M)) rfl rfl HNX.out (flatE_one' (x1, M)) (by have := HLN.out; unfold maxLen; omega) (by have := HLN.out; omega) HBX.out (fun v2 w2 o2 g2 _ => ?_); have HO2 : Hid (w2.ownsRow w.heap.size 47 2 v2 (l.length + 1) (flatE l ++ encE (x1, M))) := o2; have HG2 : Hid ((W3.alloc (.cells #[.int .i64 x1, .int .i64 M] 47)).grownBy w2 u5.ownBlock) := g2; clear o2 g2)
        go_roundw
        case rel => exact ⟨_, _, _, _, _, _, rfl, rfl, jn_next HW3.out HO2.out HG2.out HTP.out (fun h => by cases h) (by omega) (by omega) HTQ.out (fun h => by cases h) (by omega) (by omega) (vec_tail HVP.out) (vec_tail HVQ.out) (by have := HLN.out; omega) (by rw [← HEQ.out, join_eq HVP.out HVQ.out rfl, HM.out])⟩
        case measure => simp [slen] <;> omega
      · have hcm : cmI x1 y1 = 1 := by unfold cmI; rw [if_neg (by omega), if_pos hc]
        rw [hcm] at HCM
        clear hcm
        go_upto_region 4 with fail
        obtain ⟨N, hN⟩ : ∃ N, N = wr.heap.size := ⟨_, rfl⟩
        obtain ⟨W0, hW0⟩ : ∃ W0, W0 = wr.alloc (.cells #[.int .i64 x1, .int .i64 x2] 47) := ⟨_, rfl⟩
        rw [← hN, ← hW0]
        have HW0 : Hid (JnW w N pb po qb qo (x1, x2) (y1, y2) (x1, x2) u5 l W0) := by
          refine ⟨?_, ?_, HPB.out.1, HPB.out.2.1, fun k hk => ?_, ?_, ?_, HPB.out.2.2.1, HPB.out.2.2.2⟩
          · rw [hW0, hN]; exact heap_alloc_new wr _
          · rw [hN]; exact HB.out.size
          · rw [hN]; exact (HO.out.lt k hk).2
          · rw [hW0]; exact own_alloc HO.out _
          · rw [hW0]; exact HB.out.alloc HB.out.size _
        clear hN hW0 p0 p1 q0 q1
        obtain ⟨p0, p1, q0, q1, z0, z1, fz0, fz1⟩ := HW0.out.cells
        simp only [] at p0 p1 q0 q1 z0 z1
        go_quiet (first | (go_at_call 43; exact Calls.quiet_of_same (HCM.out _)))
        obtain ⟨W1, hW1⟩ : ∃ W1, W1 = W0.drewN nq := ⟨_, rfl⟩
        rw [← hW1]
        have HW1 : Hid (JnW w N pb po qb qo (x1, x2) (y1, y2) (x1, x2) u5 l W1) := HW0.out.gw ⟨nq, #[], by rw [hW1, grow_empty]⟩
        clear hW1 p0 p1 q0 q1 z0 z1 fz0 fz1
        obtain ⟨p0, p1, q0, q1, z0, z1, fz0, fz1⟩ := HW1.out.cells
        simp only [] at p0 p1 q0 q1 z0 z1
        go_upto_region 10 with fail
        go_region
        obtain ⟨W2, hW2⟩ : ∃ W2, W2 = ((W1.setCell ⟨N, 0, none⟩ (.int .i64 y1)).setCell ⟨N, 1, none⟩ (.int .i64 y2)).drew := ⟨_, rfl⟩
        rw [← hW2]
        have HW2 : Hid (JnW w N pb po qb qo (x1, x2) (y1, y2) (y1, y2) u5 l W2) := by
          rw [hW2]
          exact ((HW1.out.set 0 y1 (y1, x2) rfl).set 1 y2 (y1, y2) rfl).gw ⟨1, #[], by rw [grow_empty]; rfl⟩
        clear hW2 p0 p1 q0 q1 z0 z1 fz0 fz1
        obtain ⟨p0, p1, q0, q1, z0, z1, fz0, fz1⟩ := HW2.out.cells
        simp only [] at p0 p1 q0 q1 z0 z1
        go_upto_region 11 with fail
        obtain ⟨ho, hbs, hnew⟩ := jn_app HW2.out
        have HOX : Hid ((W2.alloc (.cells #[.int .i64 y1, .int .i64 y2] 47)).ownsRow w.heap.size 47 2 u5 l.length (flatE l)) := ho
        have HBX : Hid (w.heap.size ≤ (W2.alloc (.cells #[.int .i64 y1, .int .i64 y2] 47)).heap.size) := hbs
        have HNX : Hid (∀ j v, (encE (y1, y2))[j]? = some v → (W2.alloc (.cells #[.int .i64 y1, .int .i64 y2] 47)).cell? ((⟨W2.heap.size, 0, none⟩ : Addr).add j) = some v) := hnew
        clear ho hbs hnew
        go_wp2_with (at_builtin; refine wpList_append_own _ rfl _ _ 34 rfl w.heap.size 47 i0 _ 2 16 Try.underlying34 HI.out.1 HI.out.2.1 HI.out.2.2.1 HI.out.2.2.2 rfl (by decide) _ l.length (flatE l) rfl HOX.out ⟨W2.heap.size, 0, none⟩ 1 1 (encE (y1, y2)) rfl rfl HNX.out (flatE_one' (y1, y2)) (by have := HLN.out; unfold maxLen; omega) (by have := HLN.out; omega) HBX.out (fun v2 w2 o2 g2 _ => ?_); have HO2 : Hid (w2.ownsRow w.heap.size 47 2 v2 (l.length + 1) (flatE l ++ encE (y1, y2))) := o2; have HG2 : Hid ((W2.alloc (.cells #[.int .i64 y1, .int .i64 y2] 47)).grownBy w2 u5.ownBlock) := g2; clear o2 g2)
        go_roundw
        case rel => exact ⟨_, _, _, _, _, _, rfl, rfl, jn_next HW2.out HO2.out HG2.out HRP.out (fun h => by cases h) (by omega) (by omega) HTQ.out (fun h => by cases h) (by omega) (by omega) HVP.out (vec_tail HVQ.out) (by have := HLN.out; omega) (by rw [← HEQ.out, join_gt HVP.out HVQ.out hc])⟩
        case measure => simp [slen] <;> omega
end Go.Proofs.Ytfagmcgcdlboiaa
