/- What HoldReady keeps between its steps, and its closure. -/
import Derived.Test.YtcmgmoacpkikdaaHoldDropsR
import Derived.Test.YtcmgmoacpkikdaaBasR
namespace Go.Proofs.Ytcmgmoacpkikdaa
open Go.RowKit Go.Sort
set_option linter.unusedVariables false
set_option linter.unusedSimpArgs false

/-- Those that may go. -/
def modB (e rs : Int) (o : Opn) : Bool := (bits .and .i64 o.s 16777215).tmod e == rs
set_option maxHeartbeats 1000000 in
theorem cl_mod (N M : Nat) (e rs : Int) (he : e ≠ 0) (o : Opn) (W : World) (hN : W.heap[N]? = some (bxI e)) (hM : W.heap[M]? = some (bxI rs)) : Calls Try.prog 30 #[o.val, .pointer (some ⟨N, 0, none⟩), .pointer (some ⟨M, 0, none⟩)] W fun z w' => z = .returned (.bool (modB e rs o)) ∧ Below W.heap.size W w' := by
  have mixed : Try.prog.follows .mixedOrders = true := by kernel_rfl
  obtain ⟨W0, hW0⟩ : ∃ W0, W0 = W.alloc (bxP o) := ⟨_, rfl⟩
  obtain ⟨X, hX⟩ : ∃ X, X = W.heap.size := ⟨_, rfl⟩
  have hb0 : Below W.heap.size W W0 := by rw [hW0]; exact (Below.refl _ W).alloc (Nat.le_refl _) _
  have hbx : W0.heap[X]? = some (bxP o) := by rw [hW0, hX]; exact heap_alloc_new W _
  have hs : W0.cell? ⟨N, 0, none⟩ = some (.int .i64 e) := cell_of_row W0 N 0 _ _ _ (bel_heap hb0 hN)
  have hs2 : W0.cell? ⟨M, 0, none⟩ = some (.int .i64 rs) := cell_of_row W0 M 0 _ _ _ (bel_heap hb0 hM)
  obtain ⟨q0, q1, q2, q3, q4, q5, q6⟩ := opAt_box hbx
  have HB : Hid (Below W.heap.size W W0) := hb0
  have HZ : Hid (modB e rs o = ((bits .and .i64 o.s 16777215).tmod e == rs)) := rfl
  generalize modB e rs o = z at HZ ⊢
  clear hN hM hbx hb0
  obtain ⟨oc, oa, os, oi, orc, ora, och⟩ := o
  simp only [Opn.val] at q0 q1 q2 q3 q4 q5 q6 HZ ⊢
  have hz := HZ.out
  go_enter Try.func30, Try.ntmps30
  go_upto_region 1 with fail
  rw [← hX, ← hW0]
  clear hX hW0 HZ
  go_quiet (fail)
  go_wp2
  go_ret
  exact ⟨by rw [hz]; rfl, bel_drewK HB.out _⟩
theorem ask_mod (N M : Nat) (e rs : Int) (he : e ≠ 0) (w : World) (hN : w.heap[N]? = some (bxI e)) (hM : w.heap[M]? = some (bxI rs)) : Ask 30 #[.pointer (some ⟨N, 0, none⟩), .pointer (some ⟨M, 0, none⟩)] (modB e rs) w :=
  ⟨fun x W => enter_of Try.func30 (by kernel_rfl) (by kernel_rfl) x W, fun o W hW => cl_mod N M e rs he o W (bel_heap hW hN) (bel_heap hW hM)⟩
/-- A hold of the call's own, two numbers' boxes, a row of the call's own. -/
def RyS (w V : World) (P N M : Nat) (e rs : Int) (l : List Opn) (wv : Value) (n : Nat) (L : List Opn) : Prop :=
  HoO w V P 40 l (fun k => (k = N ∨ k = M) ∨ wv.ownBlock = some k) ∧ V.heap[N]? = some (bxI e) ∧ V.heap[M]? = some (bxI rs) ∧ V.ownsRow w.heap.size 31 7 wv n (flatP L)
section
variable {w V V' : World} {P N M : Nat} {e rs : Int} {l l' L : List Opn} {wv : Value} {n : Nat}
theorem RyS.below (h : RyS w V P N M e rs l wv n L) : Below w.heap.size w V := h.1.below
theorem RyS.low (h : RyS w V P N M e rs l wv n L) (hb : Below V.heap.size V V') : RyS w V' P N M e rs l wv n L :=
  ⟨h.1.later hb, bel_heap hb h.2.1, bel_heap hb h.2.2.1, cg_own (cg_below hb (fun _ => False)) h.2.2.2 (fun _ _ q => q)⟩
theorem RyS.of (h : RyS w V P N M e rs l wv n L) (q : HoL w V V' P 40 l' (fun k => (k = N ∨ k = M) ∨ wv.ownBlock = some k)) : RyS w V' P N M e rs l' wv n L :=
  ⟨q.1, q.cell (.inl (.inl rfl)) h.2.1, q.cell (.inl (.inr rfl)) h.2.2.1, own_heapK h.2.2.2 (fun k hk => q.2.1 k (.inr hk))⟩
theorem RyS.len (h : RyS w V P N M e rs l wv n L) : l.length ≤ 40 ∧ AscK l := ⟨h.1.room, h.1.asc⟩
theorem RyS.cells (h : RyS w V P N M e rs l wv n L) : (V.cell? ⟨N, 0, none⟩ = some (.int .i64 e) ∧ V.frozen? ⟨N, 0, none⟩ = false) ∧ V.cell? ⟨M, 0, none⟩ = some (.int .i64 rs) ∧ V.frozen? ⟨M, 0, none⟩ = false :=
  ⟨⟨cell_of_row V N 0 _ _ _ h.2.1, Lib.frozen_of_heap h.2.1 _⟩, cell_of_row V M 0 _ _ _ h.2.2.1, Lib.frozen_of_heap h.2.2.1 _⟩
theorem RyS.lose (h : RyS w V P N M e rs l wv n L) : RyS w V P N M e rs l (.slice none 0 0) 0 [] :=
  ⟨h.1.more (Below.refl _ _) (fun k hk => .inl (by
    rcases hk with hk | hk
    · exact .inl hk
    · cases hk)), h.2.1, h.2.2.1, World.ownsRow_nil _ _ _ _⟩
theorem RyS.setN (h : RyS w V P N M e rs l (.slice none 0 0) 0 []) (hN : w.heap.size ≤ N) (hNM : M ≠ N) (v : Int) : RyS w (V.setCell ⟨N, 0, none⟩ (.int .i64 v)) P N M v rs l (.slice none 0 0) 0 [] := by
  have hc := cg_set V N 0 (.int .i64 v)
  refine ⟨h.1.chg hc (fun k hk => .inl (.inl hk)) (fun k hk => by rw [hk]; exact hN), ?_, cg_heap hc h.2.2.1 hNM, World.ownsRow_nil _ _ _ _⟩
  rw [heap_setX V N 0 _ _ _ _ h.2.1]; simp
theorem RyS.setM (h : RyS w V P N M e rs l (.slice none 0 0) 0 []) (hM : w.heap.size ≤ M) (hNM : M ≠ N) (v : Int) : RyS w (V.setCell ⟨M, 0, none⟩ (.int .i64 v)) P N M e v l (.slice none 0 0) 0 [] := by
  have hc := cg_set V M 0 (.int .i64 v)
  refine ⟨h.1.chg hc (fun k hk => .inl (.inr hk)) (fun k hk => by rw [hk]; exact hM), cg_heap hc h.2.1 (fun q => hNM q.symm), ?_, World.ownsRow_nil _ _ _ _⟩
  rw [heap_setX V M 0 _ _ _ _ h.2.2.1]; simp
end
theorem RyS.rd {w V : World} {P N M : Nat} {e rs : Int} {l L : List Opn} {a : Option Addr} {c n : Nat} (h : RyS w V P N M e rs l (.slice a n c) n L) : RdP V a n L ∧ n ≤ c ∧ c ≤ 9223372036854775807 := by
  obtain ⟨a', c', hv, q1, q2, hr, _⟩ := rdP_own h.2.2.2
  cases hv
  exact ⟨hr, q1, q2⟩
theorem r_add {w V : World} {P N M : Nat} {e rs : Int} {l L : List Opn} {wv : Value} {n : Nat} (h : RyS w V P N M e rs l wv n L) (o : Opn) :
    Calls Try.prog 20 #[.pointer (some ⟨P, 0, none⟩), o.val] V fun z w' => z = .returned (.int .i64 (addE l 40 o)) ∧ RyS w w' P N M e rs (addK l 40 o) wv n L := (h_add h.1 o (by have := h.len.1; omega)).mono (by
  rintro z w' ⟨rfl, q⟩
  exact ⟨rfl, h.of q⟩)
theorem r_all {w V : World} {P N M : Nat} {e rs : Int} {l L : List Opn} {wv : Value} {n : Nat} (h : RyS w V P N M e rs l wv n L) :
    Calls Try.prog 22 #[.pointer (some ⟨P, 0, none⟩)] V fun z w' => ∃ a c, z = .returned (.slice a l.length c) ∧ RdP w' a l.length l ∧ RyS w w' P N M e rs l wv n L ∧ RyS w w' P N M e rs l (.slice a l.length c) l.length l ∧ Below V.heap.size V w' := (h_all h.1).mono (by
  rintro z w' ⟨a, c, rfl, q1, q2, q3⟩
  refine ⟨a, c, rfl, q2, h.low q3, ⟨h.1.more q3 (fun k hk => ?_), bel_heap q3 h.2.1, bel_heap q3 h.2.2.1, own_baseK q1 h.below.size⟩, q3⟩
  rcases hk with hk | hk
  · exact .inl (.inl hk)
  · exact .inr (q1.lt k hk))
theorem r_same {w V : World} {P N M : Nat} {e rs : Int} {l L : List Opn} {n : Nat} {wv : Value} (h : RyS w V P N M e rs l wv n L) (A B : List Opn) (a b : Option Addr) (p q c d : Nat) (hA : RdP V a p A) (hB : RdP V b q B) (hp : p ≤ 100000) (z : Bool) (hz : z = true ↔ A = B) :
    Calls Try.prog 23 #[.slice a p c, .slice b q d] V fun y w' => y = .returned (.bool z) ∧ RyS w w' P N M e rs l wv n L ∧ Below V.heap.size V w' := (sameK_any A B a b p q c d V hA hB hp z hz).mono (by
  rintro y w' ⟨rfl, q⟩
  exact ⟨rfl, h.low q, q⟩)
theorem r_ready {w V : World} {P N M : Nat} {e rs : Int} {l L : List Opn} {wv : Value} {n : Nat} (h : RyS w V P N M e rs l wv n L) (he : e ≠ 0) :
    Calls Try.prog 13 #[.pointer (some ⟨P, 0, none⟩), .func (.func 30) #[] #[.pointer (some ⟨N, 0, none⟩), .pointer (some ⟨M, 0, none⟩)]] V fun z w' => (∃ o, l.find? (modB e rs) = some o ∧ z = .returned (.tuple #[o.val, .bool true]) ∧ RyS w w' P N M e rs (remK l o.a o.s) wv n L) ∨ (l.find? (modB e rs) = none ∧ z = .returned (.tuple #[op0.val, .bool false]) ∧ RyS w w' P N M e rs l wv n L) := (h_ready h.1 _ _ _ (ask_mod N M e rs he V h.2.1 h.2.2.1)).mono (by
  rintro z w' (⟨o, q1, q2, q3⟩ | ⟨q1, q2, q3⟩)
  · exact .inl ⟨o, q1, q2, h.of q3⟩
  · exact .inr ⟨q1, q2, h.low q3⟩)
theorem srcP_take {w : World} {g n c k : Nat} {l : List Opn} (h : RdP w (some ⟨g, 0, none⟩) n l) (hk : k ≤ n) : SrcAt w (some ⟨g, 0, none⟩) k c 7 (flatP (l.take k)) := by
  have hl := h.1
  refine ⟨by rw [flatP_len, List.length_take]; omega, (fun q => by cases q), fun a ha j u hu => ?_, flatP_cells _⟩
  cases ha
  rw [add_lit14]
  have hj : j < 7 * k := by
    have := (List.getElem?_eq_some_iff.1 hu).1
    rw [flatP_len, List.length_take] at this
    omega
  obtain ⟨b, off, hb, hc⟩ := h.2 (by omega)
  cases hb
  refine hc j u ?_
  rw [(flatP_take l k (by omega)).1, List.getElem?_take, if_pos hj] at hu
  exact hu
theorem srcP_drop {w : World} {g n c c' k o1 : Nat} {l : List Opn} (h : RdP w (some ⟨g, 0, none⟩) n l) (hk : k < n) (hnc : n ≤ c) (ho : o1 = if c = k + 1 then 0 else (k + 1) * 7) : SrcAt w (some ⟨g, o1, none⟩) (n - (k + 1)) c' 7 (flatP (l.drop (k + 1))) := by
  have hl := h.1
  refine ⟨by rw [flatP_len, List.length_drop]; omega, (fun q => by cases q), fun a ha j u hu => ?_, flatP_cells _⟩
  cases ha
  rw [add_lit14]
  have hj : j < 7 * (n - (k + 1)) := by
    have := (List.getElem?_eq_some_iff.1 hu).1
    rw [flatP_len, List.length_drop] at this
    omega
  rw [if_neg (by omega)] at ho
  subst ho
  obtain ⟨b, off, hb, hc⟩ := h.2 (by omega)
  cases hb
  have := hc ((k + 1) * 7 + j) u (by
    rw [(flatP_take l (k + 1) (by omega)).2, List.getElem?_drop] at hu
    rw [← hu]
    congr 1
    omega)
  rw [Nat.zero_add] at this
  exact this
theorem RyS.form {w V : World} {P N M : Nat} {e rs : Int} {l L : List Opn} {a : Option Addr} {c n : Nat} (h : RyS w V P N M e rs l (.slice a n c) n L) (hn : 0 < n) : ∃ g, a = some ⟨g, 0, none⟩ := by
  obtain ⟨g, cap, hv, _⟩ := h.2.2.2.form hn
  cases hv
  exact ⟨g, rfl⟩
/-- What stands at the first place is it, and the others stay in their order. -/
theorem rem_at {l : List Opn} (hA : AscK l) (k : Nat) (hk : k < l.length) : remK l (l.getD k op0).a (l.getD k op0).s = l.take k ++ l.drop (k + 1) :=
  (bs_rem hA (by simp [fnK, hk])).symm
end Go.Proofs.Ytcmgmoacpkikdaa
