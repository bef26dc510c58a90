/- Two holds of the call's own, apart: what each call leaves of both; the mathematics of HoldOrder. -/
import Derived.Test.YtcmgmoacpkikdaaHoldDropsR
namespace Go.Proofs.Ytcmgmoacpkikdaa
open Go.RowKit Go.Sort
set_option linter.unusedVariables false
set_option linter.unusedSimpArgs false

/-- Two holds, a number's box, a row of the call's own, all apart. -/
def OrS (w V : World) (A B N : Nat) (au : Int) (la lb : List Opn) (wv : Value) (n : Nat) (L : List Opn) : Prop :=
  Below w.heap.size w V ∧ (la.length ≤ 1000 ∧ lb.length ≤ 1000) ∧ (∃ va vb, HoS V w.heap.size A 40 la va ∧ HoS V w.heap.size B 40 lb vb ∧ (∀ k, OwnH A va k → ¬ OwnH B vb k) ∧ (∀ k, (k = N ∨ wv.ownBlock = some k) → ¬ OwnH A va k ∧ ¬ OwnH B vb k)) ∧ V.heap[N]? = some (bxI au) ∧ V.ownsRow w.heap.size 31 7 wv n (flatP L)
section
variable {w V V' : World} {A B N : Nat} {au : Int} {la lb la' L : List Opn} {wv : Value} {n : Nat}
theorem OrS.swap (h : OrS w V A B N au la lb wv n L) : OrS w V B A N au lb la wv n L := by
  obtain ⟨h1, h2, ⟨va, vb, p1, p2, p3, p4⟩, h3, h4⟩ := h
  exact ⟨h1, ⟨h2.2, h2.1⟩, ⟨vb, va, p2, p1, fun k q1 q2 => p3 k q2 q1, fun k hk => ⟨(p4 k hk).2, (p4 k hk).1⟩⟩, h3, h4⟩
theorem OrS.below (h : OrS w V A B N au la lb wv n L) : Below w.heap.size w V := h.1
theorem OrS.low (h : OrS w V A B N au la lb wv n L) (hb : Below V.heap.size V V') : OrS w V' A B N au la lb wv n L := by
  obtain ⟨h1, h2, ⟨va, vb, p1, p2, p3, p4⟩, h3, h4⟩ := h
  exact ⟨h1.trans (hb.mono h1.size), h2, ⟨va, vb, p1.later hb, p2.later hb, p3, p4⟩, bel_heap hb h3, cg_own (cg_below hb (fun _ => False)) h4 (fun _ _ q => q)⟩
/-- The first hold as one of the call's own, apart from all the others. -/
theorem OrS.one (h : OrS w V A B N au la lb wv n L) : ∃ hs : Nat → Prop, HoO w V A 40 la hs ∧ ∀ V' la', HoL w V V' A 40 la' hs → OrS w V' A B N au la' lb wv n L := by
  obtain ⟨h1, h2, ⟨va, vb, p1, p2, p3, p4⟩, h3, h4⟩ := h
  refine ⟨fun k => (k = N ∨ wv.ownBlock = some k) ∨ OwnH B vb k, ⟨h1, ⟨by omega, h2.1⟩, va, p1, fun k hk => ?_⟩, fun V' la' q => ?_⟩
  · rcases hk with hk | hk
    · refine ⟨?_, (p4 k hk).1⟩
      rcases hk with rfl | hk
      · exact (Array.getElem?_eq_some_iff.1 h3).1
      · exact (h4.lt k hk).2
    · exact ⟨(p2.lt k hk).1, fun q => p3 k q hk⟩
  · obtain ⟨⟨q1, q2, va', q3, q4⟩, q5, q6⟩ := q
    refine ⟨q1, ⟨q2.2, h2.2⟩, ⟨va', vb, q3, ?_, fun k z1 z2 => (q4 k (.inr z2)).2 z1, fun k hk => ⟨(q4 k (.inl hk)).2, (p4 k hk).2⟩⟩, ?_, ?_⟩
    · have hsame : ∀ k, OwnH B vb k → V'.heap[k]? = V.heap[k]? := fun k hk => q5 k (.inr hk)
      refine ⟨p2.low, (hsame B (.inl rfl)).trans p2.box, own_heapK p2.row (fun k hk => hsame k (.inr hk)), p2.asc, p2.room⟩
    · exact (q5 N (.inl (.inl rfl))).trans h3
    · exact own_heapK h4 (fun k hk => q5 k (.inl (.inr hk)))
theorem OrS.len (h : OrS w V A B N au la lb wv n L) : la.length ≤ 40 ∧ AscK la := by
  obtain ⟨hs, h1, _⟩ := h.one
  exact ⟨h1.room, h1.asc⟩
end
theorem o_add {w V : World} {A B N : Nat} {au : Int} {la lb L : List Opn} {wv : Value} {n : Nat} (h : OrS w V A B N au la lb wv n L) (o : Opn) :
    Calls Try.prog 20 #[.pointer (some ⟨A, 0, none⟩), o.val] V fun z w' => z = .returned (.int .i64 (addE la 40 o)) ∧ OrS w w' A B N au (addK la 40 o) lb wv n L := by
  obtain ⟨hs, h1, h2⟩ := h.one
  refine (h_add h1 o (by have := h1.room; omega)).mono ?_
  rintro z w' ⟨rfl, q⟩
  exact ⟨rfl, h2 _ _ q⟩
theorem o_has {w V : World} {A B N : Nat} {au : Int} {la lb L : List Opn} {wv : Value} {n : Nat} (h : OrS w V A B N au la lb wv n L) (a s : Int) :
    Calls Try.prog 18 #[.pointer (some ⟨A, 0, none⟩), .int .i64 a, .int .i64 s] V fun z w' => z = .returned (.bool (hasK la a s)) ∧ OrS w w' A B N au la lb wv n L := by
  obtain ⟨hs, h1, h2⟩ := h.one
  refine (h_has h1 a s).mono ?_
  rintro z w' ⟨rfl, q⟩
  exact ⟨rfl, h.low q⟩
theorem o_len {w V : World} {A B N : Nat} {au : Int} {la lb L : List Opn} {wv : Value} {n : Nat} (h : OrS w V A B N au la lb wv n L) : Calls Try.prog 25 #[.pointer (some ⟨A, 0, none⟩)] V fun z w' => z = .returned (.int .i64 (la.length : Int)) ∧ w' = V := by
  obtain ⟨hs, h1, h2⟩ := h.one
  exact h_len h1
theorem o_all {w V : World} {A B N : Nat} {au : Int} {la lb L : List Opn} {wv : Value} {n : Nat} (h : OrS w V A B N au la lb wv n L) : Calls Try.prog 22 #[.pointer (some ⟨A, 0, none⟩)] V fun z w' => ∃ a c, z = .returned (.slice a la.length c) ∧ RdP w' a la.length la ∧ OrS w w' A B N au la lb wv n L ∧ Below V.heap.size V w' := by
  obtain ⟨hs, h1, h2⟩ := h.one
  refine (h_all h1).mono ?_
  rintro z w' ⟨a, c, rfl, q1, q2, q3⟩
  exact ⟨a, c, rfl, q2, h.low q3, q3⟩
theorem o_drop {w V : World} {A B N : Nat} {au : Int} {la lb L : List Opn} {wv : Value} {n : Nat} (h : OrS w V A B N au la lb wv n L) :
    Calls Try.prog 16 #[.pointer (some ⟨A, 0, none⟩), .func (.func 29) #[] #[.pointer (some ⟨N, 0, none⟩)]] V fun z w' => z = .returned (.int .i64 ((la.length : Int) - ((la.filter fun x => !decide (x.a ≤ au)).length : Int))) ∧ OrS w w' A B N au (la.filter fun x => !decide (x.a ≤ au)) lb wv n L := by
  obtain ⟨hs, h1, h2⟩ := h.one
  refine (h_drop h1 _ _ _ (ask_le N au V h.2.2.2.1)).mono ?_
  rintro z w' ⟨rfl, q⟩
  exact ⟨rfl, h2 _ _ q⟩
theorem o_same {w V : World} {A B N : Nat} {au : Int} {la lb L : List Opn} {wv : Value} {n : Nat} (h : OrS w V A B N au la lb wv n L) (X Y : List Opn) (a b : Option Addr) (p q c d : Nat) (hA : RdP V a p X) (hB : RdP V b q Y) (hp : p ≤ 100000) (z : Bool) (hz : z = true ↔ X = Y) :
    Calls Try.prog 23 #[.slice a p c, .slice b q d] V fun y w' => y = .returned (.bool z) ∧ OrS w w' A B N au la lb wv n L := (sameK_any X Y a b p q c d V hA hB hp z hz).mono (by
  rintro y w' ⟨rfl, q⟩
  exact ⟨rfl, h.low q⟩)
/-- The second hold is made. -/
theorem o_new {w V : World} {A N : Nat} {au : Int} (h : HoO w V A 40 [] (fun k => k = N)) (hN : V.heap[N]? = some (bxI au)) :
    Calls Try.prog 10 #[.int .i64 40] V fun z w' => ∃ B, z = .returned (.pointer (some ⟨B, 0, none⟩)) ∧ OrS w w' A B N au [] [] (.slice none 0 0) 0 [] := by
  obtain ⟨h1, h2, va, h3, h4⟩ := h
  refine (newK_any 40 V).mono ?_
  rintro z w' ⟨rfl, q1, q2⟩
  refine ⟨V.heap.size, rfl, h1.trans (q2.mono h1.size), ⟨by simp, by simp⟩, ⟨va, _, h3.later q2, ⟨h1.size, q1.box, World.ownsRow_nil _ _ _ _, q1.asc, q1.room⟩, fun k hk z => ?_, fun k hk => ?_⟩, bel_heap q2 hN, World.ownsRow_nil _ _ _ _⟩
  · have := (h3.lt k hk).1
    rcases z with rfl | z
    · omega
    · cases z
  · rcases hk with rfl | hk
    · refine ⟨(h4 k rfl).2, fun z => ?_⟩
      have := (h4 k rfl).1
      rcases z with rfl | z
      · omega
      · cases z
    · cases hk
/-- The row of the call's own grows. -/
theorem OrS.grow {w V V1 V2 : World} {A B N : Nat} {au : Int} {la lb L : List Opn} {wv : Value} {n : Nat} (h : OrS w V A B N au la lb wv n L) (hb : Below V.heap.size V V1) {g c : Nat} {o : Opn}
    (r1 : V2.ownsRow w.heap.size 31 7 (.slice (some ⟨g, 0, none⟩) (n + 1) c) (n + 1) (flatP L ++ encP o)) (r2 : V1.grownBy V2 wv.ownBlock) (r3 : wv.ownBlock = some g ∨ g = V1.heap.size) : OrS w V2 A B N au la lb (.slice (some ⟨g, 0, none⟩) (n + 1) c) (n + 1) (L ++ [o]) := by
  obtain ⟨h1, h2, ⟨va, vb, p1, p2, p3, p4⟩, h3, h4⟩ := h.low hb
  have hc := cg_gb r2
  have hNw : ¬ wv.ownBlock = some N → True := fun _ => trivial
  have hlt : ∀ k, wv.ownBlock = some k → w.heap.size ≤ k := fun k hk => (h4.lt k hk).1
  have hne : ¬ wv.ownBlock = some N := fun e => by
    rcases h4.2 with ⟨rfl, _⟩ | ⟨g', cap', cur, rfl, _, hg, _⟩
    · cases e
    · simp [Value.ownBlock] at e
      subst e
      rw [h3] at hg
      simp at hg
  refine ⟨h1.trans (cg_bel hc h1.size hlt), h2, ⟨va, vb, p1.chg hc (fun k hk q => (p4 k (.inr q)).1 hk), p2.chg hc (fun k hk q => (p4 k (.inr q)).2 hk), p3, fun k hk => ?_⟩, cg_heap hc h3 hne, by rw [flatP_app, flatP_one]; exact r1⟩
  rcases hk with hk | hk
  · exact p4 k (.inl hk)
  · simp [Value.ownBlock] at hk
    subst hk
    rcases r3 with z | z
    · exact p4 g (.inr z)
    · exact ⟨fun q => by have := (p1.lt g q).1; omega, fun q => by have := (p2.lt g q).1; omega⟩
/-- Behind operations: the hold has just the unlike ones. -/
def UnK (la U : List Opn) : Prop := AscK la ∧ la.length = U.length ∧ ∀ x, x ∈ la ↔ x ∈ U
theorem unK_has {la U : List Opn} {o : Opn} (h : UnK la U) (hh : hasK la o.a o.s = true) (r : Nat) : UnK (addK la r o) U := by
  rw [(addK_has hh).1]; exact h
theorem unK_new {la U : List Opn} {o : Opn} (h : UnK la U) (hh : hasK la o.a o.s = false) {r : Nat} (hr : la.length < r) : UnK (addK la r o) (U ++ [o]) := by
  obtain ⟨h1, h2, h3⟩ := h
  rw [(addK_new hh hr).1]
  refine ⟨putK_asc la o h1 hh, by rw [putK_len, List.length_append, h2]; rfl, fun x => ?_⟩
  rw [putK_mem, List.mem_append, List.mem_singleton, h3]
  constructor <;> rintro (q | q) <;> simp [q]
/-- From the last one back: those from j on are there, all that are there are of them. -/
def BkK (la lb U : List Opn) (j : Nat) : Prop := AscK lb ∧ (∀ x ∈ lb, x ∈ la) ∧ ∀ k, j ≤ k → k < U.length → U.getD k op0 ∈ lb
theorem bkK_down {la lb U : List Opn} {j : Nat} (hu : UnK la U) (h : BkK la lb U (j + 1)) (hj : j < U.length) (hl : la.length ≤ 40) : BkK la (addK lb 40 (U.getD j op0)) U j ∧ addE lb 40 (U.getD j op0) = 0 := by
  obtain ⟨h1, h2, h3⟩ := h
  have hx : U.getD j op0 ∈ la := (hu.2.2 _).2 (op_getD U j hj)
  obtain ⟨z1, z2, z3, z4, z5, _⟩ := add_back (r := 40) h1 hu.1 h2 hx hl
  refine ⟨⟨z1, z2, fun k q1 q2 => ?_⟩, z5⟩
  rcases Nat.eq_or_lt_of_le q1 with rfl | q1
  · exact z3
  · exact z4 _ (h3 k q1 q2)
theorem bkK_end {la lb U : List Opn} (hu : UnK la U) (h : BkK la lb U 0) : lb = la := by
  obtain ⟨h1, h2, h3⟩ := h
  refine asc_ext lb la h1 hu.1 fun x => ⟨h2 x, fun hx => ?_⟩
  obtain ⟨k, hk, rfl⟩ := List.mem_iff_getElem.1 ((hu.2.2 x).1 hx)
  have := h3 k (Nat.zero_le _) hk
  simpa [hk] using this
end Go.Proofs.Ytcmgmoacpkikdaa
