/- RgaKeeps: what lies ready between its calls. -/
import Derived.Test.YtlelbepfkkaojaaDoorRgKm
namespace Go.Proofs.YtlelbepfkkaojaaDoor
open Go.RowKit Go.Shelf Go.Maps Go.Sort
set_option linter.unusedVariables false
set_option linter.unusedSimpArgs false

abbrev nob (_ : Nat) : Prop := False
def KpA (w W : World) (P : Nat) (O : List Opn) (a1 : Option Addr) (n1 c1 : Nat) : Prop :=
  W.ownsRow w.heap.size 30 2 (.slice a1 n1 c1) n1 (flatE (idsOf (els O))) ∧ RgS w W P O (fun k => (Value.slice a1 n1 c1).ownBlock = some k)
def KpB (w W : World) (P : Nat) (O : List Opn) (a1 : Option Addr) (n1 c1 : Nat) (a2 : Option Addr) (n2 c2 : Nat) : Prop :=
  W.ownsRow w.heap.size 30 2 (.slice a1 n1 c1) n1 (flatE (idsOf (els O))) ∧ W.ownsRow w.heap.size 30 2 (.slice a2 n2 c2) n2 (flatE (visI (els O))) ∧ RgS w W P O (fun k => (Value.slice a1 n1 c1).ownBlock = some k ∨ (Value.slice a2 n2 c2).ownBlock = some k)
def KpC (w W : World) (P : Nat) (O : List Opn) (A I : List (Int × Int)) (a1 : Option Addr) (n1 : Nat) (a2 : Option Addr) (n2 : Nat) : Prop :=
  RgS w W P O nob ∧ RdE W a1 n1 A ∧ RdE W a2 n2 I ∧ n1 ≤ 100 ∧ n2 ≤ 100
/-- Behind an operation, and behind all that is read then. -/
def KpD (w W : World) (P : Nat) (O : List Opn) (A I : List (Int × Int)) (a1 : Option Addr) (n1 : Nat) (a2 : Option Addr) (n2 : Nat) (a3 : Option Addr) (n3 : Nat) : Prop :=
  KpC w W P O A I a1 n1 a2 n2 ∧ RdE W a3 n3 (idsOf (els O)) ∧ n3 ≤ 100
theorem own_heapX {w w' : World} {B n s : Nat} {e : TypeId} {v : Value} {xs : List Value} (h : w.ownsRow B e s v n xs) (hh : ∀ k, v.ownBlock = some k → w'.heap[k]? = w.heap[k]?) : w'.ownsRow B e s v n xs := by
  obtain ⟨hl, h1 | ⟨g, cap, cur, rfl, h1, h2, h3⟩⟩ := h
  · exact ⟨hl, .inl h1⟩
  · exact ⟨hl, .inr ⟨g, cap, cur, rfl, h1, (hh g rfl).trans h2, h3⟩⟩
theorem kp_ids {w W : World} {P : Nat} {O : List Opn} {a1 : Option Addr} {n1 c1 : Nat} (h : KpA w W P O a1 n1 c1) (hl : O.length ≤ 100) :
    Calls Tryd.prog 7 #[.pointer (some ⟨P, 0, none⟩)] W fun e w' => ∃ a2 n2 c2, e = .returned (.slice a2 n2 c2) ∧ KpB w w' P O a1 n1 c1 a2 n2 c2 := by
  obtain ⟨h1, h2⟩ := h
  refine (s_ids h2 (by omega)).mono fun e w' q => ?_
  obtain ⟨v, rfl, q1, q2⟩ := q
  obtain ⟨a, c, rfl, _⟩ := rdE_own14 q1
  refine ⟨_, _, _, rfl, own_laterX h1 q2, ownsRow_base_a q1 h2.below.size, h2.more q2 fun k hk => ?_⟩
  rcases hk with hk | hk
  · exact .inl hk
  · exact .inr (q1.lt k hk)
theorem kp_put {w W : World} {P : Nat} {O : List Opn} {a1 : Option Addr} {n1 c1 : Nat} {a2 : Option Addr} {n2 c2 : Nat} (h : KpB w W P O a1 n1 c1 a2 n2 c2) (hl : O.length ≤ 100) (x : Opn) :
    Calls Tryd.prog 6 #[.pointer (some ⟨P, 0, none⟩), .agg #[.int .i64 x.c, .int .i64 x.a, .int .i64 x.s, .bool x.ins, .int .i64 x.rc, .int .i64 x.ra, .int .i32 x.ch]] W fun e w' => e = .returned (.tuple #[.bool (putA O x).1, .int .i64 (putA O x).2]) ∧ KpC w w' P (putO O x) (idsOf (els O)) (visI (els O)) a1 n1 a2 n2 := by
  obtain ⟨h1, h2, h3⟩ := h
  refine (s_put h3 x (by omega)).mono fun e w' q => ?_
  obtain ⟨rfl, q1, q2, q3⟩ := q
  obtain ⟨_, _, e1, _, _, r1, _⟩ := rdE_own14 (own_heapX h1 fun k hk => q2 k (.inl hk))
  obtain ⟨_, _, e2, _, _, r2, _⟩ := rdE_own14 (own_heapX h2 fun k hk => q2 k (.inr hk))
  cases e1; cases e2
  have l1 := ids_len O
  have l2 := visI_len O
  have m1 : n1 = (idsOf (els O)).length := r1.1.symm
  have m2 : n2 = (visI (els O)).length := r2.1.symm
  exact ⟨rfl, q1.more (Below.refl _ _) (fun k hk => hk.elim), r1, r2, by omega, by omega⟩
theorem KpC.later {w W W' : World} {P : Nat} {O : List Opn} {A I : List (Int × Int)} {a1 : Option Addr} {n1 : Nat} {a2 : Option Addr} {n2 : Nat} (h : KpC w W P O A I a1 n1 a2 n2) (hb : Below W.heap.size W W') : KpC w W' P O A I a1 n1 a2 n2 :=
  ⟨h.1.later hb, h.2.1.later hb, h.2.2.1.later hb, h.2.2.2⟩
theorem KpD.later {w W W' : World} {P : Nat} {O : List Opn} {A I : List (Int × Int)} {a1 : Option Addr} {n1 : Nat} {a2 : Option Addr} {n2 : Nat} {a3 : Option Addr} {n3 : Nat} (h : KpD w W P O A I a1 n1 a2 n2 a3 n3) (hb : Below W.heap.size W W') : KpD w W' P O A I a1 n1 a2 n2 a3 n3 :=
  ⟨h.1.later hb, h.2.1.later hb, h.2.2⟩
section
variable {w : World} {P : Nat} {O : List Opn} {A I : List (Int × Int)} {a1 : Option Addr} {n1 : Nat} {a2 : Option Addr} {n2 : Nat} {a3 : Option Addr} {n3 : Nat}
local notation "KD" W => KpD w W P O A I a1 n1 a2 n2 a3 n3
theorem kd_ids {W : World} (h : KD W) (hl : O.length ≤ 100) :
    Calls Tryd.prog 7 #[.pointer (some ⟨P, 0, none⟩)] W fun e w' => ∃ a n c, e = .returned (.slice a n c) ∧ (KD w') ∧ RdE w' a n (visI (els O)) ∧ n ≤ 100 ∧ Below W.heap.size W w' := by
  refine (s_ids h.1.1 (by omega)).mono fun e w' q => ?_
  obtain ⟨v, rfl, q1, q2⟩ := q
  obtain ⟨a, c, rfl, _, _, r, _⟩ := rdE_own14 q1
  have := visI_len O
  exact ⟨_, _, _, rfl, h.later q2, r, by omega, q2⟩
theorem kd_alive {W : World} (h : KD W) (hl : O.length ≤ 100) (i1 i2 : Int) (hi : (Lit.int .i64 i2).wf = true) :
    Calls Tryd.prog 12 #[.pointer (some ⟨P, 0, none⟩), .agg #[.int .i64 i1, .int .i64 i2]] W fun e w' => e = .returned (.bool (aliveE O (i1, i2))) ∧ KD w' :=
  (s_alive h.1.1 (by omega) i1 i2 hi).mono fun e w' q => ⟨q.1, h.later q.2.below⟩
end
end Go.Proofs.YtlelbepfkkaojaaDoor
