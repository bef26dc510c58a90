/- An index and the reference's row side by side, and a step's box beside them: what each function leaves of them. -/
import Derived.Test.YtpahbofccloeaaaDoorIxQ
namespace Go.Proofs.YtpahbofccloeaaaDoor
open Go.RowKit
set_option linter.unusedVariables false
set_option linter.unusedSimpArgs false

/-- An index and a reference of the call's own, apart. -/
def PlR (w0 w : World) (P R : Nat) (L M : List Bool) : Prop := ∃ v u, IxAt w P w0.heap.size v L ∧ RfAt w R w0.heap.size u M ∧ (∀ k, OwnX P v k → ¬ OwnX R u k) ∧ Below w0.heap.size w0 w
/-- .. and a box apart from both. -/
def PlS (w0 w : World) (P R S : Nat) (c : Array Value) (L M : List Bool) : Prop := ∃ v u, IxAt w P w0.heap.size v L ∧ RfAt w R w0.heap.size u M ∧ (∀ k, OwnX P v k → ¬ OwnX R u k) ∧ ¬ OwnX P v S ∧ ¬ OwnX R u S ∧ w.heap[S]? = some (.cells c 31) ∧ Below w0.heap.size w0 w
theorem rf_ge {w : World} {R B k : Nat} {u : Value} {M : List Bool} (h : RfAt w R B u M) (hk : OwnX R u k) : B ≤ k ∧ k < w.heap.size := by
  rcases hk with rfl | hk
  · exact ⟨h.2.2.2, (Array.getElem?_eq_some_iff.1 h.1).1⟩
  · exact h.2.1.lt k hk
theorem PlS.ix {w0 w : World} {P R S : Nat} {c : Array Value} {L M : List Bool} (h : PlS w0 w P R S c L M) : IxS w0 w P L := by
  obtain ⟨v, u, h1, h2, h3, h4, h5, h6, h7⟩ := h
  exact ⟨v, h1, h7⟩
theorem PlS.rf {w0 w : World} {P R S : Nat} {c : Array Value} {L M : List Bool} (h : PlS w0 w P R S c L M) : ∃ u, RfAt w R w0.heap.size u M := by
  obtain ⟨v, u, h1, h2, h3, h4, h5, h6, h7⟩ := h
  exact ⟨u, h2⟩
theorem PlS.pair {w0 w : World} {P R S : Nat} {c : Array Value} {L M : List Bool} (h : PlS w0 w P R S c L M) : PlR w0 w P R L M := by
  obtain ⟨v, u, h1, h2, h3, h4, h5, h6, h7⟩ := h
  exact ⟨v, u, h1, h2, h3, h7⟩
theorem PlR.ix {w0 w : World} {P R : Nat} {L M : List Bool} (h : PlR w0 w P R L M) : IxS w0 w P L := by
  obtain ⟨v, u, h1, h2, h3, h7⟩ := h
  exact ⟨v, h1, h7⟩
theorem PlR.rf {w0 w : World} {P R : Nat} {L M : List Bool} (h : PlR w0 w P R L M) : ∃ u, RfAt w R w0.heap.size u M := by
  obtain ⟨v, u, h1, h2, h3, h7⟩ := h
  exact ⟨u, h2⟩
theorem PlS.drewN {w0 w : World} {P R S : Nat} {c : Array Value} {L M : List Bool} (h : PlS w0 w P R S c L M) (q : Nat) : PlS w0 (w.drewN q) P R S c L M := by
  obtain ⟨v, u, h1, h2, h3, h4, h5, h6, h7⟩ := h
  exact ⟨v, u, h1, h2, h3, h4, h5, h6, h7.os, h7.tape, h7.output, h7.size, h7.block⟩
theorem PlR.drewN {w0 w : World} {P R : Nat} {L M : List Bool} (h : PlR w0 w P R L M) (q : Nat) : PlR w0 (w.drewN q) P R L M := by
  obtain ⟨v, u, h1, h2, h3, h7⟩ := h
  exact ⟨v, u, h1, h2, h3, h7.os, h7.tape, h7.output, h7.size, h7.block⟩
theorem PlR.box {w0 w : World} {P R : Nat} {L M : List Bool} (h : PlR w0 w P R L M) (c : Array Value) : PlS w0 (w.alloc (.cells c 31)) P R w.heap.size c L M := by
  obtain ⟨v, u, h1, h2, h3, h7⟩ := h
  have hb : Below w.heap.size w (w.alloc (.cells c 31)) := (Below.refl _ w).alloc (Nat.le_refl _) _
  exact ⟨v, u, h1.later hb, h2.keep (Q := fun _ => False) (cg_below hb _) (fun _ _ h => h), h3, fun e => by have := (own_ge h1 e).2; omega, fun e => by have := (rf_ge h2 e).2; omega, heap_alloc_new w _, h7.trans (hb.mono h7.size)⟩
theorem PlS.put1 {w0 w w' : World} {P R S : Nat} {c : Array Value} {L L' M : List Bool} {v u : Value} (h1 : IxAt w P w0.heap.size v L) (h2 : RfAt w R w0.heap.size u M) (h3 : ∀ k, OwnX P v k → ¬ OwnX R u k) (h4 : ¬ OwnX P v S) (h5 : ¬ OwnX R u S) (h6 : w.heap[S]? = some (.cells c 31)) (h7 : Below w0.heap.size w0 w) (hp : PutP P w0.heap.size v L' w w') : PlS w0 w' P R S c L' M := by
  obtain ⟨v', r1, r2, r3⟩ := hp
  have hS : S < w.heap.size := (Array.getElem?_eq_some_iff.1 h6).1
  refine ⟨v', u, r1, h2.keep r2 (fun k hk hq => h3 k hq hk), fun k x y => ?_, fun e => ?_, h5, cg_heap r2 h6 h4, chg_keeps (B := 0) h1 h7 r2⟩
  · have hy := (rf_ge h2 y).2
    rcases x with rfl | x
    · exact h3 _ (.inl rfl) y
    · rcases r3 k x with r | r
      · exact h3 k (.inr r) y
      · omega
  · rcases e with rfl | x
    · exact h4 (.inl rfl)
    · rcases r3 S x with r | r
      · exact h4 (.inr r)
      · omega
theorem PlS.put2 {w0 w w' : World} {P R S : Nat} {c : Array Value} {L M M' : List Bool} {v u : Value} (h1 : IxAt w P w0.heap.size v L) (h2 : RfAt w R w0.heap.size u M) (h3 : ∀ k, OwnX P v k → ¬ OwnX R u k) (h4 : ¬ OwnX P v S) (h5 : ¬ OwnX R u S) (h6 : w.heap[S]? = some (.cells c 31)) (h7 : Below w0.heap.size w0 w) (hp : RefP R w0.heap.size u M' w w') : PlS w0 w' P R S c L M' := by
  obtain ⟨u', r1, r2, r3⟩ := hp
  have hS : S < w.heap.size := (Array.getElem?_eq_some_iff.1 h6).1
  refine ⟨v, u', h1.keep r2 (fun k hk hq => h3 k hk hq), r1, fun k x y => ?_, h4, fun e => ?_, cg_heap r2 h6 h5, ?_⟩
  · have hx := (own_ge h1 x).2
    rcases y with rfl | y
    · exact h3 _ x (.inl rfl)
    · rcases r3 k y with r | r
      · exact h3 k x (.inr r)
      · omega
  · rcases e with rfl | x
    · exact h5 (.inl rfl)
    · rcases r3 S x with r | r
      · exact h5 (.inr r)
      · omega
  · exact ⟨r2.1.trans h7.os, r2.2.1.trans h7.tape, r2.2.2.1.trans h7.output, Nat.le_trans h7.size r2.2.2.2.1, fun k hk => (r2.2.2.2.2 k (Nat.lt_of_lt_of_le hk h7.size) (fun q => by have := (rf_ge h2 q).1; omega)).trans (h7.block k hk)⟩
/-- One set, wherever. -/
def setF (L : List Bool) (a : Int) (b : Bool) : List Bool := if 0 ≤ a ∧ a < (L.length : Int) then L.set a.toNat b else L
/-- One put in, wherever. -/
def insF (L : List Bool) (a : Int) (b : Bool) : List Bool := if 0 ≤ a ∧ a ≤ (L.length : Int) then ins L a.toNat b else L
def insB (n : Nat) (a : Int) : Bool := decide (0 ≤ a ∧ a ≤ (n : Int))
def setB (n : Nat) (a : Int) : Bool := decide (0 ≤ a ∧ a < (n : Int))
theorem setF_len (L : List Bool) (a : Int) (b : Bool) : (setF L a b).length = L.length := by unfold setF; split <;> simp
theorem insF_len (L : List Bool) (a : Int) (b : Bool) : (insF L a b).length ≤ L.length + 1 := by
  unfold insF
  split
  · rw [ins_len L _ b (by omega)]; omega
  · omega
theorem pl_set1 {w0 w : World} {P R S : Nat} {c : Array Value} {L M : List Bool} (h : PlS w0 w P R S c L M) (a : Int) (b : Bool) (hl : L.length ≤ 100000) : Calls Tryd.prog 10 #[.pointer (some ⟨P, 0, none⟩), .int .i64 a, .bool b] w fun e w' => e = .returned (.bool (setB L.length a)) ∧ PlS w0 w' P R S c (setF L a b) M := by
  obtain ⟨v, u, h1, h2, h3, h4, h5, h6, h7⟩ := h
  by_cases hin : 0 ≤ a ∧ a < (L.length : Int)
  · obtain ⟨n, rfl⟩ : ∃ n : Nat, a = (n : Int) := ⟨a.toNat, by omega⟩
    have e1 : setB L.length (n : Int) = true := decide_eq_true hin
    have e2 : setF L (n : Int) b = L.set n b := by unfold setF; rw [if_pos hin]; rfl
    rw [e1, e2]
    exact (setX_any P _ v L n b w h1 hl (by omega)).mono fun e w' ⟨q1, q2⟩ => ⟨q1, PlS.put1 h1 h2 h3 h4 h5 h6 h7 q2⟩
  · have e1 : setB L.length a = false := decide_eq_false hin
    have e2 : setF L a b = L := by unfold setF; rw [if_neg hin]
    rw [e1, e2]
    exact (setX_none P _ v L a b w h1 hin).mono fun e w' ⟨q1, q2⟩ => ⟨q1, q2 ▸ ⟨v, u, h1, h2, h3, h4, h5, h6, h7⟩⟩
theorem pl_ins1 {w0 w : World} {P R S : Nat} {c : Array Value} {L M : List Bool} (h : PlS w0 w P R S c L M) (a : Int) (b : Bool) (hl : L.length ≤ 100000) : Calls Tryd.prog 12 #[.pointer (some ⟨P, 0, none⟩), .int .i64 a, .bool b] w fun e w' => e = .returned (.bool (insB L.length a)) ∧ PlS w0 w' P R S c (insF L a b) M := by
  obtain ⟨v, u, h1, h2, h3, h4, h5, h6, h7⟩ := h
  by_cases hin : 0 ≤ a ∧ a ≤ (L.length : Int)
  · obtain ⟨n, rfl⟩ : ∃ n : Nat, a = (n : Int) := ⟨a.toNat, by omega⟩
    have e1 : insB L.length (n : Int) = true := decide_eq_true hin
    have e2 : insF L (n : Int) b = ins L n b := by unfold insF; rw [if_pos hin]; rfl
    rw [e1, e2]
    exact (insX_any P _ v L n b w h1 hl (by omega) h7.size).mono fun e w' ⟨q1, q2⟩ => ⟨q1, PlS.put1 h1 h2 h3 h4 h5 h6 h7 q2⟩
  · have e1 : insB L.length a = false := decide_eq_false hin
    have e2 : insF L a b = L := by unfold insF; rw [if_neg hin]
    rw [e1, e2]
    exact (insX_none P _ v L a b w h1 hin).mono fun e w' ⟨q1, q2⟩ => ⟨q1, q2 ▸ ⟨v, u, h1, h2, h3, h4, h5, h6, h7⟩⟩
theorem pl_set2 {w0 w : World} {P R S : Nat} {c : Array Value} {L M : List Bool} (h : PlS w0 w P R S c L M) (a : Int) (b : Bool) (hl : M.length ≤ 100000) : Calls Tryd.prog 11 #[.pointer (some ⟨R, 0, none⟩), .int .i64 a, .bool b] w fun e w' => e = .returned (.bool (setB M.length a)) ∧ PlS w0 w' P R S c L (setF M a b) := by
  obtain ⟨v, u, h1, h2, h3, h4, h5, h6, h7⟩ := h
  by_cases hin : 0 ≤ a ∧ a < (M.length : Int)
  · obtain ⟨n, rfl⟩ : ∃ n : Nat, a = (n : Int) := ⟨a.toNat, by omega⟩
    have e1 : setB M.length (n : Int) = true := decide_eq_true hin
    have e2 : setF M (n : Int) b = M.set n b := by unfold setF; rw [if_pos hin]; rfl
    rw [e1, e2]
    exact (refSet_in R _ u M n b w h2 (by omega) hl).mono fun e w' ⟨q1, q2⟩ => ⟨q1, PlS.put2 h1 h2 h3 h4 h5 h6 h7 q2⟩
  · have e1 : setB M.length a = false := decide_eq_false hin
    have e2 : setF M a b = M := by unfold setF; rw [if_neg hin]
    rw [e1, e2]
    exact (refSet_out R _ u M a b w h2 hin).mono fun e w' ⟨q1, q2⟩ => ⟨q1, q2 ▸ ⟨v, u, h1, h2, h3, h4, h5, h6, h7⟩⟩
theorem pl_ins2 {w0 w : World} {P R S : Nat} {c : Array Value} {L M : List Bool} (h : PlS w0 w P R S c L M) (a : Int) (b : Bool) (hl : M.length ≤ 100000) : Calls Tryd.prog 13 #[.pointer (some ⟨R, 0, none⟩), .int .i64 a, .bool b] w fun e w' => e = .returned (.bool (insB M.length a)) ∧ PlS w0 w' P R S c L (insF M a b) := by
  obtain ⟨v, u, h1, h2, h3, h4, h5, h6, h7⟩ := h
  by_cases hin : 0 ≤ a ∧ a ≤ (M.length : Int)
  · obtain ⟨n, rfl⟩ : ∃ n : Nat, a = (n : Int) := ⟨a.toNat, by omega⟩
    have e1 : insB M.length (n : Int) = true := decide_eq_true hin
    have e2 : insF M (n : Int) b = ins M n b := by unfold insF; rw [if_pos hin]; rfl
    rw [e1, e2]
    exact (refIns_in R _ u M n b w h2 (by omega) hl h7.size).mono fun e w' ⟨q1, q2⟩ => ⟨q1, PlS.put2 h1 h2 h3 h4 h5 h6 h7 q2⟩
  · have e1 : insB M.length a = false := decide_eq_false hin
    have e2 : insF M a b = M := by unfold insF; rw [if_neg hin]
    rw [e1, e2]
    exact (refIns_out R _ u M a b w h2 hin).mono fun e w' ⟨q1, q2⟩ => ⟨q1, q2 ▸ ⟨v, u, h1, h2, h3, h4, h5, h6, h7⟩⟩
theorem pl_new {w0 w : World} {P : Nat} (h : IxS w0 w P []) : PlR w0 (w.alloc (.cells #[.slice none 0 0] 29)) P w.heap.size [] [] := by
  obtain ⟨v, h1, h7⟩ := h
  have hb : Below w.heap.size w (w.alloc (.cells #[.slice none 0 0] 29)) := (Below.refl _ w).alloc (Nat.le_refl _) _
  refine ⟨v, .slice none 0 0, h1.later hb, ⟨heap_alloc_new w _, World.ownsRow_nil _ _ _ _, by simp [Value.ownBlock], h7.size⟩, fun k a b => ?_, h7.trans (hb.mono h7.size)⟩
  have := (own_ge h1 a).2
  rcases b with rfl | b
  · omega
  · cases b
end Go.Proofs.YtpahbofccloeaaaDoor
