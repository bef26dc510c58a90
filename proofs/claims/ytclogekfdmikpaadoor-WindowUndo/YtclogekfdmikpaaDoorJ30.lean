/- The boundaries of a text, one by one, to who ranges over them: the contract of the iterator that boundaries makes. -/
import Derived.Test.YtclogekfdmikpaaDoorJ29
import Derived.Test.YtclogekfdmikpaaDoorJ06
namespace Go.Proofs.YtclogekfdmikpaaDoor
open Go.RowKit Go.Shelf
set_option linter.unusedVariables false
set_option linter.unusedSimpArgs false
attribute [local go_sem] Oper.semAt_some

def isB (br N n : Nat) (OA OB : Nat → Nat) (p : Nat) : Bool := decide (p = 0) || decide (p = n) || dcB br (OA p &&& OB (n - p)) N 0
def bndL (br N n : Nat) (OA OB : Nat → Nat) (k : Nat) : List Nat := (List.range k).filter (isB br N n OA OB)
def allB (br N n : Nat) (OA OB : Nat → Nat) : List Nat := if n = 0 then [] else bndL br N n OA OB (n + 1)
def SegAt (n tb Bn Bt Ba Bb ga gb ca cb br N : Nat) (OA OB : Nat → Nat) (V : World) : Prop :=
 ((V.cell? ⟨Bn, 0, none⟩ = some (.int .i64 (n : Int)) ∧ V.cell? ⟨Bt, 0, none⟩ = some (.pointer (some ⟨tb, 0, none⟩))) ∧ V.cell? ⟨Ba, 0, none⟩ = some (.slice (some ⟨ga, 0, none⟩) (n + 1) ca) ∧ V.cell? ⟨Bb, 0, none⟩ = some (.slice (some ⟨gb, 0, none⟩) (n + 1) cb)) ∧
  (∀ i, i < n + 1 → V.cell? ⟨ga, i, none⟩ = some (.int .u64 (OA i : Int)) ∧ V.cell? ⟨gb, i, none⟩ = some (.int .u64 (OB i : Int))) ∧ ∃ p0 p1, V.heap[tb]? = some (.cells #[p0, p1, .int .u64 (br : Int), .int .i64 (N : Int)] 66)
theorem SegAt.later {n tb Bn Bt Ba Bb ga gb ca cb br N : Nat} {OA OB : Nat → Nat} {V V' : World} (h : SegAt n tb Bn Bt Ba Bb ga gb ca cb br N OA OB V) (hb : Below V.heap.size V V') : SegAt n tb Bn Bt Ba Bb ga gb ca cb br N OA OB V' := by
 obtain ⟨⟨⟨h1, h2⟩, h3, h4⟩, h5, p0, p1, h6⟩ := h
 exact ⟨⟨⟨upC hb h1, upC hb h2⟩, upC hb h3, upC hb h4⟩, fun i hi => ⟨upC hb (h5 i hi).1, upC hb (h5 i hi).2⟩, p0, p1, (hb.block tb (Array.getElem?_eq_some_iff.1 h6).1).trans h6⟩
end Go.Proofs.YtclogekfdmikpaaDoor
