/- In one text: TabT, SegC, BasT, NfaEb, SegD. -/
import Derived.Test.YtclogekfdmikpaaDoorJ24
import Derived.Test.YtclogekfdmikpaaDoorJ28
import Derived.Test.YtclogekfdmikpaaDoorJ29
import Derived.Test.YtclogekfdmikpaaDoorJ30
import Derived.Deep.CutBlock
import Derived.Test.YtclogekfdmikpaaDoorJ01
import Derived.Test.YtclogekfdmikpaaDoorJ05
/- What both machines tell of a row, and what Compile asks. -/
namespace Go.Proofs.YtclogekfdmikpaaDoor
open Go.RowKit
set_option linter.unusedVariables false
set_option linter.unusedSimpArgs false

theorem cls_rev {K : Nat} {row : List Int} (h : Cls K row) : Cls K row.reverse := fun c hc => h c (List.mem_reverse.1 hc)
end Go.Proofs.YtclogekfdmikpaaDoor

/- The walk of seg's boundaries: it makes the iterator. -/
namespace Go.Proofs.YtclogekfdmikpaaDoor
open Go.RowKit Go.Shelf
set_option linter.unusedVariables false
set_option linter.unusedSimpArgs false

end Go.Proofs.YtclogekfdmikpaaDoor

/- Rows of truths in memory; no function of the program is named here. -/
namespace Go.Proofs.YtclogekfdmikpaaDoor
open Go.RowKit
set_option linter.unusedVariables false
set_option linter.unusedSimpArgs false

def RdT (w : World) (a : Option Addr) (len : Nat) (bs : List Bool) : Prop :=
 bs.length = len ∧ (0 < len → ∃ b off, a = some ⟨b, off, none⟩ ∧ ∀ i, i < len → w.cell? ⟨b, off + i, none⟩ = some (.bool (bs.getD i false)))
theorem RdT.later {w w' : World} {a : Option Addr} {len : Nat} {bs : List Bool} (h : RdT w a len bs) (hb : Below w.heap.size w w') : RdT w' a len bs := by
 refine ⟨h.1, fun hp => ?_⟩
 obtain ⟨b, off, ha, hc⟩ := h.2 hp
 refine ⟨b, off, ha, fun i hi => ?_⟩
 exact (hb.cell (p := ⟨b, off + i, none⟩) (World.block_lt_of_cell? w _ (hc i hi))).trans (hc i hi)
end Go.Proofs.YtclogekfdmikpaaDoor

/- The walks of has, many and or of the reference: rows of truths. -/
namespace Go.Proofs.YtclogekfdmikpaaDoor
open Go.RowKit
set_option linter.unusedVariables false
set_option linter.unusedSimpArgs false

theorem made_rowT (v : Value) (n : Nat) : (madeCells #[v] n).toList = List.replicate n v := by
 apply List.ext_getElem
 ·simp [size_madeCells]
 ·intro i h1 h2
  simp [madeCells, Nat.mod_one]
theorem make_b (n : Nat) (hn : n ≤ 1000000) : ∃ CB : Array Value, CB.toList = (List.replicate n false).map Value.bool ∧ CB.size = n ∧ ∀ W : World, (Instr.makeSlice 40 (.int .i64 (n : Int)) (.int .i64 (n : Int))).run Tryd.prog W = .ok (.slice (some ⟨W.heap.size, 0, none⟩) n n) (W.alloc (.cells CB 4)) := by
 obtain ⟨i0, hi, hz0, hz1, hz2⟩ := info_parts info_b
 refine ⟨madeCells (Value.bool false).cells (n * 1), ?_, by rw [size_madeCells]; omega, fun W => ?_⟩
 ·rw [Nat.mul_one, List.map_replicate]; exact made_rowT _ _
 ·have := run_make (P := Tryd.prog) W 40 4 i0 _ Tryd.underlying40 hi hz0 .i64 .i64 (n : Int) (n : Int) (by omega) (by omega) (by rw [hz2]; omega) (by omega)
  rw [show ((n : Int)).toNat = n by omega, hz1] at this
  exact this
end Go.Proofs.YtclogekfdmikpaaDoor

/- The walks of seg's Boundaries, Next and Prev. -/
namespace Go.Proofs.YtclogekfdmikpaaDoor
open Go.RowKit Go.Shelf
set_option linter.unusedVariables false
set_option linter.unusedSimpArgs false
attribute [local go_sem] Oper.semAt_some

theorem ouR_lt {K : Nat} {xs : List (Nd × Bool)} {nx : List (List Nat)} {ou : List Nat} (h : LeastOf K xs nx ou) (hl : xs.length ≤ 64) {row : List Int} (hc : Cls K row) (i : Nat) : ouR nx ou row i < 2 ^ 64 := least_lt h hl ((cls_nat hc).2.take i)
end Go.Proofs.YtclogekfdmikpaaDoor
