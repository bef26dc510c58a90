/- The frame of the statement that lists Itoa's table as well: what is listed gives the walk its table; a world in which all that is listed lies. -/
import Derived.Test.YtchdklbekfdgdabGreatDoorPropsFr
import Derived.Test.YtchdklbekfdgdabGreatDoorPropsEr
import Derived.Lib.LaidTab
import Derived.Stop.LaidErr
namespace Go.Proofs.YtchdklbekfdgdabGreatDoor
open Go.ChangeShapes Go.WideShapes Go.ChangeAt Go.RowKit
set_option linter.unusedVariables false

/-- What is listed with plain data. -/
def datasL : List (String × DataW Unit) := [("math/bits.deBruijn32tab", Rows.laid_math_bits_deBruijn32tab), ("math/bits.deBruijn64tab", Rows.laid_math_bits_deBruijn64tab), ("internal/strconv.uint64pow10", Rows.laid_internal_strconv_uint64pow10), ("unicode/utf8.acceptRanges", Rows.laid_unicode_utf8_acceptRanges), ("unicode/utf8.first", Rows.laid_unicode_utf8_first)]
/-- A world in which all that is listed lies. -/
def laidWorldL (P : Program) (os : Os) : World := (handleWorld P os).layVars P datasL
theorem laidWorldL_data (os : Os) : laidMet Tryz.prog datasL (laidWorldL Tryz.prog os) := by
  have e1 : (datasL.filter fun x => (datasL.map (·.1)).contains x.1) = datasL := List.filter_eq_self.2 fun x hx => List.contains_iff_mem.2 (List.mem_map.2 ⟨x, hx, rfl⟩)
  have e2 : (datasL.filter fun x => !(datasL.map (·.1)).contains x.1) = [] := List.filter_eq_nil_iff.2 fun x hx => by rw [List.contains_iff_mem.2 (List.mem_map.2 ⟨x, hx, rfl⟩)]; simp
  exact laidMet_layVars (w0 := handleWorld Tryz.prog os) (datasL.map (·.1)) [] (by rw [e1]; rfl) (by rw [e1]; kernel_rfl) (by rw [e1]; kernel_rfl) (by rw [e2]; exact LaidIn.none)
/-- All that is listed. -/
def listL : List (String × DataW Unit) := [("math/bits.deBruijn32tab", Rows.laid_math_bits_deBruijn32tab), ("math/bits.deBruijn64tab", Rows.laid_math_bits_deBruijn64tab), ("internal/strconv.uint64pow10", Rows.laid_internal_strconv_uint64pow10), ("unicode/utf8.acceptRanges", Rows.laid_unicode_utf8_acceptRanges), ("errors.errorType", Rows.laid_errors_errorType), ("unicode/utf8.first", Rows.laid_unicode_utf8_first)]
theorem laidWorldL_met (os : Os) (args : Array Value) (l : List (String × DataW Unit)) (hl : l = listL) :
    laidMetH Tryz.prog l ((laidWorldL Tryz.prog os).forCall (fun _ _ => 0) ⟨#[], args, []⟩).memory := by
  subst hl
  refine laidMetH_of_parts ?_ (by kernel_rfl)
  exact (laidWorldL_data os).of_heap (by simp [World.memory, World.forCall, Input.heap])
theorem tab_data : Rows.laid_internal_strconv_uint64pow10 = (Lib.tabData .u64 Lib.pow10Tab : DataW Unit) := by kernel_rfl
theorem glL_of {W : World} {l : List (String × DataW Unit)} (hl : l = listL) (h : laidMetH Tryz.prog l W) (hs : W.ShapedOpen Tryz.prog) : Gl W ∧ Tab W := by
  subst hl
  have h' : laidMet Tryz.prog datasL W ∧ handlesMet Tryz.prog [("errors.errorType", Rows.laid_errors_errorType)] W := h
  refine ⟨⟨maxLen_of hs, handle_of h'.2 (List.mem_singleton.2 rfl)⟩, ?_⟩
  have h3 := laidMet.tail (laidMet.tail h'.1)
  rw [tab_data] at h3
  exact Lib.tabIs_of_head (g := 2) (t := 160) (e := 133) (n := 20) (by kernel_rfl) (by kernel_rfl) Tryz.underlying160 Tryz.underlying133 (by kernel_rfl) (by kernel_rfl) h3
end Go.Proofs.YtchdklbekfdgdabGreatDoor
