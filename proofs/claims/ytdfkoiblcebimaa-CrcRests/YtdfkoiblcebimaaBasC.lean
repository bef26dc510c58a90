/- What serves every layer: worlds that differ by draws alone; a slice cut with its room. -/
import Derived.Test.YtdfkoiblcebimaaBasB
import Derived.Deep.RegionWith
namespace Go.Proofs.Ytdfkoiblcebimaa
open Go.RowKit
set_option linter.unusedVariables false

theorem below_undrew {B : Nat} {w w' : World} (h : Below B w.drew w') : Below B w w' := ⟨h.os, h.tape, h.output, h.size, h.block⟩
theorem Rd.drew {k : IntKind} {w : World} {a : Option Addr} {n : Nat} {xs : List Int} (h : Rd k w a n xs) : Rd k w.drew a n xs := h.later (Below.refl _ _).drew
/-- The conversion to a string, behind no to three draws. -/
theorem conv4 {w : World} {a : Option Addr} {len cap : Nat} {xs : List Int} (h : Rd .u8 w a len xs) :
    (convert 22 9 (.slice a len cap)).run Try.prog w = .ok (.string (strOfNums xs)) w ∧ (convert 22 9 (.slice a len cap)).run Try.prog w.drew = .ok (.string (strOfNums xs)) w.drew ∧
    (convert 22 9 (.slice a len cap)).run Try.prog w.drew.drew = .ok (.string (strOfNums xs)) w.drew.drew ∧ (convert 22 9 (.slice a len cap)).run Try.prog w.drew.drew.drew = .ok (.string (strOfNums xs)) w.drew.drew.drew :=
  ⟨conv_str h, conv_str h.drew, conv_str h.drew.drew, conv_str h.drew.drew.drew⟩
theorem cut_room (a : Option Addr) (n cap : Nat) (h : n ≤ cap) (W : World) : (Instr.slice 22 (.slice a n cap) none (some (.int .i64 n)) (some (.int .i64 n))).run Try.prog W = .ok (.slice a n n) W := by
  have h0 : (0 : Int) ≤ (n : Int) := by omega
  have h1 : (n : Int) ≤ (cap : Int) := by omega
  have h2 : (n : Int) ≤ (n : Int) := by omega
  go_simp
theorem rd_none {k : IntKind} {w : World} {a : Option Addr} {n : Nat} {xs : List Int} (h : Rd k w a n xs) : a = none → n = 0 := by
  intro ha
  rcases Nat.eq_zero_or_pos n with h0 | h0
  · exact h0
  · obtain ⟨b, off, hb, _⟩ := h.2 h0
    rw [ha] at hb; cases hb
end Go.Proofs.Ytdfkoiblcebimaa
