/- The walks of Ops (the library's Clone of operations) and Vector (the library's Sorted over a map's keys). -/
import Derived.Test.YtjdgacanlbhfbaaRgK
import Derived.Test.YtjdgacanlbhfbaaRiI
import Derived.Test.YtjdgacanlbhfbaaShelfH
namespace Go.Proofs.Ytjdgacanlbhfbaa
open Go.RowKit Go.Shelf Go.Maps Go.Sort
set_option linter.unusedVariables false
set_option linter.unusedSimpArgs false

theorem ops_rga {P B Q M : Nat} {ve vo vi : Value} {O : List Opn} (hl : O.length ≤ 99000) (w : World) (h : TxAt w P B ve vo vi Q M O) :
    Calls Try.prog 22 #[.pointer (some ⟨P, 0, none⟩)] w fun e w' => ∃ v, e = .returned v ∧ w'.ownsRow w.heap.size 34 7 v O.length (flatP O) ∧ Below w.heap.size w w' := by
  obtain ⟨a, cap, rfl, h1, h2, h3, h4⟩ := rdP_own h.ops
  have HC : Hid (Calls Try.prog 53 #[.slice a O.length cap] w fun e w' => ∃ v, e = .returned v ∧ w'.ownsRow w.heap.size 34 7 v O.length (flatP O) ∧ Below w.heap.size w w') := cloneP_any O a O.length cap w h3 h4 (by omega)
  have c2 := h.cells.2.2.1
  clear h h1 h2 h3 h4 hl
  generalize flatP O = fl at *
  generalize O.length = n at *
  go_enter Try.func22, Try.ntmps22
  go_wp2_with (first | (go_at_call 53; refine HC.out.mono ?_; rintro e w2 ⟨v, rfl, q1, q2⟩; have HZ : Hid (w2.ownsRow w.heap.size 34 7 v n fl ∧ Below w.heap.size w w2) := ⟨q1, q2⟩; clear q1 q2))
  go_ret
  exact ⟨_, rfl, HZ.out.1, HZ.out.2⟩
end Go.Proofs.Ytjdgacanlbhfbaa
