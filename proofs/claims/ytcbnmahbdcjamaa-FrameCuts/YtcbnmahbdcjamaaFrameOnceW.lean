/- The walk of FrameOnce. -/
import Derived.Test.YtcbnmahbdcjamaaFrU
namespace Go.Proofs.Ytcbnmahbdcjamaa
open Go.RowKit
set_option linter.unusedVariables false
set_option linter.unusedSimpArgs false

theorem bytes_len (f : Frm) : (bytesN (cutF f)).length ≤ 20000 := by
  have h1 := cutF_len f
  have h2 := bodyN_len (cutF f)
  have h3 := wrapN_len (bodyN (cutF f))
  have h4 := pt_len (bodyN (cutF f))
  have h5 := pk_len ((bodyN (cutF f)).length : Nat)
  show (wrapN (bodyN (cutF f))).length ≤ _
  omega
theorem cut_ok (f : Frm) (h : frB (cutF f) = true) : okF (cutF f) := by
  have h1 := cutF_len f
  exact frB_ok _ h (by omega) (by omega)
theorem body_len (f : Frm) : (bodyN (cutF f)).length ≤ 100000000000 := by
  have h1 := cutF_len f
  have h2 := bodyN_len (cutF f)
  omega
theorem c_bytes (f : Frm) (W : World) (v : Value) (h : FrAt W v (cutF f)) : Calls Try.prog 26 #[v] W fun e w' => (frB (cutF f) = true → ∃ a c, e = .returned (.tuple #[.slice a (bytesN (cutF f)).length c, .int .i64 0]) ∧ (bytesN (cutF f)).length ≤ c ∧ c ≤ 9223372036854775807 ∧ Rd .u8 w' a (bytesN (cutF f)).length (bytesN (cutF f))) ∧ (frB (cutF f) = false → e = .returned (.tuple #[.slice none 0 0, .int .i64 1])) ∧ Below W.heap.size W w' := by
  have h1 := cutF_len f
  refine (frBytes_any (cutF f) v W h (by omega) (by omega)).mono fun e w' q => ?_
  obtain ⟨q1, q2, q3⟩ := q
  refine ⟨fun hf => ?_, q3, q1⟩
  obtain ⟨v', rfl, ho⟩ := q2 hf
  obtain ⟨a, c, rfl, hc, hm, hr, _⟩ := rd_own2 ho
  exact ⟨a, c, rfl, hc, hm, hr⟩
theorem bytes_byt (f : Frm) (h : frB (cutF f) = true) : Byt (bytesN (cutF f)) := wrapN_byt _ (bodyN_byt _ (cut_ok f h)) (body_len f)
theorem lens_bytes (f : Frm) : f.vec.length + f.ops.length ≤ (bytesN f).length := by
  have h3 := pks_len (numN f)
  have h4 : (bytesN f).length = 6 + (pt (bodyN f)).length := wrapN_len _
  have h5 := pt_len (bodyN f)
  have e1 : f.vec.length ≤ (f.vec.flatMap enN).length := by
    clear h3 h4 h5
    generalize f.vec = l
    induction l with
    | nil => simp
    | cons y r ih => rw [List.flatMap_cons, List.length_append, List.length_cons]; simp only [enN, List.length_cons, List.length_nil]; omega
  have e2 : f.ops.length ≤ (f.ops.flatMap opN).length := by
    clear h3 h4 h5 e1
    generalize f.ops = l
    induction l with
    | nil => simp
    | cons y r ih => rw [List.flatMap_cons, List.length_append, List.length_cons]; simp only [opN, List.length_append, List.length_cons, List.length_nil]; omega
  have h6 : f.vec.length + f.ops.length ≤ (numN f).length := by
    rw [numN]
    simp only [List.length_append, List.length_cons, List.length_nil]
    omega
  have h7 : (bodyN f).length = (pks (numN f)).length := rfl
  omega
/-- Two frames that may be are the same just if their bytes are. -/
theorem bytes_iff (f g : Frm) (hf : frB (cutF f) = true) (hg : frB (cutF g) = true) : bytesN (cutF f) = bytesN (cutF g) ↔ cutF f = cutF g :=
  ⟨bytes_inj _ _ hf hg (cut_ok f hf) (cut_ok g hg) (body_len f) (body_len g), fun h => by rw [h]⟩
end Go.Proofs.Ytcbnmahbdcjamaa
