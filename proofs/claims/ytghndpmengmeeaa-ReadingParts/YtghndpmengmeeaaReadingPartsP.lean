/- ReadingParts, for every input: an alternative of two expressions fits where one of them does, and one that may be left out fits where it does or at the text's head; no condition. -/
import Derived.Test.YtghndpmengmeeaaRows
import Derived.WalkKit
import Derived.Test.YtghndpmengmeeaaReadingPartsW
import Derived.SizedLaws
import Derived.ProofKit
import Derived.OpenShut
import Derived.ChangeOld
import Derived.Below
namespace Go.Proofs.Ytghndpmengmeeaa.readingParts
open Go.ChangeShapes Go.WideShapes Go.ChangeAt Go.RowKit
set_option linter.unusedVariables false

theorem own : ownKnob Try.prog.godebug = none := by kernel_rfl
theorem laidOut : laidOutB Try.prog = true := by kernel_rfl
theorem w4 {H : Type} (d0 d1 d2 d3 : DataW H) (h : (DataW.weightsEach Try.prog ([33, 33, 23, 3] ++ []) ([d0, d1, d2, d3] ++ [])).all (· ≤ reachBytes) = true) : (d0.weights Try.prog 33).all (· ≤ reachBytes) = true ∧ (d1.weights Try.prog 33).all (· ≤ reachBytes) = true ∧ (d2.weights Try.prog 23).all (· ≤ reachBytes) = true := by
  simp only [List.cons_append, List.nil_append, DataW.weightsEach, List.all_append, Bool.and_eq_true] at h
  exact ⟨h.1, h.2.1, h.2.2.1⟩
/-- An expression that comes in by value. -/
theorem open_value {H : Type} {enc : TypeId × Value → H} {W : World} {base : Nat} {v : Value} {d : DataW H} {p : List MemPlace} (hval : Value.okWide Try.prog W .any base 33 v) (h : DataW.Trod enc Try.prog W 0 (fun _ => true) true 33 v d p) (hw : (d.weights Try.prog 33).all (· ≤ reachBytes) = true) :
    ∃ D x xa xc xk xkc, v = .agg #[.int .i64 x.op, .slice xa x.cl.length xc, .slice xk (toL x.kids).length xkc] ∧ InV W.heap.size W D x (ndV x xa xc xk xkc) := by
  obtain ⟨cs, rfl, _⟩ := okWide_struct Try.underlying33 hval
  obtain ⟨fuel, hf⟩ := h
  obtain ⟨n, hn⟩ := open_node fuel hf hw
  obtain ⟨xa, xc, xk, xkc, e⟩ := hn.three
  have e2 : cs.toList = ndV n xa xc xk xkc := e
  have e3 : cs = #[.int .i64 n.op, .slice xa n.cl.length xc, .slice xk (toL n.kids).length xkc] := by cases cs; simpa using e2
  refine ⟨fuel, n, xa, xc, xk, xkc, by rw [e3], ?_⟩
  rw [← e2]
  exact hn

/-! ### The row. -/
set_option maxRecDepth 100000 in
theorem lifted (os : Os) (started : os.Started) (H : Type) (enc : TypeId × Value → H) :
    ReturnsInHanded {} Try.checked os 9 .any (Rows.readingPartsSpec.pre6 enc Try.prog Try.f9 Rows.readingPartsRow.domain false) (Rows.readingPartsSpec.post enc Try.prog Try.f9 false true false false) := by
  refine returnsInHanded_of_change_sized (C := Try.checked) own started (by kernel_rfl) Try.func9
    (ChangeSpec.witness6 (enc := enc) (C := Try.checked) false ⟨#[], #[.agg #[.int .i64 0, .slice none 0 0, .slice none 0 0], .agg #[.int .i64 0, .slice none 0 0, .slice none 0 0], .slice none 0 0, .int .i64 0], []⟩ 8 (by kernel_rfl) (by kernel_rfl) (by kernel_rfl) (by kernel_rfl)) ?_
  intro W base args ds gs before hval0 hW hcnd hwt0 _
  have hval : ∀ (j : Nat) t v, Try.f9.params[j]? = some t → args[j]? = some v → Value.okWide Try.prog W .any base t v := hval0
  have hW' := hW
  obtain ⟨p, q, hA0, hV, rfl, hfz, hnd⟩ := hW
  have hA : DataW.TrodAll enc Try.prog W 0 (fun _ => true) true Try.f9.params.toList args.toList ds p := hA0
  have hwt : (DataW.weightsEach Try.prog (Try.f9.params.toList ++ []) (ds ++ gs)).all (· ≤ reachBytes) = true := hwt0
  rw [Try.params9] at hA hval hwt
  obtain ⟨v0, vs0, d0, ds0, p0, q0, hargs, rfl, rfl, h0, r0⟩ := trodAll_cons hA
  obtain ⟨v1, vs1, d1, ds1, p1, q1, rfl, rfl, rfl, h1, r1⟩ := trodAll_cons r0
  obtain ⟨v2, vs2, d2, ds2, p2, q2, rfl, rfl, rfl, h2, r2⟩ := trodAll_cons r1
  obtain ⟨v3, vs3, d3, ds3, p3, q3, rfl, rfl, rfl, h3, r3⟩ := trodAll_cons r2
  obtain ⟨rfl, rfl, rfl⟩ := trodAll_nil r3
  obtain rfl : args = #[v0, v1, v2, v3] := by cases args; simp_all
  obtain ⟨rfl, rfl⟩ := trodVars_none hV
  obtain ⟨hw0, hw1, hw2⟩ := w4 d0 d1 d2 d3 hwt
  have k0 := h0
  have lt0 : ∀ x ∈ p0, x.block < W.heap.size := by obtain ⟨m, hm⟩ := k0; exact DataW.trod_lt m _ _ _ hm
  obtain ⟨D0, x, xa, xc, xk, xkc, rfl, hx⟩ := open_value (hval 0 33 v0 rfl rfl) h0 hw0
  have k1 := h1
  have lt1 : ∀ x ∈ p1, x.block < W.heap.size := by obtain ⟨m, hm⟩ := k1; exact DataW.trod_lt m _ _ _ hm
  obtain ⟨D1, y, ya, yc, yk, ykc, rfl, hy⟩ := open_value (hval 1 33 v1 rfl rfl) h1 hw1
  obtain ⟨a1, len1, cap1, rfl⟩ := okWide_slice Try.underlying23 (hval 2 23 v2 rfl rfl)
  have k2 := h2
  have lt2 : ∀ x ∈ p2, x.block < W.heap.size := by obtain ⟨m, hm⟩ := k2; exact DataW.trod_lt m _ _ _ hm
  obtain ⟨xs, hrd, hcap, hcm, hnone⟩ : ∃ xs, Rd .i64 W a1 len1 xs ∧ len1 ≤ cap1 ∧ cap1 ≤ 9223372036854775807 ∧ (a1 = none → cap1 = 0) := by
    obtain ⟨fuel, hf⟩ := h2
    obtain ⟨a, zs, c, hcs, hr, _, h3, h4, h5⟩ := open_cls hf hw2
    simp [Value.cells] at hcs
    obtain ⟨rfl, rfl, rfl⟩ := hcs
    exact ⟨zs, hr, h3, h4, h5⟩
  obtain ⟨pp, rfl⟩ := okWide_int Try.underlying3 (hval 3 3 v3 rfl rfl)
  have k3 := h3
  have lt3 : ∀ x ∈ p3, x.block < W.heap.size := by obtain ⟨m, hm⟩ := k3; exact DataW.trod_lt m _ _ _ hm
  clear hA0 hval0 hwt0
  refine (readingParts_walk (D0 + D1) x y xa xk ya yk xc xkc yc ykc xs a1 len1 cap1 pp W (hx.mono (by omega)) (hy.mono (by omega)) hrd hcap hcm hnone).mono fun e W' ⟨he, bel⟩ => ?_
  subst he
  exact ⟨_, rfl, _, _, _, [], _, [], hW', trodAll_mk1 (shut_bool Try.underlying4 _), (trodAll_cons_mk (Below.trod laidOut (by kernel_rfl) (of_decide_eq_true (by kernel_rfl)) k0 bel lt0) (trodAll_cons_mk (Below.trod laidOut (by kernel_rfl) (of_decide_eq_true (by kernel_rfl)) k1 bel lt1) (trodAll_cons_mk (Below.trod laidOut (by kernel_rfl) (of_decide_eq_true (by kernel_rfl)) k2 bel lt2) (trodAll_cons_mk (Below.trod laidOut (by kernel_rfl) (of_decide_eq_true (by kernel_rfl)) k3 bel lt3) trodAll_mk0)))), rfl, bel.frame _, fun h => by cases h⟩

theorem over : Rows.readingPartsRow.holds Try.pinned (OpenSpec.ofChange Rows.readingPartsSpec) :=
  OpenClaim.holds_of_wide 9 Try.f9 rfl rfl rfl rfl rfl rfl rfl ⟨rfl, rfl, rfl, rfl, rfl⟩ rfl rfl rfl rfl rfl (by kernel_rfl) Try.func9 (by kernel_rfl)
    (of_decide_eq_true (by kernel_rfl)) (by unfold Func.isWrapper; first | (rw [if_pos (by decide +kernel)]; kernel_rfl) | (rw [if_neg (by decide +kernel)]; exact ⟨rfl, rfl⟩))
    (fun os started H enc _ => lifted os started H enc)

theorem proved : Rows.ReadingPartsSaid := over
#print axioms proved
end Go.Proofs.Ytghndpmengmeeaa.readingParts

namespace Go.Proofs.Ytghndpmengmeeaa
theorem readingParts_holds : Rows.ReadingPartsSaid := readingParts.proved
end Go.Proofs.Ytghndpmengmeeaa
