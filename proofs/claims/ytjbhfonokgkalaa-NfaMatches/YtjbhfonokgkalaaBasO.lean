/- Arguments opened: an expression by value, a list of numbers, a number. -/
import Derived.Test.YtjbhfonokgkalaaBasN
import Derived.SizedLaws
import Derived.ProofKit
import Derived.OpenShut
import Derived.ChangeOld
import Derived.Below
namespace Go.Proofs.Ytjbhfonokgkalaa
open Go.ChangeShapes Go.WideShapes Go.ChangeAt Go.RowKit
set_option linter.unusedVariables false

set_option maxRecDepth 100000 in
theorem open_value {H : Type} {enc : TypeId × Value → H} {W : World} {base : Nat} {v : Value} {d : DataW H} {p : List MemPlace} (hval : Value.okWide Try.prog W .any base 33 v) (h : DataW.Trod enc Try.prog W 0 (fun _ => true) true 33 v d p) (hw : (d.weights Try.prog 33).all (· ≤ reachBytes) = true) :
    ∃ D x xa xc xk xkc, v = .agg #[.int .i64 x.op, .slice xa x.cl.length xc, .slice xk (toL x.kids).length xkc] ∧ InV W.heap.size W D x [.int .i64 x.op, .slice xa x.cl.length xc, .slice xk (toL x.kids).length xkc] := by
  obtain ⟨cs, rfl, _⟩ := okWide_struct Try.underlying33 hval
  obtain ⟨fuel, hf⟩ := h
  obtain ⟨n, hn⟩ := open_node fuel hf hw
  obtain ⟨xa, xc, xk, xkc, e⟩ := hn.three
  have e2 : cs.toList = [.int .i64 n.op, .slice xa n.cl.length xc, .slice xk (toL n.kids).length xkc] := e
  have e3 : cs = #[.int .i64 n.op, .slice xa n.cl.length xc, .slice xk (toL n.kids).length xkc] := by cases cs; simpa using e2
  refine ⟨fuel, n, xa, xc, xk, xkc, by rw [e3], ?_⟩
  rw [← e2]
  exact hn
theorem open_list {H : Type} {enc : TypeId × Value → H} {W : World} {a : Option Addr} {len cap : Nat} {d : DataW H} {p : List MemPlace} (h : DataW.Trod enc Try.prog W 0 (fun _ => true) true 23 (.slice a len cap) d p) (hw : (d.weights Try.prog 23).all (· ≤ reachBytes) = true) :
    ∃ xs, Rd .i64 W a len xs ∧ len ≤ cap ∧ cap ≤ 9223372036854775807 ∧ (a = none → cap = 0) := by
  obtain ⟨fuel, hf⟩ := h
  obtain ⟨a', zs, c, hcs, hr, _, h3, h4, h5⟩ := open_cls hf hw
  simp [Value.cells] at hcs
  obtain ⟨rfl, rfl, rfl⟩ := hcs
  exact ⟨zs, hr, h3, h4, h5⟩
theorem open_int {H : Type} {enc : TypeId × Value → H} {W : World} {k : IntKind} {v : Int} {d : DataW H} {p : List MemPlace} (h : DataW.Trod enc Try.prog W 0 (fun _ => true) true 3 (.int k v) d p) : -9223372036854775808 ≤ v ∧ v ≤ 9223372036854775807 := by
  obtain ⟨fuel, hf⟩ := h
  obtain ⟨op, hop, h1, h2⟩ := DataW.trod_int Try.underlying3 hf
  simp [Value.cells] at hop
  rw [hop.2]
  exact i64_of_wf h2
end Go.Proofs.Ytjbhfonokgkalaa
