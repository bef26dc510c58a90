/- A literal of a struct at one operation. -/
import Derived.Test.YtcafffohnokjgaaDoorSegN
namespace Go.Proofs.YtcafffohnokjgaaDoor
open Go.RowKit Go.Shelf
set_option linter.unusedVariables false

theorem wpList_build {P : Program} {w : World} {ops : Array Oper} {rest : List Oper} {o : Oper} {a : Act} {Q : Exit → Act → World → Prop} (hgd : o.guard = none) (t : TypeId) (parts : Array (Nat × Operand)) (ho : o.op = .build t parts) (us : Array (Nat × Value)) (hu : (parts.map fun (i, x) => (i, a.eval x)) = us) (v : Value) (hr : (Instr.build t us).run P w = .ok v w) (h : wpList P ops Q rest (a.put o.dst v) w) : wpList P ops Q (o :: rest) a w :=
 wpList_plain hgd fun _ hK => by
  unfold Oper.wp execOp
  subst hu
  simp only [ho, Sem.run_bind, Sem.run_pure, Result.andThen_ok, hr]
  exact hK _ _ h
end Go.Proofs.YtcafffohnokjgaaDoor
