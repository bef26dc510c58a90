/- The walks of ident's functions of IDs and operations: Less, rightID, rightRef, rightRune, Right. -/
import Derived.Test.YtcmgmoacpkikdaaIdA
namespace Go.Proofs.Ytcmgmoacpkikdaa
open Go.RowKit Go.Sort
set_option linter.unusedVariables false

/-- The order of IDs. -/
def lsB (a1 a2 b1 b2 : Int) : Bool := decide (a1 < b1) || (decide (a1 = b1) && decide (a2 < b2))
/-- Is an ID right? -/
def idB (c a : Int) : Bool := cnB c && auB a
/-- An operation. -/
structure Opn where
  c : Int
  a : Int
  s : Int
  ins : Bool
  rc : Int
  ra : Int
  ch : Int
abbrev Opn.val (o : Opn) : Value := .agg #[.int .i64 o.c, .int .i64 o.a, .int .i64 o.s, .bool o.ins, .int .i64 o.rc, .int .i64 o.ra, .int .i32 o.ch]
/-- The zero ID. -/
def zrB (c a : Int) : Bool := decide (c = 0) && decide (a = 0)
theorem eql_id (c a : Int) (W : World) : (binOp .eql 29 (.agg #[.int .i64 c, .int .i64 a]) (.agg #[.int .i64 0, .int .i64 0])).run Try.prog W = .ok (.bool (zrB c a)) W := by
  unfold zrB
  by_cases h1 : c = 0 <;> by_cases h2 : a = 0 <;> go_simp
def rrB (o : Opn) : Bool := if zrB o.rc o.ra = true then o.ins else idB o.rc o.ra && decide (o.rc < o.c)
/-- Is it a character? -/
def chB (c : Int) : Bool := decide (0 ≤ c) && decide (c ≤ 1114111) && (decide (c < 55296) || decide (57343 < c))
def ruB (o : Opn) : Bool := if o.ins = true then chB o.ch else decide (o.ch = 0)
/-- Is an operation right? -/
def opB (o : Opn) : Bool := idB o.c o.a && cnB o.s && rrB o && ruB o
end Go.Proofs.Ytcmgmoacpkikdaa
