/-
  No cell of these rows narrows 'for every input' (looked for: loops, veiled, ifaces, maps, wideKeys, modest, calm, conditions, laid).
  DERIVED. THE GIVEN ROWS OF THIS SEAT. 6 by the template 'for every input the law returns true; each argument reads behind the call as it read before'; 0 by the template 'total and deterministic' (their statements: YtcbnmahbdcjamaaTotals.lean).
  GIVEN WITH THE SEED: the statements are not yours to turn. If you find one false, say at which input.
  Laid BY PROGRAM, IN A SANDBOX (cutbox-rows.mjs): the forced cells as the released guide's own fill.sh prints them over the translation 2afae8aaec3ebfd1… (all of the seat's roots in one cut). By AI agents, Wed Nov 11 2026. No macro, syntax, notation, axiom, sorry.
-/
import Derived.Test.YtcbnmahbdcjamaaChecked
import GoSem.Claim
import GoSem.ClaimJoined
import GoSem.ClaimMapViews
import Derived.JoinedTies
import Derived.KernelRfl
namespace Go.Proofs.Ytcbnmahbdcjamaa
/- THE CELL 'sum', in the pinned program and in every row, IS THE sha256 OF THE DUMP (.gsa) THAT YtcbnmahbdcjamaaProg.lean LOADS. Nothing in Lean hashes anything: it is a label: what it is worth is what the hold of that sum in a sandbox is worth. -/
noncomputable def Try.pinned : Pinned := { name := "ytcbnmahbdcjamaa", sum := "2afae8aaec3ebfd12f87654e8243ce076d8f67eec6164408d007af2fb6370639", checked := Try.checked }
namespace Rows
def none {H : Type} : Left H := { results := [], args := [] }

/-- 'foolscaplaw14.RgaMeets': WHATEVER THE INPUT: true; the input reads as it did. -/
def rgaMeetsSpec : ChangeSpec := { name := "rgaMeets", fn := fun _ => fun
  | [d1, d2] => { results := [.lit (.bool true)], args := [d1, d2] }
  | _ => none }
def rgaMeetsRow : OpenClaim := { program := "ytcbnmahbdcjamaa", sum := "2afae8aaec3ebfd12f87654e8243ce076d8f67eec6164408d007af2fb6370639", func := "foolscap/foolscaplaw14.RgaMeets", spec := "rgaMeets", inPlace := ["slices.overlaps[foolscap/rga.element]", "slices.overlaps[foolscap/index.block]"], unfollowed := true, recurses := true, apart := false }
def RgaMeetsSaid : Prop := rgaMeetsRow.holds Try.pinned (OpenSpec.ofChange rgaMeetsSpec)

/-- ITS FALSE NEIGHBOUR: 'it returns false'. Refute it at one input. -/
def rgaMeetsWrong : ChangeSpec := { name := "rgaMeets", fn := fun _ => fun
  | [d1, d2] => { results := [.lit (.bool false)], args := [d1, d2] }
  | _ => none }
def RgaMeetsWrongFalsely : Prop := rgaMeetsRow.holds Try.pinned (OpenSpec.ofChange rgaMeetsWrong)

/-- 'foolscaplaw14.RgaGone': WHATEVER THE INPUT: true; the input reads as it did. -/
def rgaGoneSpec : ChangeSpec := { name := "rgaGone", fn := fun _ => fun
  | [d1, d2, d3] => { results := [.lit (.bool true)], args := [d1, d2, d3] }
  | _ => none }
def rgaGoneRow : OpenClaim := { program := "ytcbnmahbdcjamaa", sum := "2afae8aaec3ebfd12f87654e8243ce076d8f67eec6164408d007af2fb6370639", func := "foolscap/foolscaplaw14.RgaGone", spec := "rgaGone", inPlace := ["slices.overlaps[foolscap/rga.element]", "slices.overlaps[foolscap/index.block]"], unfollowed := true, recurses := true, apart := false }
def RgaGoneSaid : Prop := rgaGoneRow.holds Try.pinned (OpenSpec.ofChange rgaGoneSpec)

/-- ITS FALSE NEIGHBOUR: 'it returns false'. Refute it at one input. -/
def rgaGoneWrong : ChangeSpec := { name := "rgaGone", fn := fun _ => fun
  | [d1, d2, d3] => { results := [.lit (.bool false)], args := [d1, d2, d3] }
  | _ => none }
def RgaGoneWrongFalsely : Prop := rgaGoneRow.holds Try.pinned (OpenSpec.ofChange rgaGoneWrong)

/-- 'foolscaplaw15.FrameBytes': WHATEVER THE INPUT: true; the input reads as it did. -/
def frameBytesSpec : ChangeSpec := { name := "frameBytes", fn := fun _ => fun
  | [d] => { results := [.lit (.bool true)], args := [d] }
  | _ => none }
def frameBytesRow : OpenClaim := { program := "ytcbnmahbdcjamaa", sum := "2afae8aaec3ebfd12f87654e8243ce076d8f67eec6164408d007af2fb6370639", func := "foolscap/foolscaplaw15.FrameBytes", spec := "frameBytes", unfollowed := true, recurses := true, apart := false }
def FrameBytesSaid : Prop := frameBytesRow.holds Try.pinned (OpenSpec.ofChange frameBytesSpec)

/-- ITS FALSE NEIGHBOUR: 'it returns false'. Refute it at one input. -/
def frameBytesWrong : ChangeSpec := { name := "frameBytes", fn := fun _ => fun
  | [d] => { results := [.lit (.bool false)], args := [d] }
  | _ => none }
def FrameBytesWrongFalsely : Prop := frameBytesRow.holds Try.pinned (OpenSpec.ofChange frameBytesWrong)

/-- 'foolscaplaw15.FrameReads': WHATEVER THE INPUT: true; the input reads as it did. -/
def frameReadsSpec : ChangeSpec := { name := "frameReads", fn := fun _ => fun
  | [d1, d2] => { results := [.lit (.bool true)], args := [d1, d2] }
  | _ => none }
def frameReadsRow : OpenClaim := { program := "ytcbnmahbdcjamaa", sum := "2afae8aaec3ebfd12f87654e8243ce076d8f67eec6164408d007af2fb6370639", func := "foolscap/foolscaplaw15.FrameReads", spec := "frameReads", unfollowed := true, recurses := true, apart := false }
def FrameReadsSaid : Prop := frameReadsRow.holds Try.pinned (OpenSpec.ofChange frameReadsSpec)

/-- ITS FALSE NEIGHBOUR: 'it returns false'. Refute it at one input. -/
def frameReadsWrong : ChangeSpec := { name := "frameReads", fn := fun _ => fun
  | [d1, d2] => { results := [.lit (.bool false)], args := [d1, d2] }
  | _ => none }
def FrameReadsWrongFalsely : Prop := frameReadsRow.holds Try.pinned (OpenSpec.ofChange frameReadsWrong)

/-- 'foolscaplaw15.FrameCuts': WHATEVER THE INPUT: true; the input reads as it did. -/
def frameCutsSpec : ChangeSpec := { name := "frameCuts", fn := fun _ => fun
  | [d1, d2, d3] => { results := [.lit (.bool true)], args := [d1, d2, d3] }
  | _ => none }
def frameCutsRow : OpenClaim := { program := "ytcbnmahbdcjamaa", sum := "2afae8aaec3ebfd12f87654e8243ce076d8f67eec6164408d007af2fb6370639", func := "foolscap/foolscaplaw15.FrameCuts", spec := "frameCuts", unfollowed := true, recurses := true, apart := false }
def FrameCutsSaid : Prop := frameCutsRow.holds Try.pinned (OpenSpec.ofChange frameCutsSpec)

/-- ITS FALSE NEIGHBOUR: 'it returns false'. Refute it at one input. -/
def frameCutsWrong : ChangeSpec := { name := "frameCuts", fn := fun _ => fun
  | [d1, d2, d3] => { results := [.lit (.bool false)], args := [d1, d2, d3] }
  | _ => none }
def FrameCutsWrongFalsely : Prop := frameCutsRow.holds Try.pinned (OpenSpec.ofChange frameCutsWrong)

/-- 'foolscaplaw16.HoldPlays': WHATEVER THE INPUT: true; the input reads as it did. -/
def holdPlaysSpec : ChangeSpec := { name := "holdPlays", fn := fun _ => fun
  | [d1, d2] => { results := [.lit (.bool true)], args := [d1, d2] }
  | _ => none }
def holdPlaysRow : OpenClaim := { program := "ytcbnmahbdcjamaa", sum := "2afae8aaec3ebfd12f87654e8243ce076d8f67eec6164408d007af2fb6370639", func := "foolscap/foolscaplaw16.HoldPlays", spec := "holdPlays", unfollowed := true, recurses := true, apart := false }
def HoldPlaysSaid : Prop := holdPlaysRow.holds Try.pinned (OpenSpec.ofChange holdPlaysSpec)

/-- ITS FALSE NEIGHBOUR: 'it returns false'. Refute it at one input. -/
def holdPlaysWrong : ChangeSpec := { name := "holdPlays", fn := fun _ => fun
  | [d1, d2] => { results := [.lit (.bool false)], args := [d1, d2] }
  | _ => none }
def HoldPlaysWrongFalsely : Prop := holdPlaysRow.holds Try.pinned (OpenSpec.ofChange holdPlaysWrong)

/- THE SECOND FORM. 'bulk': how many values and letters a reading holds, each counted each time it is reached (what is shared counts as often as it is met; a slice's spare places count too). A statement '..UptoSaid' is the law's where the arguments, and the package variables that the reading takes, are together of bulk at most 1048576: NARROWER than '..Said'. Prove '..Said' where nothing that the law and all that it calls make is longer than what came in: it says more and counts as full. Else prove '..UptoSaid'. A law counts once. -/
mutual
def uptoBulk {H : Type} : DataW H → Nat
  | .lit (.string bytes) => bytes.length + 1
  | .lit _ => 1
  | .nil => 1
  | .ptr d => uptoBulk d + 1
  | .slice elems spare => uptoBulkAll elems + uptoBulkAll spare + 1
  | .agg parts => uptoBulkAll parts + 1
  | .iface _ d => uptoBulk d + 1
  | .map entries => uptoBulkEntries entries + 1
  | .held _ => 1
def uptoBulkAll {H : Type} : List (DataW H) → Nat
  | [] => 0
  | d :: r => uptoBulk d + uptoBulkAll r
def uptoBulkEntries {H : Type} : List (Lit × DataW H) → Nat
  | [] => 0
  | x :: r => uptoBulkEntry x + uptoBulkEntries r
def uptoBulkEntry {H : Type} : Lit × DataW H → Nat
  | (.string bytes, d) => bytes.length + uptoBulk d + 1
  | (_, d) => uptoBulk d + 1
 end
def uptoSmall : (H : Type) → List (DataW H) → Bool := fun _ ds => decide (uptoBulkAll ds ≤ 1048576)
def OpenSpec.upto (s : _root_.Go.ChangeSpec) : _root_.Go.OpenSpec := { _root_.Go.OpenSpec.ofChange s with cond := some uptoSmall }

/-- 'foolscaplaw14.RgaMeets', WHERE WHAT IT READS IS OF BULK AT MOST 1048576: true; the input reads as it did. -/
def rgaMeetsUptoRow : OpenClaim := { program := "ytcbnmahbdcjamaa", sum := "2afae8aaec3ebfd12f87654e8243ce076d8f67eec6164408d007af2fb6370639", func := "foolscap/foolscaplaw14.RgaMeets", spec := "rgaMeets", inPlace := ["slices.overlaps[foolscap/rga.element]", "slices.overlaps[foolscap/index.block]"], unfollowed := true, recurses := true, apart := false, narrowed := true }
def RgaMeetsUptoSaid : Prop := rgaMeetsUptoRow.holds Try.pinned (OpenSpec.upto rgaMeetsSpec)

/-- 'foolscaplaw14.RgaGone', WHERE WHAT IT READS IS OF BULK AT MOST 1048576: true; the input reads as it did. -/
def rgaGoneUptoRow : OpenClaim := { program := "ytcbnmahbdcjamaa", sum := "2afae8aaec3ebfd12f87654e8243ce076d8f67eec6164408d007af2fb6370639", func := "foolscap/foolscaplaw14.RgaGone", spec := "rgaGone", inPlace := ["slices.overlaps[foolscap/rga.element]", "slices.overlaps[foolscap/index.block]"], unfollowed := true, recurses := true, apart := false, narrowed := true }
def RgaGoneUptoSaid : Prop := rgaGoneUptoRow.holds Try.pinned (OpenSpec.upto rgaGoneSpec)

/-- 'foolscaplaw15.FrameBytes', WHERE WHAT IT READS IS OF BULK AT MOST 1048576: true; the input reads as it did. -/
def frameBytesUptoRow : OpenClaim := { program := "ytcbnmahbdcjamaa", sum := "2afae8aaec3ebfd12f87654e8243ce076d8f67eec6164408d007af2fb6370639", func := "foolscap/foolscaplaw15.FrameBytes", spec := "frameBytes", unfollowed := true, recurses := true, apart := false, narrowed := true }
def FrameBytesUptoSaid : Prop := frameBytesUptoRow.holds Try.pinned (OpenSpec.upto frameBytesSpec)

/-- 'foolscaplaw15.FrameReads', WHERE WHAT IT READS IS OF BULK AT MOST 1048576: true; the input reads as it did. -/
def frameReadsUptoRow : OpenClaim := { program := "ytcbnmahbdcjamaa", sum := "2afae8aaec3ebfd12f87654e8243ce076d8f67eec6164408d007af2fb6370639", func := "foolscap/foolscaplaw15.FrameReads", spec := "frameReads", unfollowed := true, recurses := true, apart := false, narrowed := true }
def FrameReadsUptoSaid : Prop := frameReadsUptoRow.holds Try.pinned (OpenSpec.upto frameReadsSpec)

/-- 'foolscaplaw15.FrameCuts', WHERE WHAT IT READS IS OF BULK AT MOST 1048576: true; the input reads as it did. -/
def frameCutsUptoRow : OpenClaim := { program := "ytcbnmahbdcjamaa", sum := "2afae8aaec3ebfd12f87654e8243ce076d8f67eec6164408d007af2fb6370639", func := "foolscap/foolscaplaw15.FrameCuts", spec := "frameCuts", unfollowed := true, recurses := true, apart := false, narrowed := true }
def FrameCutsUptoSaid : Prop := frameCutsUptoRow.holds Try.pinned (OpenSpec.upto frameCutsSpec)

/-- 'foolscaplaw16.HoldPlays', WHERE WHAT IT READS IS OF BULK AT MOST 1048576: true; the input reads as it did. -/
def holdPlaysUptoRow : OpenClaim := { program := "ytcbnmahbdcjamaa", sum := "2afae8aaec3ebfd12f87654e8243ce076d8f67eec6164408d007af2fb6370639", func := "foolscap/foolscaplaw16.HoldPlays", spec := "holdPlays", unfollowed := true, recurses := true, apart := false, narrowed := true }
def HoldPlaysUptoSaid : Prop := holdPlaysUptoRow.holds Try.pinned (OpenSpec.upto holdPlaysSpec)

end Rows
end Go.Proofs.Ytcbnmahbdcjamaa
