/- In one text: TabO, DfaFr, BasY. -/
import Derived.Test.YtclogekfdmikpaaDoorJ27
import Derived.Test.YtclogekfdmikpaaDoorCards
import Derived.Test.YtclogekfdmikpaaDoorTie
import Derived.Test.YtclogekfdmikpaaDoorJ06
import Derived.ProofKit
import Derived.OpenShut
import Derived.ShutString
import Derived.ChangeOld
import Derived.ChangeVars
import Derived.JoinedOf
import Derived.LaidLaws
import Derived.LaidHandle
import Derived.Lay
import Derived.Below
import Derived.HandedShaped
import Derived.Shelf.Vars
import Derived.Lib.LaidTab
import Derived.Stop.LaidErr
import Derived.Test.YtclogekfdmikpaaDoorJ01
/- A ruleset that comes in. -/
namespace Go.Proofs.YtclogekfdmikpaaDoor
open Go.ChangeShapes Go.WideShapes Go.ChangeAt Go.RowKit
set_option linter.unusedVariables false
set_option linter.unusedSimpArgs false

set_option maxRecDepth 100000 in
theorem wRs {H : Type} (d0 d1 : DataW H) (h : ((DataW.agg [d0, d1]).weights Tryd.prog 25).all (· ≤ reachBytes) = true) : (d0.weights Tryd.prog 22).all (· ≤ reachBytes) = true ∧ (d1.weights Tryd.prog 23).all (· ≤ reachBytes) = true := by
 simp only [DataW.weights, Tryd.underlying25, DataW.weightsEach, List.map_cons, List.map_nil, List.all_append, Bool.and_eq_true] at h
 exact ⟨h.1, h.2.1⟩
set_option maxRecDepth 100000 in
theorem open_ruleset {H : Type} {enc : TypeId × Value → H} {W : World} {base : Nat} {v : Value} {d : DataW H} {p : List MemPlace} (hval : Value.okWide Tryd.prog W .any base 25 v) (h : DataW.Trod enc Tryd.prog W 0 (fun _ => true) true 25 v d p) (hw : (d.weights Tryd.prog 25).all (· ≤ reachBytes) = true) :
 ∃ D K l ca cc ra rc, v = .agg #[.slice ca K cc, .slice ra l.length rc] ∧ RowR W D ra l.length l ∧ l.length ≤ 140737488355328 ∧ l.length ≤ rc ∧ K ≤ cc ∧ K ≤ 140737488355328 := by
 obtain ⟨cs, rfl, _⟩ := okWide_struct Tryd.underlying25 hval
 obtain ⟨fuel, hf⟩ := h
 obtain ⟨xs, k, rfl, hxy, hlen, hxl, hfl⟩ := DataW.trod_struct Tryd.underlying25 hf
 have c0 : Tryd.prog.cellsOf 22 = 1 := by kernel_rfl
 have c1 : Tryd.prog.cellsOf 23 = 1 := by kernel_rfl
 have cr : Tryd.prog.cellsOf 25 = 2 := by kernel_rfl
 have bs : Tryd.prog.bytesOf 9 = 16 := by kernel_rfl
 rw [cr] at hlen
 have hlen2 : cs.toList.length = 2 := hlen
 have hx2 : xs.length = 2 := hxl
 obtain ⟨v0, v1, rfl⟩ : ∃ v0 v1, cs = #[v0, v1] := by
  obtain ⟨l⟩ := cs
  rcases l with _ | ⟨v0, _ | ⟨v1, _ | ⟨v2, r⟩⟩⟩
  all_goals first | exact ⟨_, _, rfl⟩ | (simp at hlen2)
 obtain ⟨y0, y1, rfl⟩ : ∃ y0 y1, xs = [y0, y1] := by
  rcases xs with _ | ⟨v0, _ | ⟨v1, _ | ⟨v2, r⟩⟩⟩
  all_goals first | exact ⟨_, _, rfl⟩ | (simp at hx2)
 have g0 := hfl 0 _ rfl
 have g1 := hfl 1 _ rfl
 simp [c0, c1, Value.cells] at g0 g1
 have hd : d = .agg [y0.1, y1.1] := congrArg Prod.fst hxy
 rw [hd] at hw
 obtain ⟨hw0, hw1⟩ := wRs y0.1 y1.1 hw
 have hs : ∃ ca K cc, v0 = .slice ca K cc ∧ K ≤ cc ∧ K ≤ 140737488355328 := by
  rcases DataW.trod_slice Tryd.underlying22 g0 with ⟨hcs, _⟩ | ⟨x, l, c, elems, rest, n, hn, hcs, hyy, _, hl, hm, hel, hat, hsp, _⟩
  ·simp at hcs
   exact ⟨none, 0, 0, hcs, by omega, by omega⟩
  ·simp at hcs
   have hd0 : y0.1 = .slice (elems.map (·.1)) (rest.map (·.1)) := congrArg Prod.fst hyy
   rw [hd0] at hw0
   simp only [DataW.weights, Tryd.underlying22, List.all_cons, List.all_append, Bool.and_eq_true, decide_eq_true_eq, List.length_map, bs, reachBytes] at hw0
   obtain ⟨hw3, _⟩ := hw0
   have hw5 : (elems.length + rest.length) * 16 ≤ 140737488351232 := of_decide_eq_true hw3
   exact ⟨some x, l, c, hcs, hl, by omega⟩
 have hs1 : ∃ ra n rc, v1 = .slice ra n rc := by
  rcases DataW.trod_slice Tryd.underlying23 g1 with ⟨hcs, _⟩ | ⟨x, l, c, elems, rest, n, hn, hcs, _⟩
  ·simp at hcs; exact ⟨_, _, _, hcs⟩
  ·simp at hcs; exact ⟨_, _, _, hcs⟩
 obtain ⟨ca, K, cc, rfl, hK, hK2⟩ := hs
 obtain ⟨ra, n, rc, rfl⟩ := hs1
 obtain ⟨D, l, hr, hn, hnc⟩ := open_rules (d := y1.1) (p := y1.2) ⟨k, g1⟩ hw1
 obtain ⟨rfl⟩ : n = l.length := hr.1.symm
 exact ⟨D, K, l, ca, cc, ra, rc, rfl, hr, hn, hnc, hK, hK2⟩
end Go.Proofs.YtclogekfdmikpaaDoor

/- The frame that every statement of this layer stands in: what the listed variables give a walk; a world in which they are laid. -/
namespace Go.Proofs.YtclogekfdmikpaaDoor
open Go.ChangeShapes Go.WideShapes Go.ChangeAt Go.RowKit
set_option linter.unusedVariables false

theorem own : ownKnob Tryd.prog.godebug = none := by kernel_rfl
theorem laidOut : laidOutB Tryd.prog = true := by kernel_rfl
theorem returns_sized {H : Type} {enc : TypeId × Value → H} {a : Assume} {C : Checked} {os : Os} {f : FuncId} {fn : Func} {s : ChangeSpec} {conds : List PathCond} {apart fresh handsOn again : Bool} {X : World → Array Value → Prop}
 (hX : ∀ (w w' : World) (args : Array Value), w.heap = w'.heap → X w args → X w' args)
 (own : ownKnob C.prog.godebug = none) (started : os.Started) (noInit : C.prog.inits.idxOf? f = none) (hfn : C.prog.funcs[f]? = some fn)
 (witness : ∃ (w : World) (tape : Tape) (i : Input), w.os = os ∧ (w.forCall tape i).Shaped C.prog ∧ i.vars = [] ∧ Input.okWide C.prog (w.forCall tape i) .any w.heap.size f i ∧
  ((s.pre enc C.prog fn conds apart (w.forCall tape i).memory i.args ∧ X (w.forCall tape i).memory i.args) ∧ sizedMet enc C.prog fn (OpenSpec.ofChange s) apart (w.forCall tape i).memory i.args) ∧ a.holds C.prog (lone (Frame.enter C.prog f i.args .normal) [] (w.forCall tape i)))
 (contract : ∀ (W : World) (base : Nat) (args : Array Value) (ds gs : List (DataW H)) (before : List MemPlace),
  (∀ (j : Nat) t v, fn.params[j]? = some t → args[j]? = some v → Value.okWide C.prog W .any base t v) →
  DataW.Whole enc C.prog fn.params.toList s.vars apart W args.toList ds gs before → X W args →
  (DataW.weightsEach C.prog (fn.params.toList ++ (OpenSpec.ofChange s).bare.plain.varTypes C.prog) (ds ++ gs)).all (· ≤ reachBytes) = true →
  Calls C.prog f args W fun e W' => ∃ v, e = .returned v ∧ s.post enc C.prog fn apart fresh handsOn again W args v W') :
 ReturnsInHanded a C os f .any (fun w args => (s.pre enc C.prog fn conds apart w args ∧ X w args) ∧ sizedMet enc C.prog fn (OpenSpec.ofChange s) apart w args) (s.post enc C.prog fn apart fresh handsOn again) := by
 refine returnsInHanded_of_calls own started noInit witness ?_
 intro w tape i _ hsh _ hok hpre _
 obtain ⟨_, _, _, fn', hfn', _, _, _, _, hval⟩ := hok
 have e : fn' = fn := Option.some.inj (hfn'.symm.trans hfn)
 subst e
 obtain ⟨⟨⟨ds, gs, before, hw, hc⟩, hx⟩, hz⟩ := hpre
 have hw' := DataW.Whole.of_heap (w' := w.forCall tape i) (by rfl) hw
 refine (contract (w.forCall tape i) w.heap.size i.args ds gs before hval hw' (hX _ _ _ (by rfl) hx) (hz.weights hw)).mono fun e W' ⟨v, he, hp⟩ => ?_
 subst he
 exact ChangeSpec.post_blind hp
def listD : List (String × DataW Unit) := Rows.windowLongRow.laid
def laidWorldD (P : Program) (os : Os) : World := (World.holding P os ⟨#[], #[], []⟩).layVars P listD
theorem laidWorldD_data (os : Os) : laidMet Tryd.prog listD (laidWorldD Tryd.prog os) := by
 have e1 : (listD.filter fun x => (listD.map (·.1)).contains x.1) = listD := List.filter_eq_self.2 fun x hx => List.contains_iff_mem.2 (List.mem_map.2 ⟨x, hx, rfl⟩)
 have e2 : (listD.filter fun x => !(listD.map (·.1)).contains x.1) = [] := List.filter_eq_nil_iff.2 fun x hx => by rw [List.contains_iff_mem.2 (List.mem_map.2 ⟨x, hx, rfl⟩)]; simp
 exact laidMet_layVars (w0 := World.holding Tryd.prog os ⟨#[], #[], []⟩) (listD.map (·.1)) [] (by rw [e1]; rfl) (by rw [e1]; kernel_rfl) (by rw [e1]; kernel_rfl) (by rw [e2]; exact LaidIn.none)
theorem laidWorldD_met (os : Os) (args : Array Value) (l : List (String × DataW Unit)) (hl : l = listD) :
 laidMetH Tryd.prog l ((laidWorldD Tryd.prog os).forCall (fun _ _ => 0) ⟨#[], args, []⟩).memory := by
 subst hl
 refine laidMetH_of_parts ?_ (by kernel_rfl)
 exact (laidWorldD_data os).of_heap (by simp [World.memory, World.forCall, Input.heap])
theorem tabD_data : Rows.laid_math_bits_deBruijn64tab = (Lib.tabData .u8 (Lib.deBruijn64tab.map Int.ofNat) : DataW Unit) := by kernel_rfl
theorem globD : Tryd.prog.globalNamed "math/bits.deBruijn64tab" = some 0 := by kernel_rfl
theorem tab_head {W : World} {rest : List (String × DataW Unit)} (h3 : laidMet Tryd.prog (("math/bits.deBruijn64tab", Rows.laid_math_bits_deBruijn64tab) :: rest) W) : TabD W := by
 rw [tabD_data] at h3
 have h4 := Lib.tabIs_of_head (g := 0) (t := 166) (e := 5) (n := 64) globD (by kernel_rfl) Tryd.underlying166 Tryd.underlying5 (by kernel_rfl) (by kernel_rfl) h3
 intro j hj
 have h5 := World.var?_cell globD h4 j
 rw [h5]
 have hl : j < Lib.deBruijn64tab.length := by have : Lib.deBruijn64tab.length = 64 := by decide
                                              omega
 simp [List.getD_eq_getElem?_getD, hl]
theorem tabD_of {W : World} {l : List (String × DataW Unit)} (hl : l = listD) (h : laidMetH Tryd.prog l W) : TabD W := by
 subst hl
 have h3 : laidMet Tryd.prog listD W := h
 first | exact tab_head h3 | exact tab_head (laidMet.tail h3) | exact tab_head (laidMet.tail (laidMet.tail h3))
end Go.Proofs.YtclogekfdmikpaaDoor

/- A slice that comes in lies in memory, also where it is empty. -/
namespace Go.Proofs.YtclogekfdmikpaaDoor
open Go.RowKit
set_option linter.unusedVariables false

theorem ok_block {P : Program} {W : World} {base : Nat} {t e : TypeId} {v : Option Addr} {len cap : Nat} (hu : P.underlying t = some (.slice e)) (h : Value.okWide P W .any base t (.slice v len cap)) : ∀ ad, v = some ad → ad.block < W.heap.size := by
 rintro ad rfl
 simp only [Value.okWide, hu, Cell.okWide, Cell.ok] at h
 obtain ⟨_, _, _, _, row, cells, hs, _⟩ := h
 unfold World.shape? at hs
 rcases Nat.lt_or_ge ad.block W.heap.size with h | h
 ·exact h
 ·rw [Array.getElem?_eq_none h] at hs
  simp at hs
end Go.Proofs.YtclogekfdmikpaaDoor
