/- The frame that every statement of this layer stands in: what the listed variables give a walk; a world in which they are laid. -/
import Derived.Test.YtlelbepfkkaojaaDoorCards
import Derived.Test.YtlelbepfkkaojaaDoorTie
import Derived.Test.YtlelbepfkkaojaaDoorIxO
import Derived.Test.YtlelbepfkkaojaaDoorIxB
import Derived.SizedLaws
import Derived.ProofKit
import Derived.OpenShut
import Derived.ShutString
import Derived.ChangeOld
import Derived.ChangeVars
import Derived.JoinedOf
import Derived.LaidLaws
import Derived.LaidHandle
import Derived.Lay
import Derived.Below
import Derived.HandedShaped
import Derived.Shelf.Vars
import Derived.Lib.LaidTab
import Derived.Stop.LaidErr
namespace Go.Proofs.YtlelbepfkkaojaaDoor
open Go.ChangeShapes Go.WideShapes Go.ChangeAt Go.RowKit
set_option linter.unusedVariables false

theorem own : ownKnob Tryd.prog.godebug = none := by kernel_rfl
theorem laidOut : laidOutB Tryd.prog = true := by kernel_rfl
/-- A statement out of its walk, with what is listed and the weights of what comes in. -/
theorem returns_sized {H : Type} {enc : TypeId × Value → H} {a : Assume} {C : Checked} {os : Os} {f : FuncId} {fn : Func} {s : ChangeSpec} {conds : List PathCond} {apart fresh handsOn again : Bool} {X : World → Array Value → Prop}
    (hX : ∀ (w w' : World) (args : Array Value), w.heap = w'.heap → X w args → X w' args)
    (own : ownKnob C.prog.godebug = none) (started : os.Started) (noInit : C.prog.inits.idxOf? f = none) (hfn : C.prog.funcs[f]? = some fn)
    (witness : ∃ (w : World) (tape : Tape) (i : Input), w.os = os ∧ (w.forCall tape i).Shaped C.prog ∧ i.vars = [] ∧ Input.okWide C.prog (w.forCall tape i) .any w.heap.size f i ∧
      ((s.pre enc C.prog fn conds apart (w.forCall tape i).memory i.args ∧ X (w.forCall tape i).memory i.args) ∧ sizedMet enc C.prog fn (OpenSpec.ofChange s) apart (w.forCall tape i).memory i.args) ∧ a.holds C.prog (lone (Frame.enter C.prog f i.args .normal) [] (w.forCall tape i)))
    (contract : ∀ (W : World) (base : Nat) (args : Array Value) (ds gs : List (DataW H)) (before : List MemPlace),
      (∀ (j : Nat) t v, fn.params[j]? = some t → args[j]? = some v → Value.okWide C.prog W .any base t v) →
      DataW.Whole enc C.prog fn.params.toList s.vars apart W args.toList ds gs before → X W args →
      (DataW.weightsEach C.prog (fn.params.toList ++ (OpenSpec.ofChange s).bare.plain.varTypes C.prog) (ds ++ gs)).all (· ≤ reachBytes) = true →
      Calls C.prog f args W fun e W' => ∃ v, e = .returned v ∧ s.post enc C.prog fn apart fresh handsOn again W args v W') :
    ReturnsInHanded a C os f .any (fun w args => (s.pre enc C.prog fn conds apart w args ∧ X w args) ∧ sizedMet enc C.prog fn (OpenSpec.ofChange s) apart w args) (s.post enc C.prog fn apart fresh handsOn again) := by
  refine returnsInHanded_of_calls own started noInit witness ?_
  intro w tape i _ hsh _ hok hpre _
  obtain ⟨_, _, _, fn', hfn', _, _, _, _, hval⟩ := hok
  have e : fn' = fn := Option.some.inj (hfn'.symm.trans hfn)
  subst e
  obtain ⟨⟨⟨ds, gs, before, hw, hc⟩, hx⟩, hz⟩ := hpre
  have hw' := DataW.Whole.of_heap (w' := w.forCall tape i) (by rfl) hw
  refine (contract (w.forCall tape i) w.heap.size i.args ds gs before hval hw' (hX _ _ _ (by rfl) hx) (hz.weights hw)).mono fun e W' ⟨v, he, hp⟩ => ?_
  subst he
  exact ChangeSpec.post_blind hp
/-- What is listed. -/
def listD : List (String × DataW Unit) := Rows.rgaPlacesRow.laid
/-- A world in which all that is listed lies. -/
def laidWorldD (P : Program) (os : Os) : World := (World.holding P os ⟨#[], #[], []⟩).layVars P listD
theorem laidWorldD_data (os : Os) : laidMet Tryd.prog listD (laidWorldD Tryd.prog os) := by
  have e1 : (listD.filter fun x => (listD.map (·.1)).contains x.1) = listD := List.filter_eq_self.2 fun x hx => List.contains_iff_mem.2 (List.mem_map.2 ⟨x, hx, rfl⟩)
  have e2 : (listD.filter fun x => !(listD.map (·.1)).contains x.1) = [] := List.filter_eq_nil_iff.2 fun x hx => by rw [List.contains_iff_mem.2 (List.mem_map.2 ⟨x, hx, rfl⟩)]; simp
  exact laidMet_layVars (w0 := World.holding Tryd.prog os ⟨#[], #[], []⟩) (listD.map (·.1)) [] (by rw [e1]; rfl) (by rw [e1]; kernel_rfl) (by rw [e1]; kernel_rfl) (by rw [e2]; exact LaidIn.none)
theorem laidWorldD_met (os : Os) (args : Array Value) (l : List (String × DataW Unit)) (hl : l = listD) :
    laidMetH Tryd.prog l ((laidWorldD Tryd.prog os).forCall (fun _ _ => 0) ⟨#[], args, []⟩).memory := by
  subst hl
  refine laidMetH_of_parts ?_ (by kernel_rfl)
  exact (laidWorldD_data os).of_heap (by simp [World.memory, World.forCall, Input.heap])
theorem tabD_data : Rows.laid_math_bits_deBruijn64tab = (Lib.tabData .u8 (Lib.deBruijn64tab.map Int.ofNat) : DataW Unit) := by kernel_rfl
theorem globD : Tryd.prog.globalNamed "math/bits.deBruijn64tab" = some 0 := by kernel_rfl
theorem tab_head {W : World} {rest : List (String × DataW Unit)} (h3 : laidMet Tryd.prog (("math/bits.deBruijn64tab", Rows.laid_math_bits_deBruijn64tab) :: rest) W) : TabD W := by
  rw [tabD_data] at h3
  have h4 := Lib.tabIs_of_head (g := 0) (t := 88) (e := 5) (n := 64) globD (by kernel_rfl) Tryd.underlying88 Tryd.underlying5 (by kernel_rfl) (by kernel_rfl) h3
  intro j hj
  have h5 := World.var?_cell globD h4 j
  rw [h5]
  have hl : j < Lib.deBruijn64tab.length := by have : Lib.deBruijn64tab.length = 64 := by decide
                                               omega
  simp [List.getD_eq_getElem?_getD, hl]
theorem tabD_of {W : World} {l : List (String × DataW Unit)} (hl : l = listD) (h : laidMetH Tryd.prog l W) : TabD W := by
  subst hl
  have h3 : laidMet Tryd.prog listD W := h
  first | exact tab_head h3 | exact tab_head (laidMet.tail h3) | exact tab_head (laidMet.tail (laidMet.tail h3))
end Go.Proofs.YtlelbepfkkaojaaDoor
