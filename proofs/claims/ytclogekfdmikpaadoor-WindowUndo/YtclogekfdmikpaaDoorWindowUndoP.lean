/- WindowUndo, for every input: what is put back is as it was; the listed tables of the library as its own text lays them. -/
import Derived.Test.YtclogekfdmikpaaDoorWindowUndoW
import Derived.Test.YtclogekfdmikpaaDoorJ41
import Derived.Test.YtclogekfdmikpaaDoorWinFo
namespace Go.Proofs.YtclogekfdmikpaaDoor.windowUndo
open Go.ChangeShapes Go.WideShapes Go.ChangeAt Go.RowKit
set_option linter.unusedVariables false

theorem rowLaid : Rows.windowUndoRow.laid = listD := rfl
theorem w_all {H : Type} (d0 d1 d2 : DataW H) (h : (DataW.weightsEach Tryd.prog ([25, 26, 39] ++ []) ([d0, d1, d2] ++ [])).all (· ≤ reachBytes) = true) : (d0.weights Tryd.prog 25).all (· ≤ reachBytes) = true ∧ (d1.weights Tryd.prog 26).all (· ≤ reachBytes) = true ∧ (d2.weights Tryd.prog 39).all (· ≤ reachBytes) = true := by
 simp only [List.cons_append, List.nil_append, DataW.weightsEach, List.all_append, Bool.and_eq_true] at h
 exact ⟨h.1, h.2.1, h.2.2.1⟩
set_option maxRecDepth 100000 in
theorem lifted (os : Os) (started : os.Started) (H : Type) (enc : TypeId × Value → H) :
 ReturnsInHanded {} Tryd.checked os 5 .any (fun w args => (Rows.windowUndoSpec.pre enc Tryd.prog Tryd.f5 [] false w args ∧ laidMetH Tryd.prog Rows.windowUndoRow.laid w) ∧ sizedMet enc Tryd.prog Tryd.f5 (OpenSpec.ofChange Rows.windowUndoSpec) false w args)
  (Rows.windowUndoSpec.post enc Tryd.prog Tryd.f5 false true false false) := by
 refine returns_sized (C := Tryd.checked) (X := fun w _ => laidMetH Tryd.prog Rows.windowUndoRow.laid w) (fun _ _ _ hh h => h.of_heap hh) own started (by kernel_rfl) Tryd.func5
  (ChangeSpec.witness_at (enc := enc) (C := Tryd.checked) (os := os) (X := fun w _ => laidMetH Tryd.prog Rows.windowUndoRow.laid w) false (laidWorldD Tryd.prog os) #[.agg #[.slice none 0 0, .slice none 0 0], .slice none 0 0, .agg #[.int .i64 0, .int .i64 0, .slice none 0 0]] 8 rfl (by kernel_rfl) (by kernel_rfl) (by kernel_rfl) (by kernel_rfl) (by kernel_rfl) (laidWorldD_met os _ _ rowLaid)) ?_
 intro W base args ds gs before hval0 hW hL hwt0
 have hval : ∀ (j : Nat) t v, Tryd.f5.params[j]? = some t → args[j]? = some v → Value.okWide Tryd.prog W .any base t v := hval0
 have hW' := hW
 obtain ⟨p, q, hA0, hV, rfl, hfz, hnd⟩ := hW
 have hA : DataW.TrodAll enc Tryd.prog W 0 (fun _ => true) true Tryd.f5.params.toList args.toList ds p := hA0
 have hwt : (DataW.weightsEach Tryd.prog (Tryd.f5.params.toList ++ []) (ds ++ gs)).all (· ≤ reachBytes) = true := hwt0
 rw [Tryd.params5] at hA hval hwt
 obtain ⟨v0, vs0, d0, ds0, p0, q0, hargs, rfl, rfl, h0, r0⟩ := trodAll_cons hA
 obtain ⟨v1, vs1, d1, ds1, p1, q1, rfl, rfl, rfl, h1, r1⟩ := trodAll_cons r0
 obtain ⟨v2, vs2, d2, ds2, p2, q2, rfl, rfl, rfl, h2, r2⟩ := trodAll_cons r1
 obtain ⟨rfl, rfl, rfl⟩ := trodAll_nil r2
 obtain rfl : args = #[v0, v1, v2] := by cases args; simp_all
 obtain ⟨rfl, rfl⟩ := trodVars_none hV
 have hT : TabD W := tabD_of rowLaid hL
 obtain ⟨hw0, hw1, hw2⟩ := w_all d0 d1 d2 hwt
 have k0 := h0
 have lt0 : ∀ x ∈ p0, x.block < W.heap.size := by obtain ⟨m, hm⟩ := k0; exact DataW.trod_lt m _ _ _ hm
 obtain ⟨D0, K0, rl0, ca0, cc0, ra0, rc0, rfl, hr0, hl0, hlc0, hK0, hKm0⟩ := open_ruleset (hval 0 25 v0 rfl rfl) h0 hw0
 have k1 := h1
 have lt1 : ∀ x ∈ p1, x.block < W.heap.size := by obtain ⟨m, hm⟩ := k1; exact DataW.trod_lt m _ _ _ hm
 obtain ⟨a1, len1, cap1, rfl⟩ := okWide_slice Tryd.underlying26 (hval 1 26 v1 rfl rfl)
 obtain ⟨xs1, hrd1, hcap1, hcm1, hnone1⟩ := open_list h1 hw1
 have k2 := h2
 have lt2 : ∀ x ∈ p2, x.block < W.heap.size := by obtain ⟨m, hm⟩ := k2; exact DataW.trod_lt m _ _ _ hm
 obtain ⟨x2, y2, zs2, oa2, ol2, oc2, rfl, hor2, hoc2, hon2, hob2⟩ := open_step11 (hval 2 39 v2 rfl rfl) h2
 clear hA0 hval0 hwt0
 refine Calls.mono (windowUndo_walk D0 K0 rl0 ca0 ra0 cc0 rc0 xs1 a1 len1 cap1 x2 y2 zs2 oa2 ol2 oc2 W hT hr0 hl0 hK0 hKm0 hrd1 hcap1 hnone1 (ok_block Tryd.underlying26 (hval 1 26 _ rfl rfl)) hor2 hoc2 hon2 hob2) fun e W' ⟨he, bel⟩ => ?_
 subst he
 exact ⟨_, rfl, _, _, _, [], _, [], hW', trodAll_mk1 (shut_bool Tryd.underlying4 _), (trodAll_cons_mk (Below.trod laidOut (by kernel_rfl) (of_decide_eq_true (by kernel_rfl)) k0 bel lt0) (trodAll_cons_mk (Below.trod laidOut (by kernel_rfl) (of_decide_eq_true (by kernel_rfl)) k1 bel lt1) (trodAll_cons_mk (Below.trod laidOut (by kernel_rfl) (of_decide_eq_true (by kernel_rfl)) k2 bel lt2) trodAll_mk0))), rfl, bel.frame _, fun h => by cases h⟩

theorem over : Rows.windowUndoRow.holds Tryd.pinned (OpenSpec.ofChange Rows.windowUndoSpec) :=
 OpenClaim.holds_of_wide 5 Tryd.f5 rfl rfl rfl rfl rfl rfl rfl ⟨rfl, rfl, rfl, rfl, rfl⟩ rfl rfl rfl rfl rfl (by kernel_rfl) Tryd.func5 (by kernel_rfl)
  (of_decide_eq_true (by kernel_rfl)) (by unfold Func.isWrapper; first | (rw [if_pos (by decide +kernel)]; kernel_rfl) | (rw [if_neg (by decide +kernel)]; exact ⟨rfl, rfl⟩))
  (fun os started H enc _ => lifted os started H enc)
theorem card : Rows.WindowUndoCardSaid :=
 Claim7.holds_tied_plain_at .later [] Rows.windowUndoCard.laidKinds true Rows.windowUndoCard.stood.harness Rows.windowUndoCard.stood.looks
  over (fun _ h => by cases h) (by kernel_rfl) (fun _ h => by cases h) windowUndo_row_tie rfl ⟨rfl, rfl⟩ (by kernel_rfl) rfl
  (fun f fn hf hfn => by
   obtain rfl : f = 5 := Option.some.inj ((show Tryd.prog.funcNamed Rows.windowUndoRow.func = some 5 by kernel_rfl).symm.trans hf) |>.symm
   obtain rfl : fn = Tryd.f5 := (Option.some.inj (Tryd.func5.symm.trans hfn)).symm
   exact ⟨by kernel_rfl, fun j t ht => by
    rw [Tryd.params5] at ht
    have h3 : t ∈ [25, 26, 39] := by
     have := Array.mem_of_getElem? ht
     simpa using this
    simp only [List.mem_cons, List.not_mem_nil, or_false] at h3
    rcases h3 with rfl | rfl | rfl
    ·exact (show Tryd.prog.wantsStandIn 25 = false by kernel_rfl)
    ·exact (show Tryd.prog.wantsStandIn 26 = false by kernel_rfl)
    ·exact (show Tryd.prog.wantsStandIn 39 = false by kernel_rfl)⟩)
  (by kernel_rfl)
#print axioms card
end Go.Proofs.YtclogekfdmikpaaDoor.windowUndo

namespace Go.Proofs.YtclogekfdmikpaaDoor
theorem windowUndo_holds : Rows.WindowUndoCardSaid := windowUndo.card
end Go.Proofs.YtclogekfdmikpaaDoor
