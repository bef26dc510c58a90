/- The walks of All, Alive, Has, Ahead, At. -/
import Derived.Test.YtlelbepfkkaojaaDoorRgJ
namespace Go.Proofs.YtlelbepfkkaojaaDoor
open Go.RowKit Go.Shelf Go.Maps Go.Sort
set_option linter.unusedVariables false
set_option linter.unusedSimpArgs false

/-- Is there such an element, and is it alive? -/
def aliveE (O : List Opn) (i : Int × Int) : Bool := hasE O i && !deadE O i
theorem seen_alive (O : List Opn) (hv : Rv O) (i : Int × Int) : seenB (marks O) (fIx O i) = aliveE O i := by
  unfold aliveE
  cases h : hasE O i
  · rw [fIx_none O i h]; rfl
  · obtain ⟨n, h1, h2, h3⟩ := fIx_some O hv i h
    rw [h1]
    obtain ⟨e, he, hid⟩ := seq_eq h3
    unfold seenB marks
    have : ((seqE O).map fun e => !deadE O e.id).getD n false = !deadE O i := by
      rw [List.getD_eq_getElem?_getD, List.getElem?_map, he]
      simp [hid]
    show (decide ((0 : Int) ≤ (n : Int)) && ((seqE O).map fun e => !deadE O e.id).getD ((n : Int)).toNat false) = (true && !deadE O i)
    rw [Int.toNat_natCast, this]
    simp
set_option maxHeartbeats 1000000 in
theorem alive_rga {P B Q M : Nat} {ve vo vi : Value} {O : List Opn} (hv : Rv O) (hl : O.length ≤ 99000) (i : Int × Int) (hi : (Lit.int .i64 i.2).wf = true) (w : World) (h : TxAt w P B ve vo vi Q M O) :
    Calls Tryd.prog 12 #[.pointer (some ⟨P, 0, none⟩), .agg #[.int .i64 i.1, .int .i64 i.2]] w fun e w' => e = .returned (.bool (aliveE O i)) ∧ Gw w w' := by
  obtain ⟨i1, i2⟩ := i
  rw [← seen_alive O hv]
  have mixed : Tryd.prog.follows .mixedOrders = true := by kernel_rfl
  obtain ⟨W1, hW1⟩ : ∃ W1, W1 = w.alloc (.cells #[.int .i64 i1, .int .i64 i2] 30) := ⟨_, rfl⟩
  have hg1 : Gw w W1 := by rw [hW1]; exact gw_alloc w _
  have hN : W1.heap[w.heap.size]? = some (.cells #[.int .i64 i1, .int .i64 i2] 30) := by rw [hW1]; exact heap_alloc_new w _
  obtain ⟨n0, n1⟩ := box2 hN
  have h1 := h.later hg1.below
  have g0 := cell_g n0
  have g1 := cell_g n1
  have c1 := cell_g h1.cells.2.1
  have hgr : ∀ n os, Gw w (grow (W1.drewN n) os) := fun n os => hg1.trans ⟨n, os, rfl⟩
  have HFN : Hid (∀ n os, Calls Tryd.prog 17 #[.pointer (some ⟨P, 0, none⟩), .agg #[.int .i64 i1, .int .i64 i2]] (grow (W1.drewN n) os) fun e w' => e = .returned (.int .i64 (fIx O (i1, i2))) ∧ ∃ q os', w' = grow ((grow (W1.drewN n) os).drewN q) os') := fun n os => find_rga hv (by omega) (i1, i2) hi _ (h.later (hgr n os).below)
  have HSN : Hid (∀ n os, Calls Tryd.prog 27 #[.pointer (some ⟨Q, 0, none⟩), .int .i64 (fIx O (i1, i2))] (grow (W1.drewN n) os) fun e w' => e = .returned (.bool (seenB (marks O) (fIx O (i1, i2)))) ∧ w' = grow (W1.drewN n) os) := fun n os => seen_any Q B vi (marks O) _ _ (h.later (hgr n os).below).idx (by rw [marks_len]; have := seqE_len O; omega)
  have HGR : Hid (∀ n os, Gw w (grow (W1.drewN n) os)) := hgr
  show Calls _ _ _ _ fun e w' => e = .returned (.bool (seenB (marks O) (fIx O (i1, i2)))) ∧ Gw w w'
  generalize seenB (marks O) (fIx O (i1, i2)) = z at *
  generalize fIx O (i1, i2) = R at *
  obtain ⟨N, hNe⟩ : ∃ N, N = w.heap.size := ⟨_, rfl⟩
  rw [← hNe] at g0 g1 n0 n1
  clear h h1 hv hl hi hg1 hN hgr
  go_enter Tryd.func12, Tryd.ntmps12
  go_upto_region 1 with fail
  rw [← hNe, ← hW1]
  clear hNe hW1
  go_quiet_grown (first
    | (go_at_call 17; refine Calls.grown_of (HFN.out _ _))
    | (go_at_call 27; refine Calls.grown_of ((HSN.out _ _).mono (fun e w' hh => ⟨hh.1, 0, #[], by rw [hh.2, grow_empty]; rfl⟩))))
  go_wp2
  go_ret
  exact ⟨rfl, HGR.out _ _⟩
end Go.Proofs.YtlelbepfkkaojaaDoor
