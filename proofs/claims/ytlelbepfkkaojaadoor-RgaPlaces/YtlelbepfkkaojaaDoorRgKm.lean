/- Mathematics of RgaKeeps: what one operation does to the rows of IDs. -/
import Derived.Test.YtlelbepfkkaojaaDoorRgSh
namespace Go.Proofs.YtlelbepfkkaojaaDoor
set_option linter.unusedVariables false
set_option linter.unusedSimpArgs false

theorem put_fail {O : List Opn} {x : Opn} (h : (putA O x).1 = false) : putO O x = O := by unfold putO; rw [if_neg (by rw [h]; decide)]
theorem put_took {O : List Opn} {x : Opn} (h : (putA O x).1 = true) : putO O x = O ++ [x] ∧ putA O x = (true, 0) := by
  refine ⟨by unfold putO; rw [if_pos h], ?_⟩
  obtain ⟨h1, h2, h3, h4⟩ := (putA_iff O x).1 h
  exact ((putA_cases O x h1).2.2.2 (by omega) (by omega) h3).2 (by omega)
theorem visI_eq (O : List Opn) : visI (els O) = ((seqE O).map Opn.id).filter fun i => !deadE O i := by
  unfold visI els
  generalize seqE O = l
  induction l with
  | nil => rfl
  | cons e r ih =>
    rw [List.map_cons, List.map_cons, List.filter_cons, List.filter_cons]
    have e1 : (elOf O e).2.2.2 = !deadE O e.id := rfl
    rw [e1]
    cases h : deadE O e.id
    · simp only [Bool.not_false, if_true, List.map_cons]
      rw [ih]; rfl
    · simp only [Bool.not_true, Bool.false_eq_true, if_false]
      exact ih
theorem km_rem {O : List Opn} {x : Opn} (hi : x.ins = false) : idsOf (els (O ++ [x])) = idsOf (els O) ∧ visI (els (O ++ [x])) = wtI (visI (els O)) x.ref ∧ aliveE (O ++ [x]) x.ref = false := by
  have hs : seqE (O ++ [x]) = seqE O := by rw [seqE_snoc, if_neg (by simp [hi])]
  refine ⟨by rw [ids_els, ids_els, hs], ?_, ?_⟩
  · rw [visI_eq, visI_eq, hs]
    unfold wtI
    rw [List.filter_filter]
    congr 1
    funext i
    rw [dead_rem hi]
    by_cases h : x.ref = i
    · simp [h]
    · have h' : ¬ i = x.ref := fun q => h q.symm
      simp [h, h']
  · unfold aliveE
    rw [dead_rem hi]
    simp
theorem nodup_mid {α : Type} [DecidableEq α] {A B : List α} {y : α} (h : y ∉ A) (h2 : y ∉ B) : (A ++ y :: B).filter (fun x => !decide (x = y)) = A ++ B := by
  rw [List.filter_append, List.filter_cons]
  simp only [decide_true, Bool.not_true, Bool.false_eq_true, if_false]
  rw [List.filter_eq_self.2 (fun x hx => by have : x ≠ y := fun q => h (q ▸ hx); simp [this]), List.filter_eq_self.2 (fun x hx => by have : x ≠ y := fun q => h2 (q ▸ hx); simp [this])]
theorem km_ins {O : List Opn} {x : Opn} (hv : Rv O) (hx : (putA O x).1 = true) (hi : x.ins = true) :
    (∃ n : Nat, ixI (idsOf (els (O ++ [x]))) x.id = (n : Int) ∧ ixI (idsOf (els (O ++ [x]))) x.ref < (n : Int)) ∧ wtI (idsOf (els (O ++ [x]))) x.id = idsOf (els O) ∧ wtI (visI (els (O ++ [x]))) x.id = visI (els O) ∧ aliveE (O ++ [x]) x.id = true := by
  have hs : seqE (O ++ [x]) = (seqE O).take (posE O x) ++ x :: (seqE O).drop (posE O x) := by rw [seqE_snoc, if_pos hi, insE_pos hv hx]
  have hN := seqE_nodup (rv_snoc hv hx)
  have hd : (fun i => !deadE (O ++ [x]) i) = fun i => !deadE O i := by funext i; rw [dead_ins hi]
  have hnew : ∀ e ∈ seqE O, e.id ≠ x.id := fun e he => new_id hv hx e ((seqE_mem O e).1 he).1
  have h1 : x.id ∉ ((seqE O).take (posE O x)).map Opn.id := fun q => by
    obtain ⟨e, he, q⟩ := List.mem_map.1 q
    exact hnew e (List.mem_of_mem_take he) q
  have h2 : x.id ∉ ((seqE O).drop (posE O x)).map Opn.id := fun q => by
    obtain ⟨e, he, q⟩ := List.mem_map.1 q
    exact hnew e (List.mem_of_mem_drop he) q
  have hpl := posE_le O hv x
  have hop : opB x = true := ((putA_iff _ _).1 hx).1
  refine ⟨⟨posE O x, ?_, ?_⟩, ?_, ?_, ?_⟩
  · rw [ids_els]
    refine ix_at _ _ hN _ ?_
    rw [hs, List.map_append, List.map_cons, List.getElem?_append_right (by simp; omega)]
    have e0 : posE O x - (((seqE O).take (posE O x)).map Opn.id).length = 0 := by simp; omega
    rw [e0]; rfl
  · rw [ids_els]
    by_cases hz : x.ref = (0, 0)
    · have : ixI ((seqE (O ++ [x])).map Opn.id) x.ref = -1 := by
        refine ix_none _ _ fun q => ?_
        obtain ⟨e, he, q⟩ := List.mem_map.1 q
        rw [hz] at q
        exact id_ne0 (rv_op (rv_snoc hv hx) e ((seqE_mem _ e).1 he).1) q
      rw [this]; omega
    · have hh : hasE O x.ref = true := by
        rcases ((putA_iff _ _).1 hx).2.2.1 with q | q
        · exact absurd q hz
        · exact q
      obtain ⟨n, g1, g2, g3⟩ := fIx_some O hv x.ref hh
      have hp : n < posE O x := by unfold posE; rw [g1]; omega
      have : ixI ((seqE (O ++ [x])).map Opn.id) x.ref = (n : Int) := by
        refine ix_at _ _ hN n ?_
        rw [hs, List.map_append, List.getElem?_append_left (by simp; omega), List.map_take, List.getElem?_take, if_pos hp]
        exact g3
      rw [this]; omega
  · rw [ids_els, ids_els, hs, List.map_append, List.map_cons]
    unfold wtI
    rw [nodup_mid h1 h2, ← List.map_append, List.take_append_drop]
  · rw [visI_eq, visI_eq, hd, hs, List.map_append, List.map_cons, List.filter_append, List.filter_cons]
    have hdn : (!deadE O x.id) = true := by rw [dead_new hv hx]; rfl
    rw [if_pos hdn]
    unfold wtI
    rw [nodup_mid (fun q => h1 (List.mem_filter.1 q).1) (fun q => h2 (List.mem_filter.1 q).1), ← List.filter_append, ← List.map_append, List.take_append_drop]
  · unfold aliveE
    rw [dead_ins hi, dead_new hv hx]
    have : hasE (O ++ [x]) x.id = true := (hasE_iff _ _).2 ⟨x, by simp, hi, rfl⟩
    rw [this]; rfl
theorem idsN {O : List Opn} (hv : Rv O) : (idsOf (els O)).Nodup := by rw [ids_els]; exact seqE_nodup hv
theorem seq_len (O : List Opn) : (seqE O).length ≤ O.length := snocR (P := fun O => (seqE O).length ≤ O.length) (Nat.le_refl _) (fun l x ih => by
  rw [seqE_snoc, List.length_append]
  split
  · obtain ⟨A, B, h1, h2⟩ := insE_split x (seqE l)
    rw [h2]; rw [h1] at ih
    simp at ih ⊢; omega
  · simp; omega) O
theorem ids_len (O : List Opn) : (idsOf (els O)).length ≤ O.length := by rw [ids_els, List.length_map]; exact seq_len O
theorem visI_len (O : List Opn) : (visI (els O)).length ≤ O.length := by
  rw [visI_eq]
  refine Nat.le_trans (List.length_filter_le _ _) ?_
  rw [List.length_map]; exact seq_len O
theorem visC_len (O : List Opn) : (visC (els O)).length ≤ O.length := by
  unfold visC
  rw [List.length_map]
  refine Nat.le_trans (List.length_filter_le _ _) ?_
  rw [els_len]; exact seq_len O
end Go.Proofs.YtlelbepfkkaojaaDoor
