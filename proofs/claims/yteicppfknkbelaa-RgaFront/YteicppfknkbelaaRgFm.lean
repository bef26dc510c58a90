/- Mathematics of RgaFront: of what one puts ahead of all the newest stands first. -/
import Derived.Test.YteicppfknkbelaaRgSh
namespace Go.Proofs.Yteicppfknkbelaa
set_option linter.unusedVariables false
set_option linter.unusedSimpArgs false

def opF (n : Nat) (c : Int) : Opn := ⟨(n : Int) + 1, 7, (n : Int) + 1, true, 0, 0, c⟩
/-- What has been put. -/
def frO (cs : List Int) : List Opn := cs.foldl (fun O c => O ++ [opF O.length c]) []
theorem frO_len (cs : List Int) : (frO cs).length = cs.length := snocR (P := fun cs => (frO cs).length = cs.length) rfl (fun l c ih => by
  have : frO (l ++ [c]) = frO l ++ [opF (frO l).length c] := by simp [frO]
  rw [this, List.length_append, ih]; simp) cs
theorem frO_snoc (cs : List Int) (c : Int) : frO (cs ++ [c]) = frO cs ++ [opF cs.length c] := by
  have : frO (cs ++ [c]) = frO cs ++ [opF (frO cs).length c] := by simp [frO]
  rw [this, frO_len]
theorem opF_right (n : Nat) (c : Int) (hn : n ≤ 1000) (hc : chB c = true) : opB (opF n c) = true := by
  unfold opB idB opF
  simp only [Bool.and_eq_true]
  refine ⟨⟨⟨⟨(cnB_iff _).2 (by omega), (belB_iff _ _).2 (by omega)⟩, (cnB_iff _).2 (by omega)⟩, ?_⟩, ?_⟩
  · unfold rrB zrB; simp
  · unfold ruB; simp [hc]
theorem fr_facts (cs : List Int) : cs.length ≤ 1000 → (∀ c ∈ cs, chB c = true) → Rv (frO cs) ∧ (lastO (frO cs) 7).s = (cs.length : Int) ∧ (lastO (frO cs) 7).c = (cs.length : Int) ∧ (∀ e ∈ seqE (frO cs), ltI e.id ((cs.length : Int) + 1, 7)) ∧ (∀ o ∈ frO cs, o.ins = true) ∧ (seqE (frO cs)).map (fun e => e.ch) = cs.reverse := by
  refine snocR (P := fun cs => cs.length ≤ 1000 → (∀ c ∈ cs, chB c = true) → Rv (frO cs) ∧ (lastO (frO cs) 7).s = (cs.length : Int) ∧ (lastO (frO cs) 7).c = (cs.length : Int) ∧ (∀ e ∈ seqE (frO cs), ltI e.id ((cs.length : Int) + 1, 7)) ∧ (∀ o ∈ frO cs, o.ins = true) ∧ (seqE (frO cs)).map (fun e => e.ch) = cs.reverse) (fun _ _ => ?_) (fun l c ih hl hc => ?_) cs
  · exact ⟨rv_nil, rfl, rfl, fun e h => (by cases h), fun e h => (by cases h), rfl⟩
  · rw [List.length_append] at hl
    simp only [List.length_cons, List.length_nil] at hl
    obtain ⟨h1, h2, h3, h4, h5, h6⟩ := ih (by omega) (fun d hd => hc d (by simp [hd]))
    have hr := opF_right l.length c (by omega) (hc c (by simp))
    have ht : (putA (frO l) (opF l.length c)).1 = true := (putA_iff _ _).2 ⟨hr, by show (l.length : Int) + 1 = _; rw [show (opF l.length c).a = 7 from rfl, h2], .inl rfl, by show _ < (l.length : Int) + 1; rw [show (opF l.length c).a = 7 from rfl, h3]; omega⟩
    have hs : seqE (frO l ++ [opF l.length c]) = opF l.length c :: seqE (frO l) := by
      rw [seqE_snoc, if_pos (show (opF l.length c).ins = true from rfl)]
      unfold insE
      rw [if_pos (show (opF l.length c).ref = (0, 0) from rfl)]
      exact sk_head fun e he => h4 e (List.mem_of_mem_head? he)
    rw [frO_snoc]
    refine ⟨rv_snoc h1 ht, ?_, ?_, fun e he => ?_, fun o ho => ?_, ?_⟩
    · rw [lastO_snoc, if_pos (show (opF l.length c).a = 7 from rfl), List.length_append]; show (l.length : Int) + 1 = _; simp
    · rw [lastO_snoc, if_pos (show (opF l.length c).a = 7 from rfl), List.length_append]; show (l.length : Int) + 1 = _; simp
    · rw [hs] at he
      rw [List.length_append]
      rcases List.mem_cons.1 he with rfl | he
      · left; show (l.length : Int) + 1 < _; simp; omega
      · have := h4 e he
        rcases this with q | ⟨q, _⟩
        · left; simp at q ⊢; omega
        · left; simp at q ⊢; omega
    · rcases List.mem_append.1 ho with ho | ho
      · exact h5 o ho
      · rw [List.mem_singleton.1 ho]; rfl
    · rw [hs, List.map_cons, h6, List.reverse_append]; rfl
theorem vis_live (O : List Opn) (h : ∀ o ∈ O, o.ins = true) : visC (els O) = (seqE O).map (fun e => e.ch) ∧ visI (els O) = (seqE O).map Opn.id := by
  have hd : ∀ i, deadE O i = false := fun i => by
    rw [Bool.eq_false_iff]
    intro q
    obtain ⟨o, ho, hi, _⟩ := (deadE_iff O i).1 q
    rw [h o ho] at hi; cases hi
  have he : ∀ l : List Opn, (l.map (elOf O)).filter (fun x => x.2.2.2) = l.map (elOf O) := fun l => by
    rw [List.filter_eq_self]
    intro x hx
    obtain ⟨e, _, rfl⟩ := List.mem_map.1 hx
    unfold elOf
    simp [hd]
  unfold visC visI els
  rw [he]
  simp [elOf, Function.comp_def]
theorem fr_put (cs : List Int) (c : Int) (hl : cs.length ≤ 100) (hc : ∀ d ∈ cs, chB d = true) (h : chB c = true) : putA (frO cs) (opF cs.length c) = (true, 0) ∧ putO (frO cs) (opF cs.length c) = frO (cs ++ [c]) := by
  obtain ⟨h1, h2, h3, _⟩ := fr_facts cs (by omega) hc
  have hr := opF_right cs.length c (by omega) h
  have e := (putA_cases (frO cs) (opF cs.length c) hr).2.2.2
  rw [show (opF cs.length c).a = 7 from rfl, h2, h3] at e
  have e1 : putA (frO cs) (opF cs.length c) = (true, 0) := (e (by show ¬ (cs.length : Int) + 1 ≤ _; omega) (by show ¬ _ < (cs.length : Int) + 1; omega) (.inl rfl)).2 (by show ¬ (cs.length : Int) + 1 ≤ _; omega)
  refine ⟨e1, ?_⟩
  unfold putO
  rw [e1, frO_snoc]
  rfl
theorem fr_vis (cs : List Int) (hl : cs.length ≤ 100) (hc : ∀ d ∈ cs, chB d = true) : visC (els (frO cs)) = cs.reverse := by
  obtain ⟨_, _, _, _, h5, h6⟩ := fr_facts cs (by omega) hc
  rw [(vis_live _ h5).1, h6]
end Go.Proofs.Yteicppfknkbelaa
