/- Mathematics of RgaTypes: what one types stands as one typed it. -/
import Derived.Test.YteicppfknkbelaaRgKm
import Derived.Test.YteicppfknkbelaaRgSz
namespace Go.Proofs.Yteicppfknkbelaa
set_option linter.unusedVariables false
set_option linter.unusedSimpArgs false

/-- One author's elements stand side by side among another's; m: no number is greater. -/
structure Ty (O : List Opn) (n : Nat) (m : Int) (r : Int × Int) : Prop where
  rv : Rv O
  mx : ∀ o ∈ O, o.c ≤ m ∧ o.ins = true
  s0 : (lastO O 0).s = (n : Int) ∧ (lastO O 0).c ≤ m
  s1 : 0 ≤ (lastO O 65536).s ∧ (lastO O 65536).s ≤ (O.length : Int) ∧ (lastO O 65536).c ≤ m
  row : ∃ B A C : List Opn, seqE O = B ++ A ++ C ∧ (∀ e ∈ B, e.a = 65536) ∧ (∀ e ∈ C, e.a = 65536) ∧ (∀ e ∈ A, e.a = 0) ∧ A.length = n ∧ (A.map fun e => e.c).Pairwise (fun x y => x < y) ∧ ((n = 0 ∧ r = (0, 0)) ∨ ∃ A' z, A = A' ++ [z] ∧ z.id = r)
theorem ty_nil : Ty [] 0 0 (0, 0) := ⟨rv_nil, fun o h => (by cases h), ⟨rfl, Int.le_refl _⟩, ⟨Int.le_refl _, Int.le_refl _, Int.le_refl _⟩, ⟨[], [], [], rfl, fun e h => (by cases h), fun e h => (by cases h), fun e h => (by cases h), rfl, .nil, .inl ⟨rfl, rfl⟩⟩⟩
theorem Ty.mono {O : List Opn} {n : Nat} {m m' : Int} {r : Int × Int} (h : Ty O n m r) (hm : m ≤ m') : Ty O n m' r :=
  ⟨h.rv, fun o ho => ⟨by have := (h.mx o ho).1; omega, (h.mx o ho).2⟩, ⟨h.s0.1, by have := h.s0.2; omega⟩, ⟨h.s1.1, h.s1.2.1, by have := h.s1.2.2; omega⟩, h.row⟩
def opA (m : Int) (n : Nat) (r : Int × Int) (c : Int) : Opn := ⟨m, 0, (n : Int) + 1, true, r.1, r.2, c⟩
def opZ (m : Int) (s : Int) (c : Int) : Opn := ⟨m, 65536, s, true, 0, 0, c⟩
theorem ty_a {O : List Opn} {n : Nat} {m : Int} {r : Int × Int} (h : Ty O n m r) (c : Int) (hc : chB c = true) (hm : 0 ≤ m) (hm2 : m ≤ 1000) (hn : n ≤ 1000) :
    (putA O (opA (m + 1) n r c)).1 = true ∧ Ty (O ++ [opA (m + 1) n r c]) (n + 1) (m + 1) (m + 1, 0) := by
  obtain ⟨B, A, C, e1, e2, e3, e4, e5, e6, e7⟩ := h.row
  have hrm : r = (0, 0) ∨ (1 ≤ r.1 ∧ r.1 ≤ m ∧ r.2 = 0 ∧ hasE O r = true) := by
    rcases e7 with ⟨_, q⟩ | ⟨A', z, q1, q2⟩
    · exact .inl q
    · right
      have hz : z ∈ seqE O := by rw [e1, q1]; simp
      have hzo := (seqE_mem O z).1 hz
      obtain ⟨g1, g2, g3, g4, g5, g6⟩ := op_id (rv_op h.rv z hzo.1)
      have g7 := (h.mx z hzo.1).1
      have g8 := e4 z (by rw [q1]; simp)
      rw [← q2]
      exact ⟨g1, g7, g8, (hasE_iff _ _).2 ⟨z, hzo.1, hzo.2, rfl⟩⟩
  have hr : opB (opA (m + 1) n r c) = true := by
    unfold opB idB opA
    simp only [Bool.and_eq_true]
    refine ⟨⟨⟨⟨(cnB_iff _).2 (by omega), (belB_iff _ _).2 (by omega)⟩, (cnB_iff _).2 (by omega)⟩, ?_⟩, ?_⟩
    · unfold rrB zrB
      rcases hrm with rfl | ⟨q1, q2, q3, _⟩
      · simp
      · rw [if_neg (by rw [show decide (r.1 = 0) = false from decide_eq_false (by omega), Bool.false_and]; exact Bool.false_ne_true)]
        unfold idB
        simp only [Bool.and_eq_true]
        exact ⟨⟨(cnB_iff _).2 (by omega), (belB_iff _ _).2 (by omega)⟩, decide_eq_true (by omega)⟩
    · unfold ruB; simp [hc]
  have hp : (putA O (opA (m + 1) n r c)).1 = true := (putA_iff _ _).2 ⟨hr, by show (n : Int) + 1 = (lastO O 0).s + 1; rw [h.s0.1], (hrm.elim (fun q => .inl q) fun q => .inr q.2.2.2), by show (lastO O 0).c < m + 1; have := h.s0.2; omega⟩
  have hall : ∀ e ∈ seqE O, ltI e.id (m + 1, 0) := fun e he => .inl (by have := (h.mx e ((seqE_mem O e).1 he).1).1; show e.c < m + 1; omega)
  have hs : seqE (O ++ [opA (m + 1) n r c]) = B ++ (A ++ [opA (m + 1) n r c]) ++ C ∨ (n = 0 ∧ seqE (O ++ [opA (m + 1) n r c]) = opA (m + 1) n r c :: (B ++ C)) := by
    rw [seqE_snoc, if_pos (show (opA (m + 1) n r c).ins = true from rfl)]
    rcases e7 with ⟨q0, q⟩ | ⟨A', z, q1, q2⟩
    · right
      refine ⟨q0, ?_⟩
      have hA : A = [] := List.eq_nil_of_length_eq_zero (by omega)
      subst hA
      unfold insE
      rw [if_pos (show (opA (m + 1) n r c).ref = (0, 0) from q), e1, List.append_nil]
      refine sk_head fun e he => ?_
      exact hall e (by rw [e1, List.append_nil]; exact List.mem_of_mem_head? he)
    · left
      have hz : z ∈ seqE O := by rw [e1, q1]; simp
      have hne : ¬ r = (0, 0) := fun q => id_ne0 (rv_op h.rv z ((seqE_mem O z).1 hz).1) (q2.trans q)
      unfold insE
      rw [if_neg (show ¬ (opA (m + 1) n r c).ref = (0, 0) from hne), e1, q1]
      have hN := seqE_nodup h.rv
      rw [e1, q1] at hN
      have e9 : B ++ (A' ++ [z]) ++ C = (B ++ A') ++ (z :: C) := by simp
      rw [e9]
      rw [e9, List.map_append] at hN
      have hpast : ∀ e ∈ B ++ A', e.id ≠ (opA (m + 1) n r c).ref := fun e he q => by
        have := (List.nodup_append.1 hN).2.2 e.id (List.mem_map.2 ⟨e, he, rfl⟩) z.id (by simp)
        exact this (q.trans q2.symm)
      rw [inB_past _ _ hpast, inB, if_pos (show z.id = (opA (m + 1) n r c).ref from q2)]
      have hC : sk (opA (m + 1) n r c) C = opA (m + 1) n r c :: C := sk_head fun e he => hall e (by rw [e1]; have := List.mem_of_mem_head? he; simp [this])
      rw [hC]
      simp
  refine ⟨hp, rv_snoc h.rv hp, fun o ho => ?_, ?_, ?_, ?_⟩
  · rcases List.mem_append.1 ho with q | q
    · have := h.mx o q; exact ⟨by omega, this.2⟩
    · rw [List.mem_singleton.1 q]; exact ⟨Int.le_refl _, rfl⟩
  · rw [lastO_snoc, if_pos (show (opA (m + 1) n r c).a = 0 from rfl)]
    exact ⟨by show (n : Int) + 1 = _; simp, Int.le_refl _⟩
  · rw [lastO_snoc, if_neg (show ¬ (opA (m + 1) n r c).a = 65536 by show ¬ (0 : Int) = 65536; omega)]
    have := h.s1
    rw [List.length_append]
    refine ⟨this.1, ?_, by omega⟩
    simp; omega
  · have hpw : ((A ++ [opA (m + 1) n r c]).map fun e => e.c).Pairwise (fun x y => x < y) := by
      rw [List.map_append, List.pairwise_append]
      refine ⟨e6, by simp, fun x hx y hy => ?_⟩
      obtain ⟨e, he, rfl⟩ := List.mem_map.1 hx
      simp at hy
      subst hy
      have := (h.mx e ((seqE_mem O e).1 (by rw [e1]; simp [he])).1).1
      show e.c < m + 1
      omega
    rcases hs with q | ⟨q0, q⟩
    · refine ⟨B, A ++ [opA (m + 1) n r c], C, q, e2, e3, fun e he => ?_, by simp [e5], hpw, .inr ⟨A, _, rfl, rfl⟩⟩
      rcases List.mem_append.1 he with he | he
      · exact e4 e he
      · rw [List.mem_singleton.1 he]; rfl
    · refine ⟨[], [opA (m + 1) n r c], B ++ C, by rw [q]; rfl, fun e h => (by cases h), fun e he => ?_, fun e he => ?_, by simp [q0], by simp, .inr ⟨[], _, rfl, rfl⟩⟩
      · rcases List.mem_append.1 he with he | he
        · exact e2 e he
        · exact e3 e he
      · rw [List.mem_singleton.1 he]; rfl
theorem ty_z {O : List Opn} {n : Nat} {m : Int} {r : Int × Int} (h : Ty O n m r) (c : Int) (hc : chB c = true) (hm : 0 ≤ m) (hm2 : m ≤ 1000) (hl : O.length ≤ 1000) :
    (putA O (opZ (m + 1) ((lastO O 65536).s + 1) c)).1 = true ∧ Ty (O ++ [opZ (m + 1) ((lastO O 65536).s + 1) c]) n (m + 1) r := by
  obtain ⟨B, A, C, e1, e2, e3, e4, e5, e6, e7⟩ := h.row
  obtain ⟨t1, t2, t3⟩ := h.s1
  generalize hS : (lastO O 65536).s = S at *
  have hr : opB (opZ (m + 1) (S + 1) c) = true := by
    unfold opB idB opZ
    simp only [Bool.and_eq_true]
    refine ⟨⟨⟨⟨(cnB_iff _).2 (by omega), (belB_iff _ _).2 (by omega)⟩, (cnB_iff _).2 (by omega)⟩, ?_⟩, ?_⟩
    · unfold rrB zrB; simp
    · unfold ruB; simp [hc]
  have hp : (putA O (opZ (m + 1) (S + 1) c)).1 = true := (putA_iff _ _).2 ⟨hr, by show S + 1 = (lastO O 65536).s + 1; rw [hS], .inl rfl, by show (lastO O 65536).c < m + 1; omega⟩
  have hall : ∀ e ∈ seqE O, ltI e.id (m + 1, 65536) := fun e he => .inl (by have := (h.mx e ((seqE_mem O e).1 he).1).1; show e.c < m + 1; omega)
  have hs : seqE (O ++ [opZ (m + 1) (S + 1) c]) = opZ (m + 1) (S + 1) c :: seqE O := by
    rw [seqE_snoc, if_pos (show (opZ (m + 1) (S + 1) c).ins = true from rfl)]
    unfold insE
    rw [if_pos (show (opZ (m + 1) (S + 1) c).ref = (0, 0) from rfl)]
    exact sk_head fun e he => hall e (List.mem_of_mem_head? he)
  refine ⟨hp, rv_snoc h.rv hp, fun o ho => ?_, ?_, ?_, ⟨opZ (m + 1) (S + 1) c :: B, A, C, by rw [hs, e1]; rfl, fun e he => ?_, e3, e4, e5, e6, e7⟩⟩
  · rcases List.mem_append.1 ho with q | q
    · have := h.mx o q; exact ⟨by omega, this.2⟩
    · rw [List.mem_singleton.1 q]; exact ⟨Int.le_refl _, rfl⟩
  · rw [lastO_snoc, if_neg (show ¬ (opZ (m + 1) (S + 1) c).a = 0 by show ¬ (65536 : Int) = 0; omega)]
    have := h.s0
    exact ⟨this.1, by omega⟩
  · rw [lastO_snoc, if_pos (show (opZ (m + 1) (S + 1) c).a = 65536 from rfl), List.length_append]
    refine ⟨by show 0 ≤ S + 1; omega, by show S + 1 ≤ _; simp; omega, Int.le_refl _⟩
  · rcases List.mem_cons.1 he with rfl | he
    · rfl
    · exact e2 e he
/-- Where the first one's stand. -/
theorem ty_end {O : List Opn} {n : Nat} {m : Int} {r : Int × Int} (h : Ty O n m r) : ∃ p q : Nat, visI (els O) = (seqE O).map Opn.id ∧ (visI (els O)).length = p + n + q ∧ (∀ j, j < p → ((visI (els O)).getD j (0, 0)).2 = 65536) ∧ (∀ j, p ≤ j → j < p + n → ((visI (els O)).getD j (0, 0)).2 = 0) ∧ (∀ j, p + n ≤ j → j < p + n + q → ((visI (els O)).getD j (0, 0)).2 = 65536) ∧ ∀ j, p < j → j < p + n → ((visI (els O)).getD (j - 1) (0, 0)).1 < ((visI (els O)).getD j (0, 0)).1 := by
  obtain ⟨B, A, C, e1, e2, e3, e4, e5, e6, _⟩ := h.row
  have hv : visI (els O) = (seqE O).map Opn.id := by
    rw [visI_eq]
    refine List.filter_eq_self.2 fun i hi => ?_
    have : deadE O i = false := by
      rw [Bool.eq_false_iff]
      intro q
      obtain ⟨o, ho, hi, _⟩ := (deadE_iff O i).1 q
      rw [(h.mx o ho).2] at hi; cases hi
    rw [this]; rfl
  have hat : ∀ j, j < (seqE O).length → ∃ e, (seqE O)[j]? = some e ∧ ((seqE O).map Opn.id).getD j (0, 0) = e.id := fun j hj => ⟨(seqE O)[j], List.getElem?_eq_getElem hj, by simp [hj]⟩
  have hlen : (seqE O).length = B.length + n + C.length := by rw [e1]; simp [e5]; omega
  refine ⟨B.length, C.length, hv, by rw [hv, List.length_map, hlen], fun j hj => ?_, fun j h1 h2 => ?_, fun j h1 h2 => ?_, fun j h1 h2 => ?_⟩
  · obtain ⟨e, he, q⟩ := hat j (by omega)
    rw [hv, q]
    rw [e1, List.append_assoc, List.getElem?_append_left hj] at he
    exact e2 e (List.mem_of_getElem? he)
  · obtain ⟨e, he, q⟩ := hat j (by omega)
    rw [hv, q]
    rw [e1, List.append_assoc, List.getElem?_append_right h1, List.getElem?_append_left (by omega)] at he
    exact e4 e (List.mem_of_getElem? he)
  · obtain ⟨e, he, q⟩ := hat j (by omega)
    rw [hv, q]
    rw [e1, List.getElem?_append_right (by simp; omega)] at he
    exact e3 e (List.mem_of_getElem? he)
  · obtain ⟨e, he, q⟩ := hat j (by omega)
    obtain ⟨f, hf, q'⟩ := hat (j - 1) (by omega)
    rw [hv, q, q']
    rw [e1, List.append_assoc, List.getElem?_append_right (by omega), List.getElem?_append_left (by omega)] at he
    rw [e1, List.append_assoc, List.getElem?_append_right (by omega), List.getElem?_append_left (by omega)] at hf
    have hi : j - 1 - B.length < (A.map fun e => e.c).length := by rw [List.length_map]; omega
    have hj : j - B.length < (A.map fun e => e.c).length := by rw [List.length_map]; omega
    have := List.pairwise_iff_getElem.1 e6 (j - 1 - B.length) (j - B.length) hi hj (by omega)
    rw [List.getElem_map, List.getElem_map] at this
    have x1 := (List.getElem?_eq_some_iff.1 he).2
    have x2 := (List.getElem?_eq_some_iff.1 hf).2
    rw [x1, x2] at this
    exact this
end Go.Proofs.Yteicppfknkbelaa
