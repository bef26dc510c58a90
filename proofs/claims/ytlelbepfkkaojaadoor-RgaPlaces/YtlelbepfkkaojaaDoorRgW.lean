/- Each author's Seq as a vector; the walk of Vector. -/
import Derived.Test.YtlelbepfkkaojaaDoorRgV
import Derived.Test.YtlelbepfkkaojaaDoorRiI
import Derived.Test.YtlelbepfkkaojaaDoorIdM
namespace Go.Proofs.YtlelbepfkkaojaaDoor
open Go.RowKit Go.Shelf Go.Maps Go.Sort
set_option linter.unusedVariables false
set_option linter.unusedSimpArgs false

/-- The vector of what is known. -/
def vecO (O : List Opn) : List (Int × Int) := O.foldl (fun v o => withL v o.a o.s) []
theorem vecO_snoc (O : List Opn) (x : Opn) : vecO (O ++ [x]) = withL (vecO O) x.a x.s := by simp [vecO]
theorem vecO_vec (O : List Opn) : Vec (vecO O) := snocR (P := fun O => Vec (vecO O)) vec_nil (fun O x ih => by rw [vecO_snoc]; exact with_vec _ _ _ ih) O
theorem vecO_sq {O : List Opn} : Rv O → ∀ a, sqL (vecO O) a = (lastO O a).s := by
  refine snocR (P := fun O => Rv O → ∀ a, sqL (vecO O) a = (lastO O a).s) (fun _ a => rfl) (fun O x ih h a => ?_) O
  obtain ⟨h1, h2⟩ := rv_front h
  rw [vecO_snoc, with_sq _ _ _ (vecO_vec O).1, lastO_snoc]
  have hs := ((putA_iff _ _).1 h2).2.1
  by_cases e : x.a = a
  · rw [if_pos e.symm, if_pos e, ih h1 x.a]; omega
  · rw [if_neg (fun q => e q.symm), if_neg e, ih h1 a]
theorem vecO_len (O : List Opn) : (vecO O).length ≤ O.length := by
  refine snocR (P := fun O => (vecO O).length ≤ O.length) (Nat.le_refl _) (fun O x ih => ?_) O
  rw [vecO_snoc, List.length_append]
  have := with_len (vecO O) x.a x.s
  simp; omega
/-- Authors by rising numbers, each with its last operation's Seq: the vector. -/
theorem vec_sorted {O : List Opn} (hv : Rv O) (au : List Int) (hp : au.Pairwise (fun a b => a < b)) (hm : ∀ a, a ∈ au ↔ ∃ o ∈ O, o.a = a) : au.map (fun a => (a, (lastO O a).s)) = vecO O := by
  have hasc : ∀ l : List Int, l.Pairwise (fun a b => a < b) → AscE (l.map fun a => (a, (lastO O a).s)) := by
    intro l
    induction l with
    | nil => intro _; trivial
    | cons x r ih =>
      intro h
      obtain ⟨h1, h2⟩ := List.pairwise_cons.1 h
      refine ⟨fun y hy => ?_, ih h2⟩
      obtain ⟨b, hb, rfl⟩ := List.mem_map.1 hy
      exact h1 b hb
  have hsq : ∀ l : List Int, ∀ a, sqL (l.map fun a => (a, (lastO O a).s)) a = if a ∈ l then (lastO O a).s else 0 := by
    intro l a
    induction l with
    | nil => simp [sqL]
    | cons x r ih =>
      rw [List.map_cons, sqL, ih]
      by_cases e : x = a
      · subst e; simp
      · have e2 : ¬ a = x := fun q => e q.symm
        simp [e, e2]
  refine vec_ext _ _ (hasc au hp) (fun x hx => ?_) (vecO_vec O).1 (vecO_vec O).2 (fun a => ?_)
  · obtain ⟨b, hb, rfl⟩ := List.mem_map.1 hx
    obtain ⟨o, ho, ha⟩ := (hm b).1 hb
    have h1 := (rv_last hv).1 o ho
    have h2 := op_id (rv_op hv o ho)
    rw [ha] at h1
    show 1 ≤ (lastO O b).s
    omega
  · rw [hsq, vecO_sq hv]
    split
    · rfl
    · next hn =>
      rcases (rv_last hv).2 a with ⟨q, _⟩ | ⟨q1, q2⟩
      · rw [q]; rfl
      · exact absurd ((hm a).2 ⟨_, q1, q2⟩) hn
theorem keys_facts {w : World} {b n : Nat} {D : DataW Value} (hown : w.ownsMap Tryd.prog 3 RH b n D) : (intKeys D).Nodup ∧ ∀ x, x ∈ intKeys D ↔ Maps.has D (.int .i64 x) = true := by
  obtain ⟨es, hD, hpw, _⟩ := hown.entries (int_keyed Tryd.underlying3)
  obtain ⟨es', hD', hko⟩ := hown.keysOf
  obtain rfl : es = es' := by rw [hD] at hD'; simpa using hD'
  subst hD
  have hk : ∀ p ∈ es, ∃ x, p.1 = .int .i64 x := fun p hp => by
    obtain ⟨v, hv⟩ := hko p hp
    obtain ⟨x, _, hx, _⟩ := Maps.keyOf_i64 Tryd.underlying3 hv
    exact ⟨x, hx⟩
  constructor
  · show (es.map fun p => Go.intOf p.1).Nodup
    refine List.pairwise_map.2 (hpw.imp_of_mem fun {p q} hp' hq' hne e => hne ?_)
    obtain ⟨a, ha⟩ := hk p hp'
    obtain ⟨b, hb⟩ := hk q hq'
    rw [ha, hb] at e ⊢
    exact congrArg _ e
  · intro x
    rw [has_eq, List.any_eq_true]
    show x ∈ es.map (fun p => Go.intOf p.1) ↔ _
    rw [List.mem_map]
    constructor
    · rintro ⟨p, hp', rfl⟩
      obtain ⟨a, ha⟩ := hk p hp'
      exact ⟨p, hp', by rw [ha]; simp [Lit.sameKey, Go.intOf]⟩
    · rintro ⟨p, hp', hs⟩
      obtain ⟨a, ha⟩ := hk p hp'
      rw [ha] at hs
      exact ⟨p, hp', by rw [ha]; simpa [Lit.sameKey, Go.intOf] using hs⟩
theorem sorted_strict (ss : List Int) (h : ss.Nodup) : (ss.mergeSort leI).Pairwise (fun a b => a < b) ∧ ∀ x, x ∈ ss.mergeSort leI ↔ x ∈ ss := by
  have tr : ∀ a b c : Int, leI a b = true → leI b c = true → leI a c = true := fun a b c h1 h2 => by simp only [leI, decide_eq_true_eq] at *; exact Int.le_trans h1 h2
  have tot : ∀ a b : Int, (leI a b || leI b a) = true := fun a b => by simp only [leI, Bool.or_eq_true, decide_eq_true_eq]; exact Int.le_total a b
  have h1 := List.pairwise_mergeSort tr tot ss
  have h2 := List.mergeSort_perm ss leI
  have h3 : (ss.mergeSort leI).Nodup := h2.nodup_iff.2 h
  refine ⟨(h1.and h3).imp (fun {a b} q => ?_), fun x => h2.mem_iff⟩
  have := q.1
  simp only [leI, decide_eq_true_eq] at this
  have := q.2
  omega
end Go.Proofs.YtlelbepfkkaojaaDoor
