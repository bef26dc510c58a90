/- Each author's Seq as a vector; the walk of Vector. -/
import Derived.Test.YtcbnmahbdcjamaaRgV
import Derived.Test.YtcbnmahbdcjamaaRiI
import Derived.Test.YtcbnmahbdcjamaaIdM
namespace Go.Proofs.Ytcbnmahbdcjamaa
open Go.RowKit Go.Shelf Go.Maps Go.Sort
set_option linter.unusedVariables false
set_option linter.unusedSimpArgs false

/-- The vector of what is known. -/
def vecO (O : List Opn) : List (Int × Int) := O.foldl (fun v o => withL v o.a o.s) []
theorem vecO_snoc (O : List Opn) (x : Opn) : vecO (O ++ [x]) = withL (vecO O) x.a x.s := by simp [vecO]
theorem vecO_vec (O : List Opn) : Vec (vecO O) := snocR (P := fun O => Vec (vecO O)) vec_nil (fun O x ih => by rw [vecO_snoc]; exact with_vec _ _ _ ih) O
theorem vecO_sq {O : List Opn} : Rv O → ∀ a, sqL (vecO O) a = (lastO O a).s := by
  refine snocR (P := fun O => Rv O → ∀ a, sqL (vecO O) a = (lastO O a).s) (fun _ a => rfl) (fun O x ih h a => ?_) O
  obtain ⟨h1, h2⟩ := rv_front h
  rw [vecO_snoc, with_sq _ _ _ (vecO_vec O).1, lastO_snoc]
  have hs := ((putA_iff _ _).1 h2).2.1
  by_cases e : x.a = a
  · rw [if_pos e.symm, if_pos e, ih h1 x.a]; omega
  · rw [if_neg (fun q => e q.symm), if_neg e, ih h1 a]
theorem vecO_len (O : List Opn) : (vecO O).length ≤ O.length := by
  refine snocR (P := fun O => (vecO O).length ≤ O.length) (Nat.le_refl _) (fun O x ih => ?_) O
  rw [vecO_snoc, List.length_append]
  have := with_len (vecO O) x.a x.s
  simp; omega
/-- Authors by rising numbers, each with its last operation's Seq: the vector. -/
theorem vec_sorted {O : List Opn} (hv : Rv O) (au : List Int) (hp : au.Pairwise (fun a b => a < b)) (hm : ∀ a, a ∈ au ↔ ∃ o ∈ O, o.a = a) : au.map (fun a => (a, (lastO O a).s)) = vecO O := by
  have hasc : ∀ l : List Int, l.Pairwise (fun a b => a < b) → AscE (l.map fun a => (a, (lastO O a).s)) := by
    intro l
    induction l with
    | nil => intro _; trivial
    | cons x r ih =>
      intro h
      obtain ⟨h1, h2⟩ := List.pairwise_cons.1 h
      refine ⟨fun y hy => ?_, ih h2⟩
      obtain ⟨b, hb, rfl⟩ := List.mem_map.1 hy
      exact h1 b hb
  have hsq : ∀ l : List Int, ∀ a, sqL (l.map fun a => (a, (lastO O a).s)) a = if a ∈ l then (lastO O a).s else 0 := by
    intro l a
    induction l with
    | nil => simp [sqL]
    | cons x r ih =>
      rw [List.map_cons, sqL, ih]
      by_cases e : x = a
      · subst e; simp
      · have e2 : ¬ a = x := fun q => e q.symm
        simp [e, e2]
  refine vec_ext _ _ (hasc au hp) (fun x hx => ?_) (vecO_vec O).1 (vecO_vec O).2 (fun a => ?_)
  · obtain ⟨b, hb, rfl⟩ := List.mem_map.1 hx
    obtain ⟨o, ho, ha⟩ := (hm b).1 hb
    have h1 := (rv_last hv).1 o ho
    have h2 := op_id (rv_op hv o ho)
    rw [ha] at h1
    show 1 ≤ (lastO O b).s
    omega
  · rw [hsq, vecO_sq hv]
    split
    · rfl
    · next hn =>
      rcases (rv_last hv).2 a with ⟨q, _⟩ | ⟨q1, q2⟩
      · rw [q]; rfl
      · exact absurd ((hm a).2 ⟨_, q1, q2⟩) hn
theorem keys_facts {w : World} {b n : Nat} {D : DataW Value} (hown : w.ownsMap Try.prog 3 RH b n D) : (intKeys D).Nodup ∧ ∀ x, x ∈ intKeys D ↔ Maps.has D (.int .i64 x) = true := by
  obtain ⟨es, hD, hpw, _⟩ := hown.entries (int_keyed Try.underlying3)
  obtain ⟨es', hD', hko⟩ := hown.keysOf
  obtain rfl : es = es' := by rw [hD] at hD'; simpa using hD'
  subst hD
  have hk : ∀ p ∈ es, ∃ x, p.1 = .int .i64 x := fun p hp => by
    obtain ⟨v, hv⟩ := hko p hp
    obtain ⟨x, _, hx, _⟩ := Maps.keyOf_i64 Try.underlying3 hv
    exact ⟨x, hx⟩
  constructor
  · show (es.map fun p => Go.intOf p.1).Nodup
    refine List.pairwise_map.2 (hpw.imp_of_mem fun {p q} hp' hq' hne e => hne ?_)
    obtain ⟨a, ha⟩ := hk p hp'
    obtain ⟨b, hb⟩ := hk q hq'
    rw [ha, hb] at e ⊢
    exact congrArg _ e
  · intro x
    rw [has_eq, List.any_eq_true]
    show x ∈ es.map (fun p => Go.intOf p.1) ↔ _
    rw [List.mem_map]
    constructor
    · rintro ⟨p, hp', rfl⟩
      obtain ⟨a, ha⟩ := hk p hp'
      exact ⟨p, hp', by rw [ha]; simp [Lit.sameKey, Go.intOf]⟩
    · rintro ⟨p, hp', hs⟩
      obtain ⟨a, ha⟩ := hk p hp'
      rw [ha] at hs
      exact ⟨p, hp', by rw [ha]; simpa [Lit.sameKey, Go.intOf] using hs⟩
theorem sorted_strict (ss : List Int) (h : ss.Nodup) : (ss.mergeSort leI).Pairwise (fun a b => a < b) ∧ ∀ x, x ∈ ss.mergeSort leI ↔ x ∈ ss := by
  have tr : ∀ a b c : Int, leI a b = true → leI b c = true → leI a c = true := fun a b c h1 h2 => by simp only [leI, decide_eq_true_eq] at *; exact Int.le_trans h1 h2
  have tot : ∀ a b : Int, (leI a b || leI b a) = true := fun a b => by simp only [leI, Bool.or_eq_true, decide_eq_true_eq]; exact Int.le_total a b
  have h1 := List.pairwise_mergeSort tr tot ss
  have h2 := List.mergeSort_perm ss leI
  have h3 : (ss.mergeSort leI).Nodup := h2.nodup_iff.2 h
  refine ⟨(h1.and h3).imp (fun {a b} q => ?_), fun x => h2.mem_iff⟩
  have := q.1
  simp only [leI, decide_eq_true_eq] at this
  have := q.2
  omega
theorem sorts_rga (m : Nat) : AnyZI.SortsIn Try.prog Try.sortedA_ren Fence.wide m :=
  ⟨fun blk off cap ss W hH hblk hsz => callsIn_wide.2 (AnyM.slices_Sort_int Try.sortA blk off cap ss W hH hblk hsz),
   fun p cap W => callsIn_wide.2 (AnyM.slices_Sort_int_none Try.sortA p cap W)⟩
theorem keys_rga (mb : Option Nat) (W : World) : Calls Try.prog 65 #[.map mb] W fun e w' => e = .returned (.func (.func 112) #[] #[.pointer (some ⟨W.heap.size, 0, none⟩)]) ∧ w' = W.alloc (.cells #[.map mb] 91) :=
  callsIn_wide.1 (AnyZI.keys_in Try.keysA Fence.wide 5 trivial rfl mb W)
theorem sorted_rga {b nn : Nat} {D0 : DataW Value} (w : World) (hown : w.ownsMap Try.prog 3 RH b nn D0) (hmax : Maps.size D0 ≤ 1000000) :
    Calls Try.prog 64 #[.func (.func 112) #[] #[.pointer (some ⟨w.heap.size, 0, none⟩)]] (w.alloc (.cells #[.map (some b)] 91)) fun e w' => ∃ (v : Value) (ss : List Int), e = .returned v ∧ ss.Perm (intKeys D0) ∧
      w'.ownsRow (w.alloc (.cells #[.map (some b)] 91)).heap.size 3 1 v ss.length ((ss.mergeSort leI).map encZ) ∧ Below (w.alloc (.cells #[.map (some b)] 91)).heap.size (w.alloc (.cells #[.map (some b)] 91)) w' := by
  refine (callsIn_wide (n := 5)).1 ?_
  have hbl := hown.lt
  have hseq : SeqGives Fence.wide 2 Try.prog 112 #[.pointer (some ⟨w.heap.size, 0, none⟩)] encZ (fun ss => ss.Perm (intKeys D0)) (Maps.size D0) (w.alloc (.cells #[.map (some b)] 91)) :=
    AnyZI.keys_gives (ρ := Try.keysA_ren) { Try.keysA with } Fence.wide _ trivial rfl (by omega) w.heap.size b nn D0 _ (by simp) (by simp) (by
      obtain ⟨es, clock, hb, Ft, hs, hD⟩ := hown
      exact ⟨es, clock, (Below.heap_alloc _ _ b hbl).trans hb, Ft, hs, hD⟩)
  have cS := AnyZI.sorted_in Try.sortedA Fence.wide 5 trivial trivial trivial trivial rfl (by omega) (sorts_rga _) (enters_of Try.func111 (by kernel_rfl) rfl) 112 #[.pointer (some ⟨w.heap.size, 0, none⟩)] trivial (enters_of Try.func112 (by kernel_rfl) rfl) _ _ (by unfold maxLen; omega) (by omega) _ hseq
  change CallsIn _ _ Try.prog 64 _ _ _ at cS
  exact cS.mono fun e w' h => by
    obtain ⟨v, ss, h1, h2, h3, _, h5⟩ := h
    exact ⟨v, ss, h1, h2, h3, h5⟩
end Go.Proofs.Ytcbnmahbdcjamaa
