/- Where a new element goes, by places. -/
import Derived.Test.YtlelbepfkkaojaaDoorRgB
namespace Go.Proofs.YtlelbepfkkaojaaDoor
open Go.RowKit Go.Shelf Go.Maps Go.Sort
set_option linter.unusedVariables false
set_option linter.unusedSimpArgs false

/-- How many are passed by. -/
def skI (x : Int × Int) : List (Int × Int) → Nat
  | [] => 0
  | y :: r => if ltI y x then 0 else skI x r + 1
theorem skI_le (x : Int × Int) : (l : List (Int × Int)) → skI x l ≤ l.length
  | [] => Nat.le_refl _
  | y :: r => by
    rw [skI]
    split
    · omega
    · have := skI_le x r; simp; omega
theorem skI_at (x : Int × Int) : (l : List (Int × Int)) → (i : Nat) → i < l.length → (∀ k, k < i → ¬ ltI (l.getD k (0, 0)) x) → ltI (l.getD i (0, 0)) x → skI x l = i
  | [], i, h, _, _ => absurd h (by simp)
  | y :: r, 0, _, _, h => by rw [skI, if_pos (by simpa using h)]
  | y :: r, i + 1, h, hk, hi => by
    have h0 := hk 0 (by omega)
    rw [skI, if_neg (by simpa using h0), skI_at x r i (by simpa using h) (fun k hk2 => by simpa using hk (k + 1) (by omega)) (by simpa using hi)]
theorem skI_all (x : Int × Int) : (l : List (Int × Int)) → (∀ k, k < l.length → ¬ ltI (l.getD k (0, 0)) x) → skI x l = l.length
  | [], _ => rfl
  | y :: r, hk => by
    have h0 := hk 0 (by simp)
    rw [skI, if_neg (by simpa using h0), skI_all x r (fun k hk2 => by simpa using hk (k + 1) (by simpa using hk2))]
    rfl
theorem sk_pos (x : Opn) : (l : List Opn) → sk x l = l.take (skI x.id (l.map Opn.id)) ++ x :: l.drop (skI x.id (l.map Opn.id))
  | [] => rfl
  | y :: r => by
    rw [sk, List.map_cons, skI]
    split
    · rfl
    · rw [sk_pos x r]; rfl
theorem inB_pos (x : Opn) : (l : List Opn) → (n : Nat) → ixI (l.map Opn.id) x.ref = (n : Int) → inB x l = l.take (n + 1 + skI x.id ((l.map Opn.id).drop (n + 1))) ++ x :: l.drop (n + 1 + skI x.id ((l.map Opn.id).drop (n + 1)))
  | [], n, h => by rw [List.map_nil, ixI] at h; omega
  | y :: r, n, h => by
    rw [List.map_cons, ixI] at h
    rw [inB]
    by_cases hy : y.id = x.ref
    · rw [if_pos hy] at h ⊢
      obtain rfl : n = 0 := by omega
      rw [sk_pos x r, List.map_cons, Nat.zero_add, List.drop_succ_cons, List.drop_zero, Nat.add_comm 1, List.take_succ_cons, List.drop_succ_cons]
      rfl
    · rw [if_neg hy] at h ⊢
      by_cases hk : ixI (r.map Opn.id) x.ref < 0
      · rw [if_pos hk] at h; omega
      · rw [if_neg hk] at h
        obtain ⟨m, rfl⟩ : ∃ m, n = m + 1 := ⟨n - 1, by omega⟩
        rw [inB_pos x r m (by omega), List.map_cons, List.drop_succ_cons, show m + 1 + 1 + skI x.id ((r.map Opn.id).drop (m + 1)) = (m + 1 + skI x.id ((r.map Opn.id).drop (m + 1))) + 1 by omega, List.take_succ_cons, List.drop_succ_cons]
        rfl
/-- Where a new element goes. -/
def posE (O : List Opn) (x : Opn) : Nat := (fIx O x.ref + 1).toNat + skI x.id (((seqE O).map Opn.id).drop (fIx O x.ref + 1).toNat)
theorem insE_pos {O : List Opn} {x : Opn} (hv : Rv O) (hx : (putA O x).1 = true) : insE x (seqE O) = (seqE O).take (posE O x) ++ x :: (seqE O).drop (posE O x) := by
  unfold insE
  by_cases hz : x.ref = (0, 0)
  · have h0 : posE O x = skI x.id ((seqE O).map Opn.id) := by
      unfold posE
      rw [hz, fIx_zero O hv]
      simp
    rw [if_pos hz, sk_pos, h0]
  · rw [if_neg hz]
    have hh : hasE O x.ref = true := by
      rcases ((putA_iff _ _).1 hx).2.2.1 with q | q
      · exact absurd q hz
      · exact q
    obtain ⟨n, h1, _⟩ := fIx_some O hv x.ref hh
    have h2 : posE O x = n + 1 + skI x.id (((seqE O).map Opn.id).drop (n + 1)) := by
      unfold posE
      rw [h1, show ((n : Int) + 1).toNat = n + 1 by omega]
    rw [h2]
    exact inB_pos x (seqE O) n h1
theorem fIx_lt (O : List Opn) (hv : Rv O) (i : Int × Int) : -1 ≤ fIx O i ∧ fIx O i < ((seqE O).length : Int) := by
  cases h : hasE O i
  · rw [fIx_none O i h]; omega
  · obtain ⟨n, h1, h2, _⟩ := fIx_some O hv i h
    rw [h1]; omega
theorem posE_le (O : List Opn) (hv : Rv O) (x : Opn) : posE O x ≤ (seqE O).length := by
  have h1 := fIx_lt O hv x.ref
  have h2 := skI_le x.id (((seqE O).map Opn.id).drop (fIx O x.ref + 1).toNat)
  rw [List.length_drop, List.length_map] at h2
  unfold posE
  omega
theorem dead_ins {O : List Opn} {x : Opn} (h : x.ins = true) (i : Int × Int) : deadE (O ++ [x]) i = deadE O i := by simp [deadE, h]
theorem dead_new {O : List Opn} {x : Opn} (hv : Rv O) (hx : (putA O x).1 = true) : deadE O x.id = false := by
  rw [Bool.eq_false_iff]
  intro h
  obtain ⟨o, ho, _, q⟩ := (deadE_iff O _).1 h
  exact new_ref hv hx o ho q
/-- The element that is put in. -/
def newEl (x : Opn) : El := (x.c, x.a, x.ch, true)
theorem els_ins {O : List Opn} {x : Opn} (hv : Rv O) (hx : (putA O x).1 = true) (hi : x.ins = true) : els (O ++ [x]) = (els O).take (posE O x) ++ newEl x :: (els O).drop (posE O x) := by
  have he : elOf (O ++ [x]) = elOf O := by
    funext e
    unfold elOf
    rw [dead_ins hi]
  unfold els
  rw [seqE_snoc, if_pos hi, insE_pos hv hx, he, List.map_append, List.map_cons, List.map_take, List.map_drop]
  have : elOf O x = newEl x := by
    unfold elOf newEl
    rw [dead_new hv hx]; rfl
  rw [this]
theorem marks_ins {O : List Opn} {x : Opn} (hv : Rv O) (hx : (putA O x).1 = true) (hi : x.ins = true) : marks (O ++ [x]) = ins (marks O) (posE O x) true := by
  have he : (fun e : Opn => !deadE (O ++ [x]) e.id) = fun e => !deadE O e.id := by
    funext e
    rw [dead_ins hi]
  unfold marks ins
  rw [seqE_snoc, if_pos hi, insE_pos hv hx, he, List.map_append, List.map_cons, List.map_take, List.map_drop, dead_new hv hx]
  rfl
theorem dead_rem {O : List Opn} {x : Opn} (h : x.ins = false) (i : Int × Int) : deadE (O ++ [x]) i = (deadE O i || decide (x.ref = i)) := by simp [deadE, h]
theorem map_set {α β : Type} (f g : α → β) (l : List α) (n : Nat) (e : α) (he : l[n]? = some e) (hn : ∀ (k : Nat) (y : α), l[k]? = some y → k ≠ n → g y = f y) : l.map g = (l.map f).set n (g e) := by
  refine List.ext_getElem? fun k => ?_
  rw [List.getElem?_map, List.getElem?_set]
  by_cases hk : n = k
  · subst hk
    have := (List.getElem?_eq_some_iff.1 he).1
    rw [if_pos rfl, if_pos (by simpa using this), he]; rfl
  · rw [if_neg hk, List.getElem?_map]
    cases hy : l[k]? with
    | none => rfl
    | some y => simp only [Option.map_some]; rw [hn k y hy (fun q => hk q.symm)]
theorem seq_other {O : List Opn} (hv : Rv O) {n : Nat} {i : Int × Int} (h : ((seqE O).map Opn.id)[n]? = some i) : ∀ (k : Nat) (y : Opn), (seqE O)[k]? = some y → k ≠ n → y.id ≠ i := by
  intro k y hy hk e
  have hn := seqE_nodup hv
  have h1 := ix_at _ i hn n h
  have h2 := ix_at _ i hn k (by rw [List.getElem?_map, hy]; simp [e])
  omega
theorem seq_eq {O : List Opn} {n : Nat} {i : Int × Int} (h : ((seqE O).map Opn.id)[n]? = some i) : ∃ e, (seqE O)[n]? = some e ∧ e.id = i := by
  rw [List.getElem?_map] at h
  cases hy : (seqE O)[n]? with
  | none => rw [hy] at h; cases h
  | some y => rw [hy] at h; exact ⟨y, rfl, Option.some.inj h⟩
theorem els_rem {O : List Opn} {x : Opn} (hv : Rv O) (hi : x.ins = false) {n : Nat} (h : ((seqE O).map Opn.id)[n]? = some x.ref) : els (O ++ [x]) = (els O).set n (((els O).getD n (0, 0, 0, false)).1, ((els O).getD n (0, 0, 0, false)).2.1, ((els O).getD n (0, 0, 0, false)).2.2.1, false) ∧ marks (O ++ [x]) = (marks O).set n false := by
  obtain ⟨e, he, hid⟩ := seq_eq h
  have hs : seqE (O ++ [x]) = seqE O := by rw [seqE_snoc, if_neg (by simp [hi])]
  have hd : deadE (O ++ [x]) e.id = true := by rw [dead_rem hi, hid]; simp
  have hother : ∀ (k : Nat) (y : Opn), (seqE O)[k]? = some y → k ≠ n → deadE (O ++ [x]) y.id = deadE O y.id := by
    intro k y hy hk
    rw [dead_rem hi, decide_eq_false (fun q => seq_other hv h k y hy hk q.symm), Bool.or_false]
  constructor
  · unfold els
    rw [hs, map_set (elOf O) (elOf (O ++ [x])) (seqE O) n e he (fun k y hy hk => by unfold elOf; rw [hother k y hy hk])]
    congr 1
    have : ((seqE O).map (elOf O)).getD n (0, 0, 0, false) = elOf O e := by
      rw [List.getD_eq_getElem?_getD, List.getElem?_map, he]; rfl
    rw [this]
    unfold elOf
    rw [hd]; rfl
  · unfold marks
    rw [hs, map_set (fun e => !deadE O e.id) (fun e => !deadE (O ++ [x]) e.id) (seqE O) n e he (fun k y hy hk => by rw [hother k y hy hk])]
    rw [hd]; rfl
end Go.Proofs.YtlelbepfkkaojaaDoor
