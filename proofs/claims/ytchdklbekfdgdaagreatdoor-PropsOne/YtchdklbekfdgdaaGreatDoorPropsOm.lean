/- The mathematics of PropsOne: the names that are gathered, the ranges of these names, the class that is wanted. -/
import Derived.Test.YtchdklbekfdgdaaGreatDoorPropsCl
namespace Go.Proofs.YtchdklbekfdgdaaGreatDoor
set_option linter.unusedVariables false

/-- One more name, if there is none such and there is room. -/
def nmS (ns : List (List Int)) (x : Rg) : List (List Int) := if x.2.2 ∉ ns ∧ ns.length < 24 then ns ++ [x.2.2] else ns
def otT : List Int := [95, 111, 116, 104, 101, 114]
/-- The names that are gathered. -/
def nmR (l : List Rg) : List (List Int) := l.foldl nmS [otT]
/-- What may be said of the names, and of every beginning of the gathering. -/
def NmAt (ns : List (List Int)) : Prop := 1 ≤ ns.length ∧ ns.length ≤ 24 ∧ ns.Nodup ∧ ∀ s ∈ ns, nmOk s = true
theorem nmS_at (ns : List (List Int)) (x : Rg) (h : NmAt ns) (hx : nmOk x.2.2 = true) : NmAt (nmS ns x) := by
  unfold nmS
  split
  · rename_i hc
    refine ⟨by simp, by simp; omega, ?_, fun s hs => ?_⟩
    · rw [List.nodup_append]
      refine ⟨h.2.2.1, by simp, fun a ha b hb => ?_⟩
      rw [List.mem_singleton.1 hb]
      exact fun e => hc.1 (by rw [← e]; exact ha)
    · rcases List.mem_append.1 hs with hs | hs
      · exact h.2.2.2 s hs
      · rw [List.mem_singleton.1 hs]; exact hx
  · exact h
theorem ot_at : NmAt [otT] := ⟨by decide, by decide, by decide, by decide⟩
theorem nm_fold : (l : List Rg) → (ns : List (List Int)) → NmAt ns → (∀ r ∈ l, nmOk r.2.2 = true) → NmAt (l.foldl nmS ns)
  | [], ns, h, _ => h
  | x :: r, ns, h, hx => nm_fold r (nmS ns x) (nmS_at ns x h (hx x (by simp))) (fun y hy => hx y (by simp [hy]))
theorem cls_of_at (ns : List (List Int)) (h : NmAt ns) : clsOk ns = true := by
  refine clsOk_good ns h.1 h.2.1 fun i hi => ⟨h.2.2.2 _ (by simp [hi]), fun hm => ?_⟩
  obtain ⟨j, hj, e⟩ := List.mem_iff_getElem.1 hm
  have hj1 : j < i := by simp at hj; omega
  have e2 : ns[j]'(by omega) = ns[i] := by
    rw [List.getElem_take] at e
    rw [e]
    simp [hi]
  have := (List.nodup_iff_pairwise_ne.1 h.2.2.1)
  exact (List.pairwise_iff_getElem.1 this) j i (by omega) hi hj1 e2
theorem nm_step (l : List Rg) (k : Nat) (hk : k < l.length) : (l.take (k + 1)).foldl nmS [otT] = nmS ((l.take k).foldl nmS [otT]) (l.getD k (0, 0, [])) := by
  rw [List.take_add_one, List.getElem?_eq_getElem hk, List.foldl_append]
  simp [hk]
/-- Those of the ranges whose names were gathered. -/
def fewR (l : List Rg) (ns : List (List Int)) : List Rg := l.filter fun r => decide (r.2.2 ∈ ns)
theorem few_step (l : List Rg) (ns : List (List Int)) (k : Nat) (hk : k < l.length) : fewR (l.take (k + 1)) ns = if (l.getD k (0, 0, [])).2.2 ∈ ns then fewR (l.take k) ns ++ [l.getD k (0, 0, [])] else fewR (l.take k) ns := by
  unfold fewR
  rw [List.take_add_one, List.getElem?_eq_getElem hk, List.filter_append]
  have e : l.getD k (0, 0, []) = l[k] := by simp [hk]
  rw [e]
  by_cases h : l[k].2.2 ∈ ns
  · rw [if_pos h]; simp [h]
  · rw [if_neg h]; simp [h]
theorem few_all (l : List Rg) (ns : List (List Int)) (h : ClAt l) : (fewR l ns).Pairwise ApR ∧ (∀ r ∈ fewR l ns, reR r = true ∧ r.2.2 ∈ ns) ∧ (fewR l ns).length ≤ l.length := by
  refine ⟨h.1.filter _, fun r hr => ?_, List.length_filter_le _ _⟩
  have := List.mem_filter.1 hr
  exact ⟨(h.2 r this.1).1, by simpa using this.2⟩
theorem back_all (rs : List Rg) (ns : List (List Int)) (h1 : rs.Pairwise ApR) (h2 : ∀ r ∈ rs, reR r = true ∧ r.2.2 ∈ ns) : rs.reverse.Pairwise ApR ∧ ∀ r ∈ rs.reverse, reR r = true ∧ r.2.2 ∈ ns := by
  refine ⟨?_, fun r hr => h2 r (by simpa using hr)⟩
  rw [List.pairwise_reverse]
  exact h1.imp fun h => apR_symm h
/-- The class that is wanted, a range at a time. -/
def wantS (ns : List (List Int)) (c : Int) (v : Int) (r : Rg) : Int := if r.1 ≤ c ∧ c ≤ r.2.1 then ixOf r.2.2 ns else v
theorem want_fold (ns : List (List Int)) (c v : Int) : (rs : List Rg) → (v0 : Int) → (∀ r ∈ rs, r.1 ≤ c → c ≤ r.2.1 → v = ixOf r.2.2 ns) → rs.foldl (wantS ns c) v0 = if rs.any (fun r => decide (r.1 ≤ c) && decide (c ≤ r.2.1)) = true then v else v0
  | [], v0, _ => by simp
  | x :: r, v0, h => by
    have ih := want_fold ns c v r (wantS ns c v0 x) (fun y hy => h y (by simp [hy]))
    rw [List.foldl_cons, ih, List.any_cons]
    by_cases hx : x.1 ≤ c ∧ c ≤ x.2.1
    · have hv := h x (by simp) hx.1 hx.2
      have e : wantS ns c v0 x = v := by unfold wantS; rw [if_pos hx, hv]
      rw [e, decide_eq_true hx.1, decide_eq_true hx.2]
      simp
    · have e : wantS ns c v0 x = v0 := by unfold wantS; rw [if_neg hx]
      have e2 : (decide (x.1 ≤ c) && decide (c ≤ x.2.1)) = false := by
        rw [Bool.and_eq_false_iff]
        by_cases h1 : x.1 ≤ c
        · right; exact decide_eq_false fun h2 => hx ⟨h1, h2⟩
        · left; exact decide_eq_false h1
      rw [e, e2, Bool.false_or]
/-- A table of these ranges, in whatever order, tells what is wanted. -/
theorem want_tells (ss : List Sp) (rs qs : List Rg) (ns : List (List Int)) (c : Int) (hm : ∀ r, r ∈ qs ↔ r ∈ rs) (h : Tells ss qs ns) : clsP ss c = rs.foldl (wantS ns c) 0 := by
  rw [want_fold ns c (clsP ss c) rs 0 (fun r hr h1 h2 => (h.2.2 c).1 r ((hm r).2 hr) h1 h2)]
  split
  · rfl
  · rename_i hn
    refine (h.2.2 c).2 fun r hr hc => hn ?_
    rw [List.any_eq_true]
    exact ⟨r, (hm r).1 hr, by rw [decide_eq_true hc.1, decide_eq_true hc.2]; rfl⟩
theorem want_step (ns : List (List Int)) (c : Int) (rs : List Rg) (k : Nat) (hk : k < rs.length) : (rs.take (k + 1)).foldl (wantS ns c) 0 = wantS ns c ((rs.take k).foldl (wantS ns c) 0) (rs.getD k (0, 0, [])) := by
  rw [List.take_add_one, List.getElem?_eq_getElem hk, List.foldl_append]
  simp [hk]
end Go.Proofs.YtchdklbekfdgdaaGreatDoor
