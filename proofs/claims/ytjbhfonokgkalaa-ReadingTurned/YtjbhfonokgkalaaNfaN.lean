/- Plain mathematics of machines: the machine of an expression reads just what that fits; what all machines keep to; nothing of the program is named here. -/
import Derived.Test.YtjbhfonokgkalaaNfaM
namespace Go.Proofs.Ytjbhfonokgkalaa
set_option linter.unusedVariables false
set_option linter.unusedSimpArgs false

def newS (op : Int) (cl : List Int) : List St := if op = 1 then [⟨true, cl, []⟩, st0] else if op = 3 then [st0, st0] else if op = 4 then [st0] else if op = 5 then [st0, st0, st0] else [st0]
def newE (op : Int) (ps : List (Nat × Nat)) (n : Nat) : List (Nat × Nat) := if op = 1 then [(n, n + 1)] else if op = 3 then forkEs n (n + 1) ps else if op = 4 then [(n, (ps.headD (0, 0)).1), ((ps.headD (0, 0)).2, n)] else if op = 5 then forkEs (n + 1) (n + 2) [ps.headD (0, 0), (n, n)] else rowEs n ps
def newP (op : Int) (ps : List (Nat × Nat)) (n : Nat) : Nat × Nat := if op = 1 then (n, n + 1) else if op = 3 then (n, n + 1) else if op = 4 then (n, n) else if op = 5 then (n + 1, n + 2) else (n, rowEnd n ps)
theorem nodeP_eq (op : Int) (cl : List Int) (ps : List (Nat × Nat)) (l : List St) : nodeP op cl ps l = (leads (l ++ newS op cl) (newE op ps l.length), newP op ps l.length) := by
  unfold nodeP newS newE newP
  by_cases h1 : op = 1
  · simp only [if_pos h1]
  · simp only [if_neg h1]
    by_cases h3 : op = 3
    · simp only [if_pos h3]
    · simp only [if_neg h3]
      by_cases h4 : op = 4
      · simp only [if_pos h4]
      · simp only [if_neg h4]
        by_cases h5 : op = 5
        · simp only [if_pos h5]
        · simp only [if_neg h5]
/-- Pieces that lie between two places. -/
def PsIn (lo hi : Nat) (ps : List (Nat × Nat)) : Prop := (∀ p, p ∈ ps → lo ≤ p.1 ∧ p.1 < hi ∧ lo ≤ p.2 ∧ p.2 < hi) ∧ (ps.map (fun p => p.2)).Nodup
theorem PsIn.last {lo hi : Nat} {ps : List (Nat × Nat)} (h : PsIn lo hi ps) {i : Nat} (hm : i ∈ ps.map (fun p => p.2)) : lo ≤ i ∧ i < hi := by
  obtain ⟨p, hp, rfl⟩ := List.mem_map.1 hm
  exact (h.1 p hp).2.2
theorem one_of {α : Type} {l : List α} (h : l.length = 1) : ∃ q, l = [q] := by
  match l, h with
  | [q], _ => exact ⟨q, rfl⟩
theorem newS_len (op : Int) (cl : List Int) : 1 ≤ (newS op cl).length ∧ (newS op cl).length ≤ 3 := by
  unfold newS
  split
  · simp
  · split
    · simp
    · split
      · simp
      · split <;> simp
theorem newE_from (op : Int) (cl : List Int) (ps : List (Nat × Nat)) (n : Nat) (hr : op = 4 ∨ op = 5 → ps.length = 1) : ∀ e, e ∈ newE op ps n → (n ≤ e.1 ∧ e.1 < n + (newS op cl).length) ∨ e.1 ∈ ps.map (fun p => p.2) := by
  intro e he
  unfold newE at he
  unfold newS
  split at he
  · rename_i h; rw [if_pos h]; simp at he; subst he; left; simp
  · rename_i h1
    rw [if_neg h1]
    split at he
    · rename_i h; rw [if_pos h]
      rcases forkEs_from _ _ _ e he with h | h
      · left; simp [h]
      · right; exact h
    · rename_i h3
      rw [if_neg h3]
      split at he
      · rename_i h; rw [if_pos h]
        obtain ⟨q, rfl⟩ := one_of (hr (.inl h))
        simp at he
        rcases he with rfl | rfl
        · left; simp
        · right; simp
      · rename_i h4
        rw [if_neg h4]
        split at he
        · rename_i h; rw [if_pos h]
          obtain ⟨q, rfl⟩ := one_of (hr (.inr h))
          rcases forkEs_from _ _ _ e he with h | h
          · left; simp [h]
          · simp at h
            rcases h with h | h
            · right; simp [h]
            · left; simp [h]
        · rename_i h5
          rw [if_neg h5]
          rcases rowEs_from _ _ e he with h | h
          · left; simp [h]
          · right; exact h
theorem forkEs_to (f e : Nat) (ps : List (Nat × Nat)) : ∀ x, x ∈ forkEs f e ps → x.2 = e ∨ x.2 ∈ ps.map (fun p => p.1) := by
  intro x hx
  unfold forkEs at hx
  obtain ⟨p, hp, hx⟩ := List.mem_flatMap.1 hx
  simp at hx
  rcases hx with rfl | rfl
  · exact .inr (List.mem_map.2 ⟨p, hp, rfl⟩)
  · exact .inl rfl
theorem rowEs_to : (ps : List (Nat × Nat)) → (a : Nat) → ∀ e, e ∈ rowEs a ps → e.2 ∈ ps.map (fun p => p.1)
  | [], _, e, h => by simp [rowEs] at h
  | p :: r, a, e, h => by
    simp only [rowEs, List.mem_cons] at h
    rcases h with rfl | h
    · simp
    · simp only [List.map_cons, List.mem_cons]; exact .inr (rowEs_to r p.2 e h)
theorem newE_to (op : Int) (cl : List Int) (ps : List (Nat × Nat)) (n : Nat) (hr : op = 4 ∨ op = 5 → ps.length = 1) (hp : ∀ p, p ∈ ps → p.1 < n) : ∀ e, e ∈ newE op ps n → e.2 < n + (newS op cl).length := by
  have hf : ∀ i, i ∈ ps.map (fun p => p.1) → i < n := fun i hi => by obtain ⟨p, h1, rfl⟩ := List.mem_map.1 hi; exact hp p h1
  intro e he
  unfold newE at he
  unfold newS
  split at he
  · rename_i h; rw [if_pos h]; simp at he; subst he; simp
  · rename_i h1
    rw [if_neg h1]
    split at he
    · rename_i h; rw [if_pos h]
      rcases forkEs_to _ _ _ e he with h | h
      · simp [h]
      · have := hf _ h; simp; omega
    · rename_i h3
      rw [if_neg h3]
      split at he
      · rename_i h; rw [if_pos h]
        obtain ⟨q, rfl⟩ := one_of (hr (.inl h))
        have := hf q.1 (by simp)
        simp at he
        rcases he with rfl | rfl
        · simp; omega
        · simp
      · rename_i h4
        rw [if_neg h4]
        split at he
        · rename_i h; rw [if_pos h]
          obtain ⟨q, rfl⟩ := one_of (hr (.inr h))
          have := hf q.1 (by simp)
          rcases forkEs_to _ _ _ e he with h | h
          · simp [h]
          · simp at h
            rcases h with h | h <;> (simp [h]; try omega)
        · rename_i h5
          rw [if_neg h5]
          have := hf _ (rowEs_to _ _ e he)
          simp; omega
theorem newP_in (op : Int) (cl : List Int) (ps : List (Nat × Nat)) (n : Nat) : (n ≤ (newP op ps n).1 ∧ (newP op ps n).1 < n + (newS op cl).length) ∧ ((n ≤ (newP op ps n).2 ∧ (newP op ps n).2 < n + (newS op cl).length) ∨ (newP op ps n).2 ∈ ps.map (fun p => p.2)) := by
  unfold newP newS
  split
  · simp
  · split
    · simp
    · split
      · simp
      · split
        · simp
        · refine ⟨by simp, ?_⟩
          rcases rowEnd_mem ps n with h | h
          · left; simp [h]
          · right; exact h
theorem app_get (l n : List St) (i : Nat) (h : i < l.length) : (l ++ n)[i]? = l[i]? := List.getElem?_append_left h
theorem node_struct (op : Int) (cl : List Int) (ps : List (Nat × Nat)) (l : List St) (lo : Nat) (hlo : lo ≤ l.length) (hp : PsIn lo l.length ps) (hr : op = 4 ∨ op = 5 → ps.length = 1) :
    (nodeP op cl ps l).1.length = l.length + (newS op cl).length ∧ (∀ i, i < lo → (nodeP op cl ps l).1[i]? = l[i]?) ∧ lo ≤ (nodeP op cl ps l).2.1 ∧ (nodeP op cl ps l).2.1 < (nodeP op cl ps l).1.length ∧ lo ≤ (nodeP op cl ps l).2.2 ∧ (nodeP op cl ps l).2.2 < (nodeP op cl ps l).1.length := by
  rw [nodeP_eq]
  have hlen : (leads (l ++ newS op cl) (newE op ps l.length)).length = l.length + (newS op cl).length := by rw [leads_len]; simp
  have h1 := newP_in op cl ps l.length
  refine ⟨hlen, fun i hi => ?_, ?_, ?_, ?_, ?_⟩
  · show (leads (l ++ newS op cl) (newE op ps l.length))[i]? = _
    rw [leads_get, app_get _ _ _ (by omega), outs_none _ _ (fun e he h => ?_)]
    · cases l[i]? <;> simp [St.ad_nil]
    · rcases newE_from op cl ps l.length hr e he with h2 | h2
      · omega
      · have := hp.last h2; omega
  · show lo ≤ (newP op ps l.length).1; omega
  · show (newP op ps l.length).1 < _; rw [hlen]; omega
  · show lo ≤ (newP op ps l.length).2
    rcases h1.2 with h2 | h2
    · omega
    · exact (hp.last h2).1
  · show (newP op ps l.length).2 < _
    rw [hlen]
    rcases h1.2 with h2 | h2
    · omega
    · have := (hp.last h2).2; omega
/-- Expressions with as many parts as they may have, of classes that there are. -/
def RightF : Fo → Prop
  | .nil => True
  | .node _ _ a k r => ((a.1 = 4 ∨ a.1 = 5) → (toL k).length = 1) ∧ ((∀ c, c ∈ a.2 → 0 ≤ c ∧ c ≤ 23) ∧ a.2.length ≤ 1000) ∧ RightF k ∧ RightF r
theorem pieces_struct : (f : Fo) → RightF f → (l : List St) → l.length ≤ (piecesF f l).1.length ∧ (∀ i, i < l.length → (piecesF f l).1[i]? = l[i]?) ∧ PsIn l.length (piecesF f l).1.length (piecesF f l).2 ∧ (piecesF f l).2.length = (toL f).length
  | .nil, _, l => ⟨Nat.le_refl _, fun _ _ => rfl, ⟨fun p hp => by simp [piecesF] at hp, by simp [piecesF]⟩, rfl⟩
  | .node _ _ a k r, h, l => by
    obtain ⟨hr, _, hk, hrr⟩ := h
    obtain ⟨a1, a2, a3, a4⟩ := pieces_struct k hk l
    obtain ⟨b1, b2, b3, b4, b5, b6⟩ := node_struct a.1 a.2 (piecesF k l).2 (piecesF k l).1 l.length a1 a3 (fun h => by rw [a4]; exact hr h)
    obtain ⟨c1, c2, c3, c4⟩ := pieces_struct r hrr (nodeP a.1 a.2 (piecesF k l).2 (piecesF k l).1).1
    simp only [piecesF, toL, List.length_cons]
    refine ⟨by omega, fun i hi => ?_, ⟨fun p hp => ?_, ?_⟩, by omega⟩
    · rw [c2 i (by omega), b2 i hi, a2 i hi]
    · rcases List.mem_cons.1 hp with rfl | hp
      · exact ⟨by omega, by omega, by omega, by omega⟩
      · have := c3.1 p hp
        exact ⟨by omega, by omega, by omega, by omega⟩
    · simp only [List.map_cons, List.nodup_cons]
      refine ⟨fun hm => ?_, c3.2⟩
      have := (c3.last hm).1
      omega

theorem pok_congr {M : List St} {fin : Nat} {L L' : List Int → Prop} {p : Nat × Nat} {T : List Nat} (h : ∀ w, L w ↔ L' w) (hp : POk M fin L p T) : POk M fin L' p T :=
  ⟨fun k w ha => by
    obtain ⟨j, u, v, h1, h2, h3, h4⟩ := hp.1 k w ha
    exact ⟨j, u, v, h1, h2, (h u).1 h3, h4⟩, fun j u v hu he => hp.2 j u v ((h u).2 hu) he⟩
theorem node_ok {M : List St} {fin : Nat} (op : Int) (cl : List Int) (ps : List (Nat × Nat)) (l : List St) (lo : Nat) (ks : List (List Int → Prop)) (ext : Nat → List Nat) (hlo : lo ≤ l.length) (hp : PsIn lo l.length ps) (hr : op = 4 ∨ op = 5 → ps.length = 1) (hk : ks.length = ps.length)
    (hM : ∀ i, lo ≤ i → i < (nodeP op cl ps l).1.length → M[i]? = ((nodeP op cl ps l).1[i]?).map (fun s => s.ad (ext i))) (hx : ∀ i, lo ≤ i → i < (nodeP op cl ps l).1.length → i ≠ (nodeP op cl ps l).2.2 → ext i = [] ∧ i ≠ fin)
    (hkids : ∀ E : Nat → List Nat, (∀ i, lo ≤ i → i < l.length → M[i]? = (l[i]?).map (fun s => s.ad (E i))) → (∀ i, lo ≤ i → i < l.length → i ∉ ps.map (fun p => p.2) → E i = [] ∧ i ≠ fin) → ∀ i (hi : i < ps.length) (hj : i < ks.length), POk M fin ks[i] ps[i] (E ps[i].2)) :
    POk M fin (nodeL op cl ks) (nodeP op cl ps l).2 (ext (nodeP op cl ps l).2.2) := by
  obtain ⟨b1, _, _, _, _, _⟩ := node_struct op cl ps l lo hlo hp hr
  rw [b1] at hM hx
  rw [nodeP_eq] at hM hx ⊢
  simp only at hM hx ⊢
  have hin := newP_in op cl ps l.length
  have hfrom := newE_from op cl ps l.length hr
  obtain ⟨E, hE⟩ : ∃ E : Nat → List Nat, E = fun i => outs (newE op ps l.length) i ++ ext i := ⟨_, rfl⟩
  have hEi : ∀ i, E i = outs (newE op ps l.length) i ++ ext i := fun i => by rw [hE]
  have hMi : ∀ i, lo ≤ i → i < l.length + (newS op cl).length → M[i]? = ((l ++ newS op cl)[i]?).map (fun s => s.ad (E i)) := by
    intro i h1 h2
    rw [hM i h1 h2, leads_get, hEi]
    cases (l ++ newS op cl)[i]? <;> simp [St.ad_ad]
  have hnew : ∀ j (hj : j < (newS op cl).length), M[l.length + j]? = some ((newS op cl)[j].ad (E (l.length + j))) := by
    intro j hj
    rw [hMi _ (by omega) (by omega), List.getElem?_append_right (by omega), show l.length + j - l.length = j by omega, List.getElem?_eq_getElem hj]
    rfl
  have hK := hkids E (fun i h1 h2 => by rw [hMi i h1 (by omega), app_get _ _ _ h2]) (fun i h1 h2 h3 => by
    have hne : i ≠ (newP op ps l.length).2 := fun h => by
      rcases hin.2 with h4 | h4
      · omega
      · exact h3 (by rw [h]; exact h4)
    obtain ⟨e1, e2⟩ := hx i h1 (by omega) hne
    rw [hEi, e1, outs_none _ _ (fun e he h => by
      rcases hfrom e he with h4 | h4
      · omega
      · exact h3 (by rw [← h]; exact h4))]
    exact ⟨rfl, e2⟩)
  have hpb : ∀ i (hi : i < ps.length), lo ≤ ps[i].2 ∧ ps[i].2 < l.length := fun i hi => hp.last (List.mem_map.2 ⟨_, List.getElem_mem hi, rfl⟩)
  obtain ⟨n, hn⟩ : ∃ n, n = l.length := ⟨_, rfl⟩
  rw [← hn] at hM hx hin hfrom hEi hnew hpb hlo hp ⊢
  clear hM hMi hE hkids b1
  by_cases h1 : op = 1
  · subst h1
    have s0 := hnew 0 (by simp [newS])
    have s1 := hnew 1 (by simp [newS])
    have x0 := hx n (by omega) (by simp [newS]) (by simp [newP])
    have e0 : E n = [n + 1] := by rw [hEi, x0.1]; simp [newE, outs]
    have e1 : E (n + 1) = ext (n + 1) := by rw [hEi]; simp [newE, outs]
    simp [newS, St.ad, e0, e1, st0] at s0 s1
    have := pok_reader (M := M) (fin := fin) (T := ext (n + 1)) s0 s1 x0.2
    rw [show newP 1 ps n = (n, n + 1) by simp [newP]]
    exact pok_congr (fun w => by simp [nodeL]) this
  by_cases h3 : op = 3
  · subst h3
    have s0 := hnew 0 (by simp [newS])
    have s1 := hnew 1 (by simp [newS])
    have x0 := hx n (by omega) (by simp [newS]) (by simp [newP])
    have hnl : ∀ m, n ≤ m → m ∉ ps.map (fun p => p.2) := fun m hm h => by have := (hp.last h).2; omega
    have e0 : E n = ps.map (fun p => p.1) := by
      rw [hEi, x0.1]
      simp only [newE, if_neg h1, if_pos rfl, List.append_nil]
      exact forkEs_first n (n + 1) ps (hnl n (Nat.le_refl _))
    have e1 : E (n + 1) = ext (n + 1) := by
      rw [hEi]
      simp only [newE, if_neg h1, if_pos rfl]
      rw [outs_none _ _ (fun x hx h => by
        rcases forkEs_from _ _ _ x hx with h2 | h2
        · omega
        · exact hnl (n + 1) (by omega) (by rw [← h]; exact h2))]
      rfl
    simp [newS, St.ad, e0, e1, st0] at s0 s1
    have := pok_fork (M := M) (fin := fin) (T := ext (n + 1)) (ks := ks) hk s0 s1 x0.2 (fun i hi => by
      have b := hpb i hi
      have x := hx ps[i].2 b.1 (by omega) (by simp [newP]; omega)
      have e : E ps[i].2 = [n + 1] := by
        rw [hEi, x.1]
        simp only [newE, if_neg h1, if_pos rfl, List.append_nil]
        exact forkEs_last n (n + 1) ps hp.2 (hnl n (Nat.le_refl _)) i hi
      have := hK i hi (by omega)
      rw [e] at this
      exact ⟨this, x.2⟩)
    rw [show newP 3 ps n = (n, n + 1) by simp [newP]]
    exact pok_congr (fun w => by simp [nodeL]) this
  by_cases h4 : op = 4
  · subst h4
    obtain ⟨q, rfl⟩ := one_of (hr (.inl rfl))
    obtain ⟨K, rfl⟩ := one_of (hk.trans rfl)
    have b := hpb 0 (by simp)
    simp at b
    have s0 := hnew 0 (by simp [newS])
    have xq := hx q.2 b.1 (by omega) (by simp [newP]; omega)
    have e0 : E n = [q.1] ++ ext n := by
      rw [hEi]
      simp [newE, outs_cons, outs, show ¬ q.2 = n by omega]
    have eq : E q.2 = [n] := by
      rw [hEi, xq.1]
      simp [newE, outs_cons, outs, show ¬ n = q.2 by omega]
    simp [newS, St.ad, e0, st0] at s0
    have h0 := hK 0 (by simp) (by simp)
    simp [eq] at h0
    have := pok_loop (M := M) (fin := fin) (T := ext n) (n := n) (q := q) (K := K) (by simpa using s0) h0 xq.2
    rw [show newP 4 [q] n = (n, n) by simp [newP]]
    exact pok_congr (fun w => by simp [nodeL]) this
  by_cases h5 : op = 5
  · subst h5
    obtain ⟨q, rfl⟩ := one_of (hr (.inr rfl))
    obtain ⟨K, rfl⟩ := one_of (hk.trans rfl)
    have b := hpb 0 (by simp)
    simp at b
    have s0 := hnew 0 (by simp [newS])
    have s1 := hnew 1 (by simp [newS])
    have s2 := hnew 2 (by simp [newS])
    have xq := hx q.2 b.1 (by omega) (by simp [newP]; omega)
    have x0 := hx n (by omega) (by simp [newS]) (by simp [newP])
    have x1 := hx (n + 1) (by omega) (by simp [newS]) (by simp [newP])
    have e0 : E n = [n + 2] := by
      rw [hEi, x0.1]
      simp [newE, forkEs, outs_cons, outs, show ¬ q.2 = n by omega]
    have e1 : E (n + 1) = [q.1, n] := by
      rw [hEi, x1.1]
      simp [newE, forkEs, outs_cons, outs, show ¬ q.2 = n + 1 by omega]
    have e2 : E (n + 2) = ext (n + 2) := by
      rw [hEi]
      simp [newE, forkEs, outs_cons, outs, show ¬ q.2 = n + 2 by omega]
    have eq : E q.2 = [n + 2] := by
      rw [hEi, xq.1]
      simp [newE, forkEs, outs_cons, outs, show ¬ n + 1 = q.2 by omega, show ¬ n = q.2 by omega]
    simp [newS, St.ad, e0, e1, e2, st0] at s0 s1 s2
    have h0 := hK 0 (by simp) (by simp)
    simp [eq] at h0
    have hz : POk M fin (seqL []) (n, n) [n + 2] := pok_row (E := fun _ => [n + 2]) (ps := []) s0 rfl
    have := pok_fork (M := M) (fin := fin) (T := ext (n + 2)) (f := n + 1) (e := n + 2) (ps := [q, (n, n)]) (ks := [K, seqL []]) rfl s1 s2 x1.2 (fun i hi => by
      match i, hi with
      | 0, _ => exact ⟨h0, xq.2⟩
      | 1, _ => exact ⟨hz, x0.2⟩)
    have h2 := pok_congr (L' := nodeL 5 cl [K]) (fun w => by
      simp [nodeL, altL, seqL]
      exact or_comm) this
    rw [show newP 5 [q] n = (n + 1, n + 2) by simp [newP]]
    exact h2
  · have s0 := hnew 0 (by have := (newS_len op cl).1; omega)
    have hns : newS op cl = [st0] := by simp [newS, h1, h3, h4, h5]
    have hnp : newP op ps n = (n, rowEnd n ps) := by simp [newP, h1, h3, h4, h5]
    have hne : newE op ps n = rowEs n ps := by simp [newE, h1, h3, h4, h5]
    rw [hns] at hx
    rw [hnp] at hx ⊢
    rw [hne] at hEi
    simp [hns, St.ad, st0] at s0
    have hd : (n :: ps.map (fun p => p.2)).Nodup := by
      simp only [List.nodup_cons]
      exact ⟨fun h => by have := (hp.last h).2; omega, hp.2⟩
    have hrow := rowH_of (M := M) (fin := fin) (ext := ext) (E := E) ps ks n hk hd (fun i _ => hEi i) (fun i hi hne => by
      have : lo ≤ i ∧ i ≤ n := by
        rcases hi with rfl | hi
        · exact ⟨hlo, Nat.le_refl _⟩
        · have := hp.last hi; omega
      exact hx i this.1 (by simp; omega) hne) hK
    have := pok_row (M := M) s0 hrow
    exact pok_congr (fun w => by simp [nodeL, h1, h3, h4, h5]) this
theorem pieces_ok {M : List St} {fin : Nat} : (f : Fo) → RightF f → (l : List St) → (ext : Nat → List Nat) → (∀ i, l.length ≤ i → i < (piecesF f l).1.length → M[i]? = ((piecesF f l).1[i]?).map (fun s => s.ad (ext i))) →
    (∀ i, l.length ≤ i → i < (piecesF f l).1.length → i ∉ (piecesF f l).2.map (fun p => p.2) → ext i = [] ∧ i ≠ fin) → ∀ i (hi : i < (piecesF f l).2.length) (hk : i < (fitF f).length), POk M fin (fitF f)[i] (piecesF f l).2[i] (ext (piecesF f l).2[i].2)
  | .nil, _, l, ext, _, _, i, hi, _ => by simp [piecesF] at hi
  | .node _ _ a k r, h, l, ext, hM, hx, i, hi, hk => by
    obtain ⟨hr, _, hkk, hrr⟩ := h
    obtain ⟨a1, a2, a3, a4⟩ := pieces_struct k hkk l
    have hr' : a.1 = 4 ∨ a.1 = 5 → (piecesF k l).2.length = 1 := fun h => by rw [a4]; exact hr h
    obtain ⟨b1, b2, b3, b4, b5, b6⟩ := node_struct a.1 a.2 (piecesF k l).2 (piecesF k l).1 l.length a1 a3 hr'
    obtain ⟨c1, c2, c3, c4⟩ := pieces_struct r hrr (nodeP a.1 a.2 (piecesF k l).2 (piecesF k l).1).1
    simp only [piecesF] at hM hx
    cases i with
    | zero =>
      show POk M fin (nodeL a.1 a.2 (fitF k)) (nodeP a.1 a.2 (piecesF k l).2 (piecesF k l).1).2 (ext (nodeP a.1 a.2 (piecesF k l).2 (piecesF k l).1).2.2)
      refine node_ok a.1 a.2 _ _ l.length (fitF k) ext a1 a3 hr' (by rw [fitF_map]; simp [a4]) (fun i h1 h2 => ?_) (fun i h1 h2 h3 => ?_) (fun E h1 h2 => ?_)
      · rw [hM i h1 (by omega), c2 i h2]
      · refine hx i h1 (by omega) (fun hm => ?_)
        simp only [List.map_cons, List.mem_cons] at hm
        rcases hm with hm | hm
        · exact h3 hm
        · have := (c3.last hm).1; omega
      · exact pieces_ok k hkk l E h1 h2
    | succ i =>
      show POk M fin ((fitF r)[i]'_) ((piecesF r (nodeP a.1 a.2 (piecesF k l).2 (piecesF k l).1).1).2[i]'_) (ext ((piecesF r (nodeP a.1 a.2 (piecesF k l).2 (piecesF k l).1).1).2[i]'_).2)
      refine pieces_ok r hrr _ ext (fun i h1 h2 => hM i (by omega) h2) (fun i h1 h2 h3 => hx i (by omega) h2 (fun hm => ?_)) i _ _
      simp only [List.map_cons, List.mem_cons] at hm
      rcases hm with hm | hm
      · omega
      · exact h3 hm
def Nd.right (n : Nd) : Prop := RightF (.node 0 0 (n.op, n.cl) n.kids .nil)
/-- The machine of an expression reads just what that fits. -/
theorem piece_fits (n : Nd) (h : n.right) (w : List Int) : (∃ k, Acc (n.piece []).1 (n.piece []).2.2 k (n.piece []).2.1 w) ↔ n.fits w := by
  have h0 := pieces_ok (M := (n.piece []).1) (fin := (n.piece []).2.2) (.node 0 0 (n.op, n.cl) n.kids .nil) h [] (fun _ => []) (fun i _ _ => by
    show (n.piece []).1[i]? = ((n.piece []).1[i]?).map _
    cases (n.piece []).1[i]? <;> simp [St.ad_nil]) (fun i _ _ hm => by
    refine ⟨rfl, fun he => hm ?_⟩
    show i ∈ [(n.piece []).2].map (fun p => p.2)
    simp [he]) 0 (by simp [piecesF]) (by simp [fitF])
  have h1 : POk (n.piece []).1 (n.piece []).2.2 n.fits (n.piece []).2 [] := h0
  constructor
  · rintro ⟨k, hk⟩
    obtain ⟨j, u, v, _, rfl, hu, he⟩ := h1.1 k w hk
    rcases he with ⟨_, rfl⟩ | ⟨t, ht, _⟩
    · simpa using hu
    · simp at ht
  · intro hw
    obtain ⟨k, hk⟩ := h1.2 0 w [] hw (.inl ⟨rfl, rfl⟩)
    exact ⟨k, by simpa using hk⟩
end Go.Proofs.Ytjbhfonokgkalaa
