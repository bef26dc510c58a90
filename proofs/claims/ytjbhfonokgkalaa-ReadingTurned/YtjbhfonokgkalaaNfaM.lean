/- Plain mathematics of machines: expressions as states with ways between them, and that a machine reads just what its expression fits; nothing of the program is named here. -/
import Derived.Test.YtjbhfonokgkalaaReaM
namespace Go.Proofs.Ytjbhfonokgkalaa
set_option linter.unusedVariables false
set_option linter.unusedSimpArgs false

/-- A state: does it read, which classes, and where it goes on. -/
structure St where
  reads : Bool
  cl : List Int
  next : List Nat
def St.ad (s : St) (t : List Nat) : St := ⟨s.reads, s.cl, s.next ++ t⟩
theorem St.ad_nil (s : St) : s.ad [] = s := by cases s; simp [St.ad]
theorem St.ad_ad (s : St) (t u : List Nat) : (s.ad t).ad u = s.ad (t ++ u) := by simp [St.ad]
def st0 : St := ⟨false, [], []⟩
def leadS (l : List St) (i j : Nat) : List St := l.modify i (fun s => s.ad [j])
def leads (l : List St) (es : List (Nat × Nat)) : List St := es.foldl (fun l e => leadS l e.1 e.2) l
/-- Where these ways lead from a state. -/
def outs (es : List (Nat × Nat)) (i : Nat) : List Nat := (es.filter (fun e => e.1 == i)).map (fun e => e.2)
theorem leadS_get (l : List St) (i j k : Nat) : (leadS l i j)[k]? = (l[k]?).map (fun s => s.ad (if i = k then [j] else [])) := by
  unfold leadS
  rw [List.getElem?_modify]
  cases l[k]? with
  | none => rfl
  | some s => by_cases h : i = k <;> simp [h, St.ad_nil]
theorem leads_get : (es : List (Nat × Nat)) → (l : List St) → (i : Nat) → (leads l es)[i]? = (l[i]?).map (fun s => s.ad (outs es i))
  | [], l, i => by
    cases h : l[i]? <;> simp [leads, outs, h, St.ad_nil]
  | e :: r, l, i => by
    have ih := leads_get r (leadS l e.1 e.2) i
    show (leads (leadS l e.1 e.2) r)[i]? = _
    rw [ih, leadS_get]
    cases h : l[i]? with
    | none => rfl
    | some s =>
      by_cases hi : e.1 = i
      · simp [outs, hi, St.ad_ad]
      · simp [outs, hi, St.ad_ad]
theorem leads_len : (es : List (Nat × Nat)) → (l : List St) → (leads l es).length = l.length
  | [], l => rfl
  | e :: r, l => by
    show (leads (leadS l e.1 e.2) r).length = _
    rw [leads_len r]; simp [leadS]
theorem leads_append (l : List St) (a b : List (Nat × Nat)) : leads l (a ++ b) = leads (leads l a) b := by simp [leads]
theorem outs_none (es : List (Nat × Nat)) (i : Nat) (h : ∀ e, e ∈ es → e.1 ≠ i) : outs es i = [] := by
  unfold outs
  rw [List.filter_eq_nil_iff.2 (fun e he => by simpa using h e he)]
  rfl
theorem outs_cons (e : Nat × Nat) (r : List (Nat × Nat)) (i : Nat) : outs (e :: r) i = (if e.1 = i then [e.2] else []) ++ outs r i := by
  unfold outs
  by_cases h : e.1 = i <;> simp [h]
theorem outs_append (a b : List (Nat × Nat)) (i : Nat) : outs (a ++ b) i = outs a i ++ outs b i := by simp [outs]
def rowEs : Nat → List (Nat × Nat) → List (Nat × Nat)
  | _, [] => []
  | a, p :: r => (a, p.1) :: rowEs p.2 r
def rowEnd : Nat → List (Nat × Nat) → Nat
  | a, [] => a
  | _, p :: r => rowEnd p.2 r
def forkEs (f e : Nat) (ps : List (Nat × Nat)) : List (Nat × Nat) := ps.flatMap fun p => [(f, p.1), (p.2, e)]
/-- What a node's states are, behind those of its parts. -/
def nodeP (op : Int) (cl : List Int) (ps : List (Nat × Nat)) (l : List St) : List St × (Nat × Nat) :=
  if op = 1 then (leads (l ++ [⟨true, cl, []⟩, st0]) [(l.length, l.length + 1)], (l.length, l.length + 1))
  else if op = 3 then (leads (l ++ [st0, st0]) (forkEs l.length (l.length + 1) ps), (l.length, l.length + 1))
  else if op = 4 then (leads (l ++ [st0]) [(l.length, (ps.headD (0, 0)).1), ((ps.headD (0, 0)).2, l.length)], (l.length, l.length))
  else if op = 5 then (leads (l ++ [st0, st0, st0]) (forkEs (l.length + 1) (l.length + 2) [ps.headD (0, 0), (l.length, l.length)]), (l.length + 1, l.length + 2))
  else (leads (l ++ [st0]) (rowEs l.length ps), (l.length, rowEnd l.length ps))
def piecesF : Fo → List St → List St × List (Nat × Nat)
  | .nil, l => (l, [])
  | .node _ _ a k r, l =>
    ((piecesF r (nodeP a.1 a.2 (piecesF k l).2 (piecesF k l).1).1).1, (nodeP a.1 a.2 (piecesF k l).2 (piecesF k l).1).2 :: (piecesF r (nodeP a.1 a.2 (piecesF k l).2 (piecesF k l).1).1).2)
def Nd.piece (n : Nd) (l : List St) : List St × (Nat × Nat) := nodeP n.op n.cl (piecesF n.kids l).2 (piecesF n.kids l).1

/-! What an expression fits. -/
def powL (k : List Int → Prop) : Nat → List Int → Prop
  | 0, w => w = []
  | n + 1, w => ∃ u v, w = u ++ v ∧ k u ∧ powL k n v
def seqL : List (List Int → Prop) → List Int → Prop
  | [], w => w = []
  | k :: r, w => ∃ u v, w = u ++ v ∧ k u ∧ seqL r v
def altL (ks : List (List Int → Prop)) (w : List Int) : Prop := ∃ k, k ∈ ks ∧ k w
def nodeL (op : Int) (cl : List Int) (ks : List (List Int → Prop)) (w : List Int) : Prop :=
  if op = 1 then ∃ c, c ∈ cl ∧ w = [c] else if op = 3 then altL ks w else if op = 4 then ∃ n, powL (ks.headD (fun _ => False)) n w else if op = 5 then w = [] ∨ ks.headD (fun _ => False) w else seqL ks w
def fitF : Fo → List (List Int → Prop)
  | .nil => []
  | .node _ _ a k r => nodeL a.1 a.2 (fitF k) :: fitF r
def Nd.fits (n : Nd) : List Int → Prop := nodeL n.op n.cl (fitF n.kids)
theorem fitF_map : (f : Fo) → fitF f = (toL f).map Nd.fits
  | .nil => rfl
  | .node _ _ a k r => by simp only [fitF, toL, List.map_cons, fitF_map r]; rfl

/-! What a machine reads. -/
def Acc (M : List St) (fin : Nat) : Nat → Nat → List Int → Prop
  | 0, _, _ => False
  | k + 1, q, w => (q = fin ∧ w = []) ∨ ∃ s, M[q]? = some s ∧ ((s.reads = false ∧ ∃ t, t ∈ s.next ∧ Acc M fin k t w) ∨ (s.reads = true ∧ ∃ c v, w = c :: v ∧ c ∈ s.cl ∧ ∃ t, t ∈ s.next ∧ Acc M fin k t v))
theorem Acc.up {M : List St} {fin : Nat} : (k : Nat) → {q : Nat} → {w : List Int} → Acc M fin k q w → Acc M fin (k + 1) q w
  | 0, _, _, h => h.elim
  | k + 1, q, w, h => by
    rcases h with h | ⟨s, hs, ⟨h1, t, h2, h3⟩ | ⟨h1, c, v, h2, h3, t, h4, h5⟩⟩
    · exact .inl h
    · exact .inr ⟨s, hs, .inl ⟨h1, t, h2, h3.up k⟩⟩
    · exact .inr ⟨s, hs, .inr ⟨h1, c, v, h2, h3, t, h4, h5.up k⟩⟩
/-- What is read behind a piece. -/
def Ex (M : List St) (fin j : Nat) (T : List Nat) (last : Nat) (v : List Int) : Prop := (last = fin ∧ v = []) ∨ ∃ t, t ∈ T ∧ Acc M fin j t v
theorem acc_quiet {M : List St} {fin k q : Nat} {T : List Nat} {v : List Int} (hM : M[q]? = some ⟨false, [], T⟩) (h : Acc M fin k q v) : ∃ j, j < k ∧ Ex M fin j T q v := by
  cases k with
  | zero => exact h.elim
  | succ k =>
    refine ⟨k, by omega, ?_⟩
    rcases h with h | ⟨s, hs, ⟨_, t, h2, h3⟩ | ⟨h1, _⟩⟩
    · exact .inl h
    · rw [hM] at hs; cases hs; exact .inr ⟨t, h2, h3⟩
    · rw [hM] at hs; cases hs; cases h1
theorem quiet_acc {M : List St} {fin j q : Nat} {T : List Nat} {v : List Int} (hM : M[q]? = some ⟨false, [], T⟩) (h : Ex M fin j T q v) : Acc M fin (j + 1) q v := by
  rcases h with h | ⟨t, h1, h2⟩
  · exact .inl h
  · exact .inr ⟨_, hM, .inl ⟨rfl, t, h1, h2⟩⟩
/-- A piece reads what its expression fits, and then what follows it. -/
def POk (M : List St) (fin : Nat) (L : List Int → Prop) (p : Nat × Nat) (T : List Nat) : Prop :=
  (∀ k w, Acc M fin k p.1 w → ∃ j u v, j < k ∧ w = u ++ v ∧ L u ∧ Ex M fin j T p.2 v) ∧ (∀ j u v, L u → Ex M fin j T p.2 v → ∃ k, Acc M fin k p.1 (u ++ v))
theorem pok_reader {M : List St} {fin n : Nat} {cl : List Int} {T : List Nat} (h1 : M[n]? = some ⟨true, cl, [n + 1]⟩) (h2 : M[n + 1]? = some ⟨false, [], T⟩) (hn : n ≠ fin) : POk M fin (fun w => ∃ c, c ∈ cl ∧ w = [c]) (n, n + 1) T := by
  refine ⟨fun k w h => ?_, fun j u v hu he => ?_⟩
  · cases k with
    | zero => exact h.elim
    | succ k =>
      rcases h with h | ⟨s, hs, ⟨h3, _⟩ | ⟨_, c, v, hw, hc, t, ht, ha⟩⟩
      · exact absurd h.1 hn
      · rw [h1] at hs; cases hs; cases h3
      · rw [h1] at hs
        cases hs
        obtain rfl : t = n + 1 := by simpa using ht
        obtain ⟨j, hj, he⟩ := acc_quiet h2 ha
        exact ⟨j, [c], v, by omega, by simpa using hw, ⟨c, hc, rfl⟩, he⟩
  · obtain ⟨c, hc, rfl⟩ := hu
    exact ⟨j + 1 + 1, .inr ⟨_, h1, .inr ⟨rfl, c, v, rfl, hc, n + 1, by simp, quiet_acc h2 he⟩⟩⟩
theorem pok_fork {M : List St} {fin f e : Nat} {T : List Nat} {ps : List (Nat × Nat)} {ks : List (List Int → Prop)} (hl : ks.length = ps.length) (h1 : M[f]? = some ⟨false, [], ps.map (fun p => p.1)⟩) (h2 : M[e]? = some ⟨false, [], T⟩) (hf : f ≠ fin)
    (hp : ∀ i (hi : i < ps.length), POk M fin (ks[i]'(by omega)) ps[i] [e] ∧ ps[i].2 ≠ fin) : POk M fin (altL ks) (f, e) T := by
  refine ⟨fun k w h => ?_, fun j u v hu he => ?_⟩
  · obtain ⟨k', hk', h⟩ := acc_quiet h1 h
    rcases h with h | ⟨t, ht, ha⟩
    · exact absurd h.1 hf
    · obtain ⟨p, hpm, rfl⟩ := List.mem_map.1 ht
      obtain ⟨i, hi, rfl⟩ := List.mem_iff_getElem.1 hpm
      obtain ⟨⟨hr, _⟩, hne⟩ := hp i hi
      obtain ⟨j, u, v, hj, hw, hu, he⟩ := hr _ _ ha
      rcases he with he | ⟨t, ht2, ha2⟩
      · exact absurd he.1 hne
      · obtain rfl : t = e := by simpa using ht2
        obtain ⟨j', hj', he'⟩ := acc_quiet h2 ha2
        exact ⟨j', u, v, by omega, hw, ⟨_, List.getElem_mem (by omega), hu⟩, he'⟩
  · obtain ⟨k, hk, hku⟩ := hu
    obtain ⟨i, hi, rfl⟩ := List.mem_iff_getElem.1 hk
    obtain ⟨⟨_, hl2⟩, hne⟩ := hp i (by omega)
    obtain ⟨k, ha⟩ := hl2 (j + 1) u v hku (.inr ⟨e, by simp, quiet_acc h2 he⟩)
    exact ⟨k + 1, quiet_acc h1 (.inr ⟨_, List.mem_map.2 ⟨_, List.getElem_mem (by omega), rfl⟩, ha⟩)⟩
theorem pok_loop {M : List St} {fin n : Nat} {T : List Nat} {q : Nat × Nat} {K : List Int → Prop} (h1 : M[n]? = some ⟨false, [], [q.1] ++ T⟩) (hq : POk M fin K q [n]) (hne : q.2 ≠ fin) : POk M fin (fun w => ∃ i, powL K i w) (n, n) T := by
  refine ⟨?_, fun j u v hu he => ?_⟩
  · intro k
    induction k using Nat.strongRecOn with
    | _ k ih =>
      intro w h
      obtain ⟨k', hk', h⟩ := acc_quiet h1 h
      rcases h with h | ⟨t, ht, ha⟩
      · exact ⟨k', [], w, hk', rfl, ⟨0, rfl⟩, .inl h⟩
      · rcases List.mem_append.1 ht with ht | ht
        · obtain rfl : t = q.1 := by simpa using ht
          obtain ⟨j, u, v, hj, rfl, hu, he⟩ := hq.1 _ _ ha
          rcases he with he | ⟨t, ht2, ha2⟩
          · exact absurd he.1 hne
          · obtain rfl : t = n := by simpa using ht2
            obtain ⟨j', u', v', hj', rfl, ⟨i, hi⟩, he'⟩ := ih j (by omega) v ha2
            exact ⟨j', u ++ u', v', by omega, by simp, ⟨i + 1, u, u', rfl, hu, hi⟩, he'⟩
        · exact ⟨k', [], w, hk', rfl, ⟨0, rfl⟩, .inr ⟨t, ht, ha⟩⟩
  · obtain ⟨i, hi⟩ := hu
    revert u
    induction i with
    | zero =>
      intro u hu
      obtain rfl : u = [] := hu
      refine ⟨j + 1, quiet_acc h1 ?_⟩
      rcases he with he | ⟨t, ht, ha⟩
      · exact .inl he
      · exact .inr ⟨t, List.mem_append.2 (.inr ht), ha⟩
    | succ i ih =>
      rintro u ⟨u1, u2, rfl, hu1, hu2⟩
      obtain ⟨k, hk⟩ := ih u2 hu2
      obtain ⟨k', hk'⟩ := hq.2 k u1 (u2 ++ v) hu1 (.inr ⟨n, by simp, hk⟩)
      refine ⟨k' + 1, quiet_acc h1 (.inr ⟨q.1, by simp, ?_⟩)⟩
      rw [List.append_assoc]
      exact hk'
/-- Pieces that follow one another: where each leads. -/
def RowH (M : List St) (fin : Nat) (T : List Nat) (E : Nat → List Nat) : Nat → List (Nat × Nat) → List (List Int → Prop) → Prop
  | a, [], [] => E a = T
  | a, p :: r, k :: ks => E a = [p.1] ∧ a ≠ fin ∧ POk M fin k p (E p.2) ∧ RowH M fin T E p.2 r ks
  | _, _, _ => False
theorem row_to {M : List St} {fin : Nat} {T : List Nat} {E : Nat → List Nat} : (ps : List (Nat × Nat)) → (ks : List (List Int → Prop)) → (a : Nat) → RowH M fin T E a ps ks → ∀ k w, Ex M fin k (E a) a w → ∃ j u v, j ≤ k ∧ w = u ++ v ∧ seqL ks u ∧ Ex M fin j T (rowEnd a ps) v
  | [], [], a, h, k, w, he => by
    have h' : E a = T := h
    rw [h'] at he
    exact ⟨k, [], w, Nat.le_refl _, rfl, rfl, he⟩
  | p :: r, c :: ks, a, h, k, w, he => by
    obtain ⟨h1, h2, h3, h4⟩ := h
    rw [h1] at he
    rcases he with he | ⟨t, ht, ha⟩
    · exact absurd he.1 h2
    · obtain rfl : t = p.1 := by simpa using ht
      obtain ⟨j, u, v, hj, rfl, hu, he⟩ := h3.1 _ _ ha
      obtain ⟨j', u', v', hj', rfl, hu', he'⟩ := row_to r ks p.2 h4 j v he
      exact ⟨j', u ++ u', v', by omega, by simp, ⟨u, u', rfl, hu, hu'⟩, he'⟩
  | [], _ :: _, _, h, _, _, _ => h.elim
  | _ :: _, [], _, h, _, _, _ => h.elim
theorem row_from {M : List St} {fin : Nat} {T : List Nat} {E : Nat → List Nat} : (ps : List (Nat × Nat)) → (ks : List (List Int → Prop)) → (a : Nat) → RowH M fin T E a ps ks → ∀ j u v, seqL ks u → Ex M fin j T (rowEnd a ps) v → ∃ k, Ex M fin k (E a) a (u ++ v)
  | [], [], a, h, j, u, v, hu, he => by
    have h' : E a = T := h
    obtain rfl : u = [] := hu
    rw [h']
    exact ⟨j, he⟩
  | p :: r, c :: ks, a, h, j, u, v, hu, he => by
    obtain ⟨h1, h2, h3, h4⟩ := h
    obtain ⟨u1, u2, rfl, hu1, hu2⟩ := hu
    obtain ⟨k, hk⟩ := row_from r ks p.2 h4 j u2 v hu2 he
    obtain ⟨k', hk'⟩ := h3.2 k u1 (u2 ++ v) hu1 hk
    rw [h1, List.append_assoc]
    exact ⟨k', .inr ⟨p.1, by simp, hk'⟩⟩
  | [], _ :: _, _, h, _, _, _, _, _ => h.elim
  | _ :: _, [], _, h, _, _, _, _, _ => h.elim
theorem pok_row {M : List St} {fin n : Nat} {T : List Nat} {E : Nat → List Nat} {ps : List (Nat × Nat)} {ks : List (List Int → Prop)} (h1 : M[n]? = some ⟨false, [], E n⟩) (h : RowH M fin T E n ps ks) : POk M fin (seqL ks) (n, rowEnd n ps) T := by
  refine ⟨fun k w ha => ?_, fun j u v hu he => ?_⟩
  · obtain ⟨k', hk', he⟩ := acc_quiet h1 ha
    obtain ⟨j, u, v, hj, hw, hu, hx⟩ := row_to ps ks n h k' w he
    exact ⟨j, u, v, by omega, hw, hu, hx⟩
  · obtain ⟨k, hk⟩ := row_from ps ks n h j u v hu he
    exact ⟨k + 1, quiet_acc h1 hk⟩
theorem rowEs_from : (ps : List (Nat × Nat)) → (a : Nat) → ∀ e, e ∈ rowEs a ps → e.1 = a ∨ e.1 ∈ ps.map (fun p => p.2)
  | [], _, e, h => by simp [rowEs] at h
  | p :: r, a, e, h => by
    simp only [rowEs, List.mem_cons] at h
    rcases h with rfl | h
    · exact .inl rfl
    · rcases rowEs_from r p.2 e h with h | h
      · exact .inr (by simp [h])
      · exact .inr (by simp only [List.map_cons, List.mem_cons]; exact .inr h)
theorem rowEnd_mem : (ps : List (Nat × Nat)) → (a : Nat) → rowEnd a ps = a ∨ rowEnd a ps ∈ ps.map (fun p => p.2)
  | [], _ => .inl rfl
  | p :: r, a => by
    rcases rowEnd_mem r p.2 with h | h
    · exact .inr (by simp [rowEnd, h])
    · exact .inr (by simp only [rowEnd, List.map_cons, List.mem_cons]; exact .inr h)
theorem rowEnd_ne : (ps : List (Nat × Nat)) → (a : Nat) → (a :: ps.map (fun p => p.2)).Nodup → ps ≠ [] → rowEnd a ps ≠ a
  | [], _, _, h => absurd rfl h
  | p :: r, a, hd, _ => by
    intro h
    simp only [List.map_cons, List.nodup_cons] at hd
    rcases rowEnd_mem r p.2 with e | e
    · exact hd.1 (by rw [← h]; simp [rowEnd, e])
    · exact hd.1 (by rw [← h]; simp only [rowEnd, List.mem_cons]; exact .inr e)
theorem rowH_of {M : List St} {fin : Nat} {ext E : Nat → List Nat} : (ps : List (Nat × Nat)) → (ks : List (List Int → Prop)) → (a : Nat) → ks.length = ps.length → (a :: ps.map (fun p => p.2)).Nodup →
    (∀ i, i = a ∨ i ∈ ps.map (fun p => p.2) → E i = outs (rowEs a ps) i ++ ext i) → (∀ i, i = a ∨ i ∈ ps.map (fun p => p.2) → i ≠ rowEnd a ps → ext i = [] ∧ i ≠ fin) → (∀ i (hi : i < ps.length) (hk : i < ks.length), POk M fin ks[i] ps[i] (E ps[i].2)) → RowH M fin (ext (rowEnd a ps)) E a ps ks
  | [], [], a, _, _, hE, _, _ => by
    have := hE a (.inl rfl)
    show E a = ext a
    simpa [rowEs, outs] using this
  | p :: r, k :: ks, a, hl, hd, hE, hx, hp => by
    have hd2 := hd
    simp only [List.map_cons, List.nodup_cons, List.mem_cons, not_or] at hd
    have hn := rowEnd_ne (p :: r) a hd2 (by simp)
    obtain ⟨ha1, ha2⟩ := hx a (.inl rfl) (Ne.symm hn)
    have ho : outs (rowEs p.2 r) a = [] := outs_none _ _ (fun e he h => by
      rcases rowEs_from r p.2 e he with h1 | h1
      · exact hd.1.1 (by rw [← h, h1])
      · exact hd.1.2 (by rw [← h]; exact h1))
    refine ⟨?_, ha2, hp 0 (by simp) (by simp), ?_⟩
    · rw [hE a (.inl rfl), ha1]
      simp [rowEs, outs_cons, ho]
    · refine rowH_of (M := M) (fin := fin) (ext := ext) r ks p.2 (by simpa using hl) (by simp only [List.nodup_cons]; exact hd.2) (fun i hi => ?_) (fun i hi hne => ?_) (fun i hi hk => ?_)
      · have hi' : i ∈ (p :: r).map (fun p => p.2) := by
          simp only [List.map_cons, List.mem_cons]
          exact hi
        have hia : a ≠ i := fun h => by
          rcases hi with hi | hi
          · exact hd.1.1 (h.trans hi)
          · exact hd.1.2 (by rw [h]; exact hi)
        rw [hE i (.inr hi')]
        simp [rowEs, outs_cons, hia]
      · refine hx i (.inr ?_) hne
        simp only [List.map_cons, List.mem_cons]
        exact hi
      · have := hp (i + 1) (by simpa using hi) (by simpa using hk)
        simpa using this
  | [], _ :: _, _, hl, _, _, _, _ => by simp at hl
  | _ :: _, [], _, hl, _, _, _, _ => by simp at hl
theorem forkEs_from (f e : Nat) (ps : List (Nat × Nat)) : ∀ x, x ∈ forkEs f e ps → x.1 = f ∨ x.1 ∈ ps.map (fun p => p.2) := by
  intro x hx
  unfold forkEs at hx
  obtain ⟨p, hp, hx⟩ := List.mem_flatMap.1 hx
  simp at hx
  rcases hx with rfl | rfl
  · exact .inl rfl
  · exact .inr (List.mem_map.2 ⟨p, hp, rfl⟩)
theorem forkEs_first (f e : Nat) : (ps : List (Nat × Nat)) → f ∉ ps.map (fun p => p.2) → outs (forkEs f e ps) f = ps.map (fun p => p.1)
  | [], _ => rfl
  | p :: r, h => by
    simp only [List.map_cons, List.mem_cons, not_or] at h
    show outs ((f, p.1) :: (p.2, e) :: forkEs f e r) f = _
    rw [outs_cons, outs_cons, forkEs_first f e r h.2]
    simp [Ne.symm h.1]
theorem forkEs_last (f e : Nat) : (ps : List (Nat × Nat)) → (ps.map (fun p => p.2)).Nodup → f ∉ ps.map (fun p => p.2) → ∀ i (hi : i < ps.length), outs (forkEs f e ps) ps[i].2 = [e]
  | [], _, _, i, hi => by simp at hi
  | p :: r, hd, hf, i, hi => by
    simp only [List.map_cons, List.nodup_cons, List.mem_cons, not_or] at hd hf
    show outs ((f, p.1) :: (p.2, e) :: forkEs f e r) _ = _
    rw [outs_cons, outs_cons]
    cases i with
    | zero =>
      have h0 : outs (forkEs f e r) p.2 = [] := outs_none _ _ (fun x hx h => by
        rcases forkEs_from f e r x hx with h1 | h1
        · exact hf.1 (by rw [← h1, h])
        · exact hd.1 (by rw [← h]; exact h1))
      simp [hf.1, h0]
    | succ i =>
      have hir : i < r.length := by simpa using hi
      have hm : r[i].2 ∈ r.map (fun p => p.2) := List.mem_map.2 ⟨_, List.getElem_mem (by simpa using hi), rfl⟩
      have h1 : f ≠ r[i].2 := fun h => hf.2 (by rw [h]; exact hm)
      have h2 : p.2 ≠ r[i].2 := fun h => hd.1 (by rw [h]; exact hm)
      simp only [List.getElem_cons_succ]
      rw [forkEs_last f e r hd.2 hf.2 i (by simpa using hi)]
      simp [h1, h2]
end Go.Proofs.Ytjbhfonokgkalaa
