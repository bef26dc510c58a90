/- Mathematics of expressions that are turned round. -/
import Derived.Test.YtodaoelkljaflaaNfaP
namespace Go.Proofs.Ytodaoelkljaflaa
set_option linter.unusedVariables false
set_option linter.unusedSimpArgs false

def turnK {α : Type} (op : Int) (l : List α) : List α := if op = 2 then l.reverse else l
theorem turnK_len {α : Type} (op : Int) (l : List α) : (turnK op l).length = l.length := by unfold turnK; split <;> simp
theorem turnK_mem {α : Type} (op : Int) (l : List α) (x : α) : x ∈ turnK op l ↔ x ∈ l := by unfold turnK; split <;> simp
theorem turnK_map {α β : Type} (op : Int) (l : List α) (f : α → β) : (turnK op l).map f = turnK op (l.map f) := by unfold turnK; split <;> simp
def tuL : Fo → List Nd
  | .nil => []
  | .node _ _ a k r => ⟨a.1, a.2, ofL (turnK a.1 (tuL k))⟩ :: tuL r
/-- An expression, turned. -/
def Nd.rev (n : Nd) : Nd := ⟨n.op, n.cl, ofL (turnK n.op (tuL n.kids))⟩
theorem tuL_map : (f : Fo) → tuL f = (toL f).map Nd.rev
  | .nil => rfl
  | .node _ _ a k r => by simp only [tuL, toL, List.map_cons, tuL_map r]; rfl
theorem rev_kids (n : Nd) : toL n.rev.kids = turnK n.op ((toL n.kids).map Nd.rev) := by
  show toL (ofL (turnK n.op (tuL n.kids))) = _
  rw [toL_ofL, tuL_map]
theorem tuN_len (n : Nd) : (toL n.rev.kids).length = (toL n.kids).length := by rw [rev_kids, turnK_len, List.length_map]
theorem rev_okN : (d : Nat) → (n : Nd) → okN d n.rev = okN d n
  | 0, _ => rfl
  | d + 1, n => by
    show (rcB n.op (toL n.rev.kids).length && rclB n.op n.cl && (toL n.rev.kids).all (okN d)) = (rcB n.op (toL n.kids).length && rclB n.op n.cl && (toL n.kids).all (okN d))
    rw [tuN_len]
    congr 1
    rw [Bool.eq_iff_iff, List.all_eq_true, List.all_eq_true, rev_kids]
    constructor
    · intro h x hx
      rw [← rev_okN d x]
      exact h _ ((turnK_mem _ _ _).2 (List.mem_map_of_mem hx))
    · intro h y hy
      obtain ⟨x, hx, rfl⟩ := List.mem_map.1 ((turnK_mem _ _ _).1 hy)
      rw [rev_okN d x]
      exact h x hx
theorem cntL_turn (op : Int) (l : List Nd) : cntL (turnK op l) = cntL l := by
  unfold turnK cntL
  split
  · rw [List.map_reverse, List.sum_reverse]
  · rfl
theorem cntF_ofL (l : List Nd) : cntF (ofL l) = cntL l := by rw [cntF_sum, toL_ofL]; rfl
theorem tuL_cnt : (f : Fo) → cntL (tuL f) = cntF f
  | .nil => rfl
  | .node _ _ a k r => by
    have h1 := tuL_cnt k
    have h2 := tuL_cnt r
    show ((⟨a.1, a.2, ofL (turnK a.1 (tuL k))⟩ : Nd).cnt + cntL (tuL r)) = 1 + cntF k + cntF r
    rw [h2]
    show 1 + cntF (ofL (turnK a.1 (tuL k))) + cntF r = _
    rw [cntF_ofL, cntL_turn, h1]
theorem rev_cnt (n : Nd) : n.rev.cnt = n.cnt := by
  show 1 + cntF (ofL (turnK n.op (tuL n.kids))) = 1 + cntF n.kids
  rw [cntF_ofL, cntL_turn, tuL_cnt]
theorem rev_ok (n : Nd) : n.rev.ok = n.ok := by unfold Nd.ok; rw [rev_okN, rev_cnt]

/-! What it fits. -/
def turnP (k : List Int → Prop) : List Int → Prop := fun w => k w.reverse
theorem powL_end (k : List Int → Prop) : (n : Nat) → (w : List Int) → powL k (n + 1) w ↔ ∃ u v, w = u ++ v ∧ powL k n u ∧ k v
  | 0, w => by
    constructor
    · rintro ⟨u, v, rfl, hu, hv⟩
      have hv' : v = [] := hv
      subst hv'
      exact ⟨[], u, by simp, rfl, hu⟩
    · rintro ⟨u, v, rfl, hu, hv⟩
      have hu' : u = [] := hu
      subst hu'
      exact ⟨v, [], by simp, hv, rfl⟩
  | n + 1, w => by
    constructor
    · rintro ⟨u, v, rfl, hu, hv⟩
      obtain ⟨p, q, rfl, hp, hq⟩ := (powL_end k n v).1 hv
      exact ⟨u ++ p, q, by simp, ⟨u, p, rfl, hu, hp⟩, hq⟩
    · rintro ⟨u, v, rfl, ⟨p, q, rfl, hp, hq⟩, hv⟩
      exact ⟨p, q ++ v, by simp, hp, (powL_end k n (q ++ v)).2 ⟨q, v, rfl, hq, hv⟩⟩
theorem powL_turn (k : List Int → Prop) : (n : Nat) → (w : List Int) → powL (turnP k) n w ↔ powL k n w.reverse
  | 0, w => by simp [powL]
  | n + 1, w => by
    rw [powL_end k n w.reverse]
    constructor
    · rintro ⟨u, v, rfl, hu, hv⟩
      exact ⟨v.reverse, u.reverse, by simp, (powL_turn k n v).1 hv, hu⟩
    · rintro ⟨u, v, hw, hu, hv⟩
      refine ⟨v.reverse, u.reverse, ?_, ?_, (powL_turn k n u.reverse).2 (by simpa using hu)⟩
      · have := congrArg List.reverse hw
        simpa using this
      · show k v.reverse.reverse
        simpa using hv
theorem seqL_snoc (k : List Int → Prop) : (ks : List (List Int → Prop)) → (w : List Int) → seqL (ks ++ [k]) w ↔ ∃ u v, w = u ++ v ∧ seqL ks u ∧ k v
  | [], w => by
    constructor
    · rintro ⟨u, v, rfl, hu, hv⟩
      have hv' : v = [] := hv
      subst hv'
      exact ⟨[], u, by simp, rfl, hu⟩
    · rintro ⟨u, v, rfl, hu, hv⟩
      have hu' : u = [] := hu
      subst hu'
      exact ⟨v, [], by simp, hv, rfl⟩
  | x :: r, w => by
    constructor
    · rintro ⟨u, v, rfl, hu, hv⟩
      obtain ⟨p, q, rfl, hp, hq⟩ := (seqL_snoc k r v).1 hv
      exact ⟨u ++ p, q, by simp, ⟨u, p, rfl, hu, hp⟩, hq⟩
    · rintro ⟨u, v, rfl, ⟨p, q, rfl, hp, hq⟩, hv⟩
      exact ⟨p, q ++ v, by simp, hp, (seqL_snoc k r (q ++ v)).2 ⟨q, v, rfl, hq, hv⟩⟩
theorem seqL_turn : (ks : List (List Int → Prop)) → (w : List Int) → seqL (ks.map turnP).reverse w ↔ seqL ks w.reverse
  | [], w => by simp [seqL]
  | k :: r, w => by
    rw [List.map_cons, List.reverse_cons, seqL_snoc]
    constructor
    · rintro ⟨u, v, rfl, hu, hv⟩
      exact ⟨v.reverse, u.reverse, by simp, hv, (seqL_turn r u).1 hu⟩
    · rintro ⟨u, v, hw, hu, hv⟩
      refine ⟨v.reverse, u.reverse, ?_, (seqL_turn r v.reverse).2 (by simpa using hv), ?_⟩
      · have := congrArg List.reverse hw
        simpa using this
      · show k u.reverse.reverse
        simpa using hu
theorem nodeL_turn (op : Int) (cl : List Int) (ks : List (List Int → Prop)) (h : op = 0 → ks = []) (h0 : 0 ≤ op) (h5 : op ≤ 5) (hk : op = 4 ∨ op = 5 → ks.length = 1) (w : List Int) : nodeL op cl (turnK op (ks.map turnP)) w ↔ nodeL op cl ks w.reverse := by
  rcases (by omega : op = 0 ∨ op = 1 ∨ op = 2 ∨ op = 3 ∨ op = 4 ∨ op = 5) with rfl | rfl | rfl | rfl | rfl | rfl
  · rw [h rfl]
    simp [nodeL, turnK, seqL]
  · simp only [nodeL, if_pos]
    constructor
    · rintro ⟨c, hc, rfl⟩; exact ⟨c, hc, by simp⟩
    · rintro ⟨c, hc, hw⟩
      refine ⟨c, hc, ?_⟩
      have := congrArg List.reverse hw
      simpa using this
  · have := seqL_turn ks w
    simpa [nodeL, turnK] using this
  · show altL (ks.map turnP) w ↔ altL ks w.reverse
    constructor
    · rintro ⟨k, hk', hw⟩
      obtain ⟨x, hx, rfl⟩ := List.mem_map.1 hk'
      exact ⟨x, hx, hw⟩
    · rintro ⟨k, hk', hw⟩
      exact ⟨turnP k, List.mem_map_of_mem hk', hw⟩
  · obtain ⟨k, rfl⟩ := one_of (hk (.inl rfl))
    show (∃ n, powL (turnP k) n w) ↔ ∃ n, powL k n w.reverse
    exact ⟨fun ⟨n, hn⟩ => ⟨n, (powL_turn k n w).1 hn⟩, fun ⟨n, hn⟩ => ⟨n, (powL_turn k n w).2 hn⟩⟩
  · obtain ⟨k, rfl⟩ := one_of (hk (.inr rfl))
    show (w = [] ∨ turnP k w) ↔ (w.reverse = [] ∨ k w.reverse)
    rw [List.reverse_eq_nil_iff]
    rfl
theorem okN_op (d : Nat) (n : Nd) (h : okN d n = true) : 0 ≤ n.op ∧ n.op ≤ 5 ∧ (n.op = 0 → (toL n.kids).length = 0) ∧ (n.op = 4 ∨ n.op = 5 → (toL n.kids).length = 1) ∧ n.cl.length ≤ 24 := by
  cases d with
  | zero => simp [okN] at h
  | succ d =>
    simp only [okN, Bool.and_eq_true] at h
    obtain ⟨⟨h1, h2⟩, _⟩ := h
    unfold rcB at h1
    have hc : n.cl.length ≤ 24 := by
      unfold rclB at h2
      split at h2
      · have := risB_len n.cl (-1) (by omega) h2
        omega
      · simp at h2; simp [h2]
    split at h1
    · simp at h1; exact ⟨by omega, by omega, fun _ => by simpa using h1, by omega, hc⟩
    · split at h1
      · exact ⟨by omega, by omega, by omega, by omega, hc⟩
      · split at h1
        · simp at h1; exact ⟨by omega, by omega, by omega, fun _ => by simpa using h1, hc⟩
        · cases h1
theorem rev_fits : (d : Nat) → (n : Nd) → okN d n = true → ∀ w, n.rev.fits w ↔ n.fits w.reverse
  | 0, _, h => by simp [okN] at h
  | d + 1, n, h => by
    obtain ⟨a1, a2, a3, a4, _⟩ := okN_op _ n h
    have hall : ∀ x ∈ toL n.kids, okN d x = true := by
      simp only [okN, Bool.and_eq_true, List.all_eq_true] at h
      exact h.2
    intro w
    have e1 : fitF n.rev.kids = turnK n.op ((fitF n.kids).map turnP) := by
      rw [fitF_map, rev_kids, turnK_map, List.map_map, fitF_map, List.map_map]
      congr 1
      apply List.map_congr_left
      intro x hx
      funext v
      exact propext (rev_fits d x (hall x hx) v)
    show nodeL n.op n.cl (fitF n.rev.kids) w ↔ nodeL n.op n.cl (fitF n.kids) w.reverse
    rw [e1]
    refine nodeL_turn n.op n.cl (fitF n.kids) (fun h0 => ?_) a1 a2 (fun h4 => ?_) w
    · rw [fitF_map, List.eq_nil_of_length_eq_zero (a3 h0)]; rfl
    · rw [fitF_map, List.length_map]; exact a4 h4
/-- How many words a copy takes. -/
def wdsF : Fo → Nat
  | .nil => 0
  | .node _ _ a k r => 7 + a.2.length + wdsF k + wdsF r
def Nd.wds (n : Nd) : Nat := 7 + n.cl.length + wdsF n.kids
def wdsL (l : List Nd) : Nat := (l.map Nd.wds).sum
theorem wdsF_sum : (f : Fo) → wdsF f = wdsL (toL f)
  | .nil => rfl
  | .node _ _ a k r => by
    have ih := wdsF_sum r
    simp only [wdsF, wdsL, toL, List.map_cons, List.sum_cons] at ih ⊢
    rw [ih]
    rfl
theorem wds_eq (n : Nd) : n.wds = 7 + n.cl.length + wdsL (toL n.kids) := by unfold Nd.wds; rw [wdsF_sum]
theorem wdsL_snoc (l : List Nd) (x : Nd) : wdsL (l ++ [x]) = wdsL l + x.wds := by simp [wdsL]
theorem wdsL_take (l : List Nd) (k : Nat) (hk : k < l.length) : wdsL (l.take k) + l[k].wds ≤ wdsL l := by
  have h : wdsL l = wdsL (l.take (k + 1)) + wdsL (l.drop (k + 1)) := by
    unfold wdsL
    rw [← List.sum_append, ← List.map_append, List.take_append_drop]
  rw [h, take_snoc l k hk, wdsL_snoc]
  omega
theorem wds_le : (d : Nat) → (n : Nd) → okN d n = true → n.wds ≤ 31 * n.cnt
  | 0, _, h => by simp [okN] at h
  | d + 1, n, h => by
    obtain ⟨_, _, _, _, hc⟩ := okN_op _ n h
    have hall : ∀ x ∈ toL n.kids, okN d x = true := by
      simp only [okN, Bool.and_eq_true, List.all_eq_true] at h
      exact h.2
    have key : ∀ l : List Nd, (∀ x ∈ l, okN d x = true) → wdsL l ≤ 31 * cntL l := by
      intro l
      induction l with
      | nil => intro _; simp [wdsL, cntL]
      | cons x r ih =>
        intro hl
        have h1 := wds_le d x (hl x (by simp))
        have h2 := ih (fun y hy => hl y (by simp [hy]))
        simp only [wdsL, cntL, List.map_cons, List.sum_cons] at h2 ⊢
        omega
    have := key _ hall
    rw [wds_eq, cnt_eq]
    omega
end Go.Proofs.Ytodaoelkljaflaa
