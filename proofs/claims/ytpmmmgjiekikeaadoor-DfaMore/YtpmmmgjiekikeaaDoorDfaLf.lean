/- Rows of expressions copied and continued; one more that tells nothing new. -/
import Derived.Test.YtpmmmgjiekikeaaDoorDfaLe
namespace Go.Proofs.YtpmmmgjiekikeaaDoor
open Go.RowKit
set_option linter.unusedVariables false
set_option linter.unusedSimpArgs false

/-- Each cell of expressions is one cell. -/
theorem FlX.one {B : Nat} {w : World} {D : Nat} {xs : List (Nd × Bool)} {fl : List Value} (h : FlX B w D xs fl) : ∀ u, u ∈ fl → u.oneCell' = true := by
  intro u hu
  obtain ⟨p, hp, rfl⟩ := List.getElem_of_mem hu
  have hl := h.1
  have hq : p / 4 < xs.length := by omega
  obtain ⟨us, h1, h2, h3⟩ := h.2 (p / 4) hq
  obtain ⟨ca, cc, pa, pc, rfl⟩ := h1.three
  have hm : p % 4 = 0 ∨ p % 4 = 1 ∨ p % 4 = 2 ∨ p % 4 = 3 := by omega
  have hpe : p = p / 4 * 4 + p % 4 := by omega
  have key : ∀ v, fl[p / 4 * 4 + p % 4]? = some v → fl[p] = v := fun v hv => by
    rw [← hpe, List.getElem?_eq_getElem hp] at hv
    exact Option.some.inj hv
  rcases hm with e | e | e | e
  · rw [key _ (by rw [e]; exact h2 0 _ rfl)]; rfl
  · rw [key _ (by rw [e]; exact h2 1 _ rfl)]; rfl
  · rw [key _ (by rw [e]; exact h2 2 _ rfl)]; rfl
  · rw [key _ (by rw [e]; exact h3)]; rfl
theorem own_at {w : World} {B : Nat} {e : TypeId} {size n : Nat} {v : Value} {xs : List Value} (h : w.ownsRow B e size v n xs) (hn : 0 < n) : ∃ g cap, v = .slice (some ⟨g, 0, none⟩) n cap ∧ ∀ j u, xs[j]? = some u → w.cell? ((⟨g, 0, none⟩ : Addr).add j) = some u := by
  rcases h.2 with ⟨_, h0⟩ | ⟨g, cap, cur, hv, hb, hg, hnc, hm, hs, ht⟩
  · omega
  · refine ⟨g, cap, hv, fun j u hu => ?_⟩
    have hadd : (⟨g, 0, none⟩ : Addr).add j = ⟨g, j, none⟩ := by unfold Addr.add; split <;> simp_all
    rw [hadd, cell_of_row w g j _ _ _ hg]
    rw [← ht, List.getElem?_take] at hu
    split at hu
    · simpa using hu
    · cases hu
/-- A row of one's own behind another one. -/
theorem wpList_append_row {P : Program} {w : World} {ops : Array Oper} {rest : List Oper} {o : Oper} {a : Act} {Q : Exit → Act → World → Prop} (hgd : o.guard = none) (s x : Operand) (t : TypeId)
    (ho : o.op = .call { callee := .builtin .append, args := #[s, x], argTypes := #[t, t] })
    (base : Nat) (e : TypeId) (i : TypeInfo) (z : Value) (size bytes : Nat) (ht : P.underlying t = some (.slice e)) (hi : P.info? e = some i) (hz : i.zero = some z)
    (hsize : i.size = size) (hby : i.bytes = bytes) (hzs : z.cells.size = size) (hsz : 0 < size)
    (v : Value) (n : Nat) (xs : List Value) (hs : a.eval s = v) (hown : w.ownsRow base e size v n xs)
    (B1 : Nat) (u : Value) (m : Nat) (news : List Value) (hx : a.eval x = u) (hsrc : w.ownsRow B1 e size u m news) (h1 : ∀ y, y ∈ news → y.oneCell' = true)
    (h63 : n + m ≤ maxLen) (hbytes : (n + m) * bytes ≤ 140737488355328) (hbase : base ≤ w.heap.size)
    (h : ∀ v' w', w'.ownsRow base e size v' (n + m) (xs ++ news) → w.grownBy w' v.ownBlock → wpList P ops Q rest (a.put o.dst v') w') : wpList P ops Q (o :: rest) a w := by
  rcases hsrc.2 with ⟨hu, hm⟩ | ⟨g, cap, cur, hu, hb, hg, hnc, hm, hss, htk⟩
  · subst hm
    have hn : news = [] := by have := hsrc.1; cases news with
      | nil => rfl
      | cons _ _ => simp at this
    subst hn
    rw [hu] at hx
    exact wpList_append_own_none hgd s x t ho base e i size ht hi v n xs hs hown hx (h v w (by simpa using hown) ⟨rfl, rfl, rfl, Nat.le_refl _, fun _ _ _ => rfl⟩)
  · rw [hu] at hx
    refine wpList_append_own w hgd s x t ho base e i z size bytes ht hi hz hsize hby hzs hsz v n xs hs hown ⟨g, 0, none⟩ m cap news hx hsrc.1 (fun j u hu => ?_) h1 h63 hbytes hbase (fun v' w' q1 q2 _ => h v' w' q1 q2)
    have hadd : (⟨g, 0, none⟩ : Addr).add j = ⟨g, j, none⟩ := by unfold Addr.add; split <;> simp_all
    rw [hadd, cell_of_row w g j _ _ _ hg]
    rw [← htk, List.getElem?_take] at hu
    split at hu
    · simpa using hu
    · cases hu
theorem own_empty (w : World) (e : TypeId) (size : Nat) : (w.alloc (.cells #[] e)).ownsRow w.heap.size e size (.slice (some ⟨w.heap.size, 0, none⟩) 0 0) 0 [] :=
  ⟨by simp, .inr ⟨w.heap.size, 0, #[], rfl, Nat.le_refl _, heap_alloc_new w _, Nat.le_refl _, by unfold maxLen; omega, by simp, by simp⟩⟩
/-! One more that tells nothing new: the last one once more. -/
/-- A set with its last bit told twice. -/
def twB (n o : Nat) : Nat := o ||| ((o / 2 ^ (n - 1) % 2) * 2 ^ n)
theorem bit_of (b : Bool) (j : Nat) : (if b = true then 1 else 0 : Nat).testBit j = (b && decide (j = 0)) := by
  cases b with
  | false => simp
  | true =>
    cases j with
    | zero => rfl
    | succ j => simp [Nat.testBit_succ]
theorem twB_bit {n o : Nat} (hn : 0 < n) (ho : o < 2 ^ n) (i : Nat) : (twB n o).testBit i = if i < n then o.testBit i else decide (i = n) && o.testBit (n - 1) := by
  unfold twB
  rw [Nat.testBit_or, bit_mod, Nat.testBit_mul_two_pow, bit_of]
  rcases Nat.lt_or_ge i n with hi | hi
  · have h1 : decide (n ≤ i) = false := by rw [decide_eq_false_iff_not]; omega
    rw [h1, Bool.false_and, Bool.or_false, if_pos hi]
  · have h1 : o.testBit i = false := Nat.testBit_lt_two_pow (Nat.lt_of_lt_of_le ho (Nat.pow_le_pow_right (by decide) hi))
    have h2 : decide (n ≤ i) = true := by rw [decide_eq_true_eq]; exact hi
    have h3 : decide (i - n = 0) = decide (i = n) := by
      rw [decide_eq_decide]; omega
    rw [h1, h2, h3, Bool.false_or, Bool.true_and, if_neg (by omega), Bool.and_comm]
theorem least_small {K : Nat} {xs : List (Nd × Bool)} {nx : List (List Nat)} {ou : List Nat} (h : LeastOf K xs nx ou) : ∀ o, o ∈ ou → o < 2 ^ xs.length := by
  intro o ho
  obtain ⟨p, hp, rfl⟩ := List.getElem_of_mem ho
  obtain ⟨w, hw, he⟩ := table_met h.asMet h.wide p (by rw [← h.len]; exact hp)
  apply Nat.lt_pow_two_of_testBit
  intro i hi
  rw [← Bool.not_eq_true]
  intro hb
  have h2 := h.tells w hw i
  rw [he, List.getD_eq_getElem?_getD, List.getElem?_eq_getElem hp] at h2
  obtain ⟨x, hx, _⟩ := h2.1 hb
  have := (List.getElem?_eq_some_iff.1 hx).1
  omega
theorem getD_map {f : Nat → Nat} (hf : f 0 = 0) (l : List Nat) (i : Nat) : (l.map f).getD i 0 = f (l.getD i 0) := by
  rw [List.getD_eq_getElem?_getD, List.getD_eq_getElem?_getD, List.getElem?_map]
  cases l[i]? <;> simp [hf]
theorem twB_zero (n : Nat) : twB n 0 = 0 := by simp [twB]
/-- With the last one once more, the machine has the same ways. -/
theorem least_again {K : Nat} {xs : List (Nd × Bool)} {x : Nd × Bool} (hx : xs[xs.length - 1]? = some x) {nx : List (List Nat)} {ou : List Nat} (h : LeastOf K xs nx ou) : LeastOf K (xs ++ [x]) nx (ou.map (twB xs.length)) := by
  have hn : 0 < xs.length := by have := (List.getElem?_eq_some_iff.1 hx).1; omega
  have hsm := least_small h
  have hbit : ∀ s i, ((ou.map (twB xs.length)).getD s 0).testBit i = if i < xs.length then (ou.getD s 0).testBit i else decide (i = xs.length) && (ou.getD s 0).testBit (xs.length - 1) := by
    intro s i
    rw [getD_map (twB_zero _)]
    refine twB_bit hn ?_ i
    rcases Nat.lt_or_ge s ou.length with hs | hs
    · rw [List.getD_eq_getElem?_getD, List.getElem?_eq_getElem hs]
      exact hsm _ (List.getElem_mem hs)
    · rw [List.getD_eq_getElem?_getD, List.getElem?_eq_none hs]
      exact Nat.two_pow_pos _
  refine ⟨h.asMet, h.wide, fun i j hi hj he => h.apart i j hi hj fun w hw => ?_, by simp [h.len], fun w hw i => ?_⟩
  · have e := he w hw
    apply Nat.eq_of_testBit_eq
    intro p
    rcases Nat.lt_or_ge p xs.length with hp | hp
    · have h1 := hbit (runM nx i w) p
      have h2 := hbit (runM nx j w) p
      rw [if_pos hp] at h1 h2
      rw [← h1, ← h2, e]
    · have hlt : ∀ s, ou.getD s 0 < 2 ^ xs.length := fun s => by
        rcases Nat.lt_or_ge s ou.length with hs | hs
        · rw [List.getD_eq_getElem?_getD, List.getElem?_eq_getElem hs]; exact hsm _ (List.getElem_mem hs)
        · rw [List.getD_eq_getElem?_getD, List.getElem?_eq_none hs]; exact Nat.two_pow_pos _
      rw [Nat.testBit_lt_two_pow (Nat.lt_of_lt_of_le (hlt _) (Nat.pow_le_pow_right (by decide) hp)), Nat.testBit_lt_two_pow (Nat.lt_of_lt_of_le (hlt _) (Nat.pow_le_pow_right (by decide) hp))]
  · rw [hbit]
    show _ ↔ outC (xs ++ [x]) w i
    rw [outC_app]
    rcases Nat.lt_or_ge i xs.length with hi | hi
    · rw [if_pos hi]
      refine (h.tells w hw i).trans ⟨fun g => .inl ⟨hi, g⟩, ?_⟩
      rintro (⟨_, g⟩ | ⟨g, _⟩)
      · exact g
      · omega
    · rw [if_neg (by omega), Bool.and_eq_true, decide_eq_true_eq]
      constructor
      · rintro ⟨rfl, g⟩
        refine .inr ⟨Nat.le_refl _, ?_⟩
        have g2 := (h.tells w hw (xs.length - 1)).1 g
        obtain ⟨y, hy, r⟩ := g2
        obtain rfl : x = y := Option.some.inj (hx.symm.trans hy)
        exact ⟨x, by simp, r⟩
      · rintro (⟨g, _⟩ | ⟨_, g⟩)
        · omega
        · have := outC_lt g
          simp at this
          obtain rfl : i = xs.length := by omega
          refine ⟨rfl, (h.tells w hw (xs.length - 1)).2 ?_⟩
          obtain ⟨y, hy, r⟩ := g
          simp at hy
          subst hy
          exact ⟨x, hx, r⟩
/-- One that never fits, and the last one once more, may be. -/
theorem alw_app {K : Int} {xs : List (Nd × Bool)} {x : Nd × Bool} (h : alwB K xs = true) (h8 : xs.length ≤ 8) (hx : x.1.ok = true) (hb : x.1.bel K = true) : alwB K (xs ++ [x]) = true := by
  simp only [alwB, Bool.and_eq_true, decide_eq_true_eq, List.all_eq_true] at h ⊢
  obtain ⟨⟨⟨h1, h2⟩, h3⟩, h4⟩ := h
  refine ⟨⟨⟨h1, h2⟩, by simp; omega⟩, fun y hy => ?_⟩
  rcases List.mem_append.1 hy with hy | hy
  · exact h4 y hy
  · rw [List.mem_singleton.1 hy]; exact ⟨hx, hb⟩
theorem nv_ok : nvX.1.ok = true := by decide
theorem nv_bel (K : Int) : nvX.1.bel K = true := rfl
end Go.Proofs.YtpmmmgjiekikeaaDoor
