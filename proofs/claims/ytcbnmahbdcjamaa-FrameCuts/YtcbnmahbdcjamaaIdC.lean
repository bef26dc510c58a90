/- Rows of entries in memory; the walks of the library's comparing of numbers and search by halves over entries; find, Seq. -/
import Derived.Test.YtcbnmahbdcjamaaIdB
import Derived.Test.YtcbnmahbdcjamaaIdM
namespace Go.Proofs.Ytcbnmahbdcjamaa
open Go.RowKit Go.Sort
set_option linter.unusedVariables false

/-- The cells of an entry. -/
def encE (x : Int × Int) : List Value := [.int .i64 x.1, .int .i64 x.2]
theorem encE_len (x : Int × Int) : (encE x).length = 2 := rfl
/-- The cells of entries, one behind the other. -/
def flatE (rs : List (Int × Int)) : List Value := rs.flatMap encE
theorem flatE_len : (rs : List (Int × Int)) → (flatE rs).length = 2 * rs.length
  | [] => rfl
  | x :: r => by
    have e : flatE (x :: r) = encE x ++ flatE r := by simp [flatE]
    rw [e, List.length_append, flatE_len r, encE_len, List.length_cons]
    omega
theorem flatE_at : (rs : List (Int × Int)) → (i : Nat) → i < rs.length → ∀ j, j < 2 → (flatE rs)[2 * i + j]? = (encE (rs.getD i (0, 0)))[j]?
  | [], i, h, _, _ => by simp at h
  | x :: r, 0, _, j, hj => by
    have e : flatE (x :: r) = encE x ++ flatE r := by simp [flatE]
    rw [e, List.getElem?_append_left (by rw [encE_len]; omega)]
    simp
  | x :: r, i + 1, h, j, hj => by
    have e : flatE (x :: r) = encE x ++ flatE r := by simp [flatE]
    rw [e, List.getElem?_append_right (by rw [encE_len]; omega), encE_len, show 2 * (i + 1) + j - 2 = 2 * i + j by omega, flatE_at r i (by simpa using h) j hj]
    simp
/-- A slice of entries that reads as these. -/
def RdE (w : World) (a : Option Addr) (len : Nat) (rs : List (Int × Int)) : Prop :=
  rs.length = len ∧ (0 < len → ∃ b off, a = some ⟨b, off, none⟩ ∧ ∀ j v, (flatE rs)[j]? = some v → w.cell? ⟨b, off + j, none⟩ = some v)
theorem RdE.later {w w' : World} {a : Option Addr} {len : Nat} {rs : List (Int × Int)} (h : RdE w a len rs) (hb : Below w.heap.size w w') : RdE w' a len rs := by
  refine ⟨h.1, fun hp => ?_⟩
  obtain ⟨b, off, ha, hc⟩ := h.2 hp
  refine ⟨b, off, ha, fun j v hv => ?_⟩
  exact (hb.cell (p := ⟨b, off + j, none⟩) (World.block_lt_of_cell? w _ (hc j v hv))).trans (hc j v hv)
theorem RdE.gw {w w' : World} {a : Option Addr} {len : Nat} {rs : List (Int × Int)} (h : RdE w a len rs) (hb : Gw w w') : RdE w' a len rs := h.later hb.below
theorem RdE.at {w : World} {a : Option Addr} {len : Nat} {rs : List (Int × Int)} (h : RdE w a len rs) (i : Nat) (hi : i < len) : ∃ b off, a = some ⟨b, off, none⟩ ∧
    w.cell? ⟨b, off + i * 2, none⟩ = some (.int .i64 (rs.getD i (0, 0)).1) ∧ w.cell? ⟨b, off + i * 2 + 1, none⟩ = some (.int .i64 (rs.getD i (0, 0)).2) := by
  obtain ⟨b, off, ha, hc⟩ := h.2 (by omega)
  have hi' : i < rs.length := by rw [h.1]; exact hi
  refine ⟨b, off, ha, ?_, ?_⟩
  · have := hc (2 * i + 0) _ (flatE_at rs i hi' 0 (by omega))
    rw [show off + i * 2 = off + (2 * i + 0) by omega]; exact this
  · have := hc (2 * i + 1) _ (flatE_at rs i hi' 1 (by omega))
    rw [show off + i * 2 + 1 = off + (2 * i + 1) by omega]; exact this
theorem rdE_nil (w : World) : RdE w none 0 [] := ⟨rfl, fun h => absurd h (by omega)⟩

/-- Compare of numbers. -/
def cmI (p q : Int) : Int := if p < q then -1 else if q < p then 1 else 0
theorem compare_any (p q : Int) (w : World) : Calls Try.prog 160 #[.int .i64 p, .int .i64 q] w fun e w' => e = .returned (.int .i64 (cmI p q)) ∧ w' = w := by
  have hR : cmI p q = if p < q then -1 else if q < p then 1 else 0 := rfl
  generalize cmI p q = R at hR ⊢
  by_cases h1 : p < q
  · rw [if_pos h1] at hR
    subst hR
    go_enter Try.func160, Try.ntmps160
    go_wp2
    go_ret
    exact ⟨rfl, rfl⟩
  · rw [if_neg h1] at hR
    by_cases h2 : q < p
    · rw [if_pos h2] at hR
      subst hR
      go_enter Try.func160, Try.ntmps160
      go_wp2
      go_ret
      exact ⟨rfl, rfl⟩
    · rw [if_neg h2] at hR
      subst hR
      go_enter Try.func160, Try.ntmps160
      go_wp2
      go_ret
      exact ⟨rfl, rfl⟩
/-- Where the search stands: all ahead of i are less, none from j on is. -/
def BsE (v : List (Int × Int)) (a : Int) (i j : Nat) : Prop := (∀ k, k < i → (v.getD k (0, 0)).1 < a) ∧ ∀ k, j ≤ k → k < v.length → ¬ (v.getD k (0, 0)).1 < a
theorem ascE_lt : (v : List (Int × Int)) → AscE v → ∀ i j, i < j → j < v.length → (v.getD i (0, 0)).1 < (v.getD j (0, 0)).1
  | [], _, i, j, _, h => by simp at h
  | x :: r, h, i, 0, hij, _ => by omega
  | x :: r, h, 0, j + 1, _, hj => by
    have := h.1 (r.getD j (0, 0)) (by simp at hj; simp [hj])
    simpa using this
  | x :: r, h, i + 1, j + 1, hij, hj => by simpa using ascE_lt r h.2 i j (by omega) (by simpa using hj)
theorem bsE_up (v : List (Int × Int)) (a : Int) (i j h : Nat) (ha : AscE v) (hb : BsE v a i j) (hh : h < v.length) (hl : (v.getD h (0, 0)).1 < a) : BsE v a (h + 1) j := by
  refine ⟨fun k hk => ?_, hb.2⟩
  rcases Nat.lt_or_ge k h with h1 | h1
  · have := ascE_lt v ha k h h1 hh
    omega
  · rw [show k = h by omega]; exact hl
theorem bsE_down (v : List (Int × Int)) (a : Int) (i j h : Nat) (ha : AscE v) (hb : BsE v a i j) (hh : h < v.length) (hl : ¬ (v.getD h (0, 0)).1 < a) : BsE v a i h := by
  refine ⟨hb.1, fun k hk hk2 => ?_⟩
  rcases Nat.lt_or_ge h k with h1 | h1
  · have := ascE_lt v ha h k h1 hk2
    omega
  · rw [show k = h by omega]; exact hl
/-- Whether what the search came to is it. -/
def fnE (v : List (Int × Int)) (a : Int) (i : Nat) : Bool := decide (i < v.length) && decide ((v.getD i (0, 0)).1 = a)
theorem fnE_sq (v : List (Int × Int)) (a : Int) (i : Nat) (hA : AscE v) (hb : BsE v a i i) : (fnE v a i = true → i < v.length ∧ (v.getD i (0, 0)).1 = a ∧ sqL v a = (v.getD i (0, 0)).2) ∧ (fnE v a i = false → (∀ k, k < i → (v.getD k (0, 0)).1 < a) ∧ (∀ k, i ≤ k → k < v.length → a < (v.getD k (0, 0)).1) ∧ sqL v a = 0) := by
  unfold fnE
  constructor
  · intro h
    simp only [Bool.and_eq_true, decide_eq_true_eq] at h
    refine ⟨h.1, h.2, ?_⟩
    rw [← h.2]
    exact sq_mem v hA _ (by simp [h.1])
  · intro h
    have h2 : ∀ k, i ≤ k → k < v.length → a < (v.getD k (0, 0)).1 := by
      intro k hk hl
      have h3 := hb.2 k hk hl
      rcases Nat.lt_or_ge i k with h4 | h4
      · have := ascE_lt v hA i k h4 hl
        have := hb.2 i (Nat.le_refl _) (by omega)
        omega
      · obtain rfl : k = i := by omega
        have h5 : ¬ (v.getD k (0, 0)).1 = a := by
          intro h6
          rw [decide_eq_true hl, decide_eq_true h6] at h
          cases h
        omega
    refine ⟨hb.1, h2, sq_none v a ?_⟩
    intro y hy
    obtain ⟨k, hk, rfl⟩ := List.mem_iff_getElem.1 hy
    have e : v.getD k (0, 0) = v[k] := by simp [hk]
    rw [← e]
    rcases Nat.lt_or_ge k i with hl | hl
    · have := hb.1 k hl; omega
    · have := h2 k hl hk; omega

end Go.Proofs.Ytcbnmahbdcjamaa
