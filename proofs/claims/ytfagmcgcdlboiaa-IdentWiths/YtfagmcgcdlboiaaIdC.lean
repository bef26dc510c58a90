/- Rows of entries in memory; the walks of the library's comparing of numbers and search by halves over entries; find, Seq. -/
import Derived.Test.YtfagmcgcdlboiaaIdB
import Derived.Test.YtfagmcgcdlboiaaIdM
namespace Go.Proofs.Ytfagmcgcdlboiaa
open Go.RowKit Go.Sort
set_option linter.unusedVariables false

/-- The cells of an entry. -/
def encE (x : Int × Int) : List Value := [.int .i64 x.1, .int .i64 x.2]
theorem encE_len (x : Int × Int) : (encE x).length = 2 := rfl
/-- The cells of entries, one behind the other. -/
def flatE (rs : List (Int × Int)) : List Value := rs.flatMap encE
theorem flatE_len : (rs : List (Int × Int)) → (flatE rs).length = 2 * rs.length
  | [] => rfl
  | x :: r => by
    have e : flatE (x :: r) = encE x ++ flatE r := by simp [flatE]
    rw [e, List.length_append, flatE_len r, encE_len, List.length_cons]
    omega
theorem flatE_at : (rs : List (Int × Int)) → (i : Nat) → i < rs.length → ∀ j, j < 2 → (flatE rs)[2 * i + j]? = (encE (rs.getD i (0, 0)))[j]?
  | [], i, h, _, _ => by simp at h
  | x :: r, 0, _, j, hj => by
    have e : flatE (x :: r) = encE x ++ flatE r := by simp [flatE]
    rw [e, List.getElem?_append_left (by rw [encE_len]; omega)]
    simp
  | x :: r, i + 1, h, j, hj => by
    have e : flatE (x :: r) = encE x ++ flatE r := by simp [flatE]
    rw [e, List.getElem?_append_right (by rw [encE_len]; omega), encE_len, show 2 * (i + 1) + j - 2 = 2 * i + j by omega, flatE_at r i (by simpa using h) j hj]
    simp
/-- A slice of entries that reads as these. -/
def RdE (w : World) (a : Option Addr) (len : Nat) (rs : List (Int × Int)) : Prop :=
  rs.length = len ∧ (0 < len → ∃ b off, a = some ⟨b, off, none⟩ ∧ ∀ j v, (flatE rs)[j]? = some v → w.cell? ⟨b, off + j, none⟩ = some v)
theorem RdE.later {w w' : World} {a : Option Addr} {len : Nat} {rs : List (Int × Int)} (h : RdE w a len rs) (hb : Below w.heap.size w w') : RdE w' a len rs := by
  refine ⟨h.1, fun hp => ?_⟩
  obtain ⟨b, off, ha, hc⟩ := h.2 hp
  refine ⟨b, off, ha, fun j v hv => ?_⟩
  exact (hb.cell (p := ⟨b, off + j, none⟩) (World.block_lt_of_cell? w _ (hc j v hv))).trans (hc j v hv)
theorem RdE.gw {w w' : World} {a : Option Addr} {len : Nat} {rs : List (Int × Int)} (h : RdE w a len rs) (hb : Gw w w') : RdE w' a len rs := h.later hb.below
theorem RdE.at {w : World} {a : Option Addr} {len : Nat} {rs : List (Int × Int)} (h : RdE w a len rs) (i : Nat) (hi : i < len) : ∃ b off, a = some ⟨b, off, none⟩ ∧
    w.cell? ⟨b, off + i * 2, none⟩ = some (.int .i64 (rs.getD i (0, 0)).1) ∧ w.cell? ⟨b, off + i * 2 + 1, none⟩ = some (.int .i64 (rs.getD i (0, 0)).2) := by
  obtain ⟨b, off, ha, hc⟩ := h.2 (by omega)
  have hi' : i < rs.length := by rw [h.1]; exact hi
  refine ⟨b, off, ha, ?_, ?_⟩
  · have := hc (2 * i + 0) _ (flatE_at rs i hi' 0 (by omega))
    rw [show off + i * 2 = off + (2 * i + 0) by omega]; exact this
  · have := hc (2 * i + 1) _ (flatE_at rs i hi' 1 (by omega))
    rw [show off + i * 2 + 1 = off + (2 * i + 1) by omega]; exact this
theorem rdE_nil (w : World) : RdE w none 0 [] := ⟨rfl, fun h => absurd h (by omega)⟩

/-- Compare of numbers. -/
def cmI (p q : Int) : Int := if p < q then -1 else if q < p then 1 else 0
theorem compare_any (p q : Int) (w : World) : Calls Try.prog 43 #[.int .i64 p, .int .i64 q] w fun e w' => e = .returned (.int .i64 (cmI p q)) ∧ w' = w := by
  have hR : cmI p q = if p < q then -1 else if q < p then 1 else 0 := rfl
  generalize cmI p q = R at hR ⊢
  by_cases h1 : p < q
  · rw [if_pos h1] at hR
    subst hR
    go_enter Try.func43, Try.ntmps43
    go_wp2
    go_ret
    exact ⟨rfl, rfl⟩
  · rw [if_neg h1] at hR
    by_cases h2 : q < p
    · rw [if_pos h2] at hR
      subst hR
      go_enter Try.func43, Try.ntmps43
      go_wp2
      go_ret
      exact ⟨rfl, rfl⟩
    · rw [if_neg h2] at hR
      subst hR
      go_enter Try.func43, Try.ntmps43
      go_wp2
      go_ret
      exact ⟨rfl, rfl⟩
theorem find1_any (p s q : Int) (w : World) : Calls Try.prog 47 #[.agg #[.int .i64 p, .int .i64 s], .int .i64 q] w fun e w' => e = .returned (.int .i64 (cmI p q)) ∧ Gw w w' := by
  have HC : Hid (∀ W : World, Calls Try.prog 43 #[.int .i64 p, .int .i64 q] W fun e w' => e = .returned (.int .i64 (cmI p q)) ∧ w' = W) := fun W => compare_any p q W
  generalize cmI p q = R at HC ⊢
  have HG : Hid (∀ o : Obj, Gw w (w.alloc o)) := fun o => gw_alloc w o
  go_enter Try.func47, Try.ntmps47
  go_wp2_with (first | (go_at_call 43; refine (HC.out _).mono ?_; rintro e w' ⟨rfl, rfl⟩))
  go_ret
  exact ⟨rfl, HG.out _⟩
/-- Where the search stands: all ahead of i are less, none from j on is. -/
def BsE (v : List (Int × Int)) (a : Int) (i j : Nat) : Prop := (∀ k, k < i → (v.getD k (0, 0)).1 < a) ∧ ∀ k, j ≤ k → k < v.length → ¬ (v.getD k (0, 0)).1 < a
theorem ascE_lt : (v : List (Int × Int)) → AscE v → ∀ i j, i < j → j < v.length → (v.getD i (0, 0)).1 < (v.getD j (0, 0)).1
  | [], _, i, j, _, h => by simp at h
  | x :: r, h, i, 0, hij, _ => by omega
  | x :: r, h, 0, j + 1, _, hj => by
    have := h.1 (r.getD j (0, 0)) (by simp at hj; simp [hj])
    simpa using this
  | x :: r, h, i + 1, j + 1, hij, hj => by simpa using ascE_lt r h.2 i j (by omega) (by simpa using hj)
theorem bsE_up (v : List (Int × Int)) (a : Int) (i j h : Nat) (ha : AscE v) (hb : BsE v a i j) (hh : h < v.length) (hl : (v.getD h (0, 0)).1 < a) : BsE v a (h + 1) j := by
  refine ⟨fun k hk => ?_, hb.2⟩
  rcases Nat.lt_or_ge k h with h1 | h1
  · have := ascE_lt v ha k h h1 hh
    omega
  · rw [show k = h by omega]; exact hl
theorem bsE_down (v : List (Int × Int)) (a : Int) (i j h : Nat) (ha : AscE v) (hb : BsE v a i j) (hh : h < v.length) (hl : ¬ (v.getD h (0, 0)).1 < a) : BsE v a i h := by
  refine ⟨hb.1, fun k hk hk2 => ?_⟩
  rcases Nat.lt_or_ge h k with h1 | h1
  · have := ascE_lt v ha h k h1 hk2
    omega
  · rw [show k = h by omega]; exact hl
/-- Whether what the search came to is it. -/
def fnE (v : List (Int × Int)) (a : Int) (i : Nat) : Bool := decide (i < v.length) && decide ((v.getD i (0, 0)).1 = a)
theorem fnE_sq (v : List (Int × Int)) (a : Int) (i : Nat) (hA : AscE v) (hb : BsE v a i i) : (fnE v a i = true → i < v.length ∧ (v.getD i (0, 0)).1 = a ∧ sqL v a = (v.getD i (0, 0)).2) ∧ (fnE v a i = false → (∀ k, k < i → (v.getD k (0, 0)).1 < a) ∧ (∀ k, i ≤ k → k < v.length → a < (v.getD k (0, 0)).1) ∧ sqL v a = 0) := by
  unfold fnE
  constructor
  · intro h
    simp only [Bool.and_eq_true, decide_eq_true_eq] at h
    refine ⟨h.1, h.2, ?_⟩
    rw [← h.2]
    exact sq_mem v hA _ (by simp [h.1])
  · intro h
    have h2 : ∀ k, i ≤ k → k < v.length → a < (v.getD k (0, 0)).1 := by
      intro k hk hl
      have h3 := hb.2 k hk hl
      rcases Nat.lt_or_ge i k with h4 | h4
      · have := ascE_lt v hA i k h4 hl
        have := hb.2 i (Nat.le_refl _) (by omega)
        omega
      · obtain rfl : k = i := by omega
        have h5 : ¬ (v.getD k (0, 0)).1 = a := by
          intro h6
          rw [decide_eq_true hl, decide_eq_true h6] at h
          cases h
        omega
    refine ⟨hb.1, h2, sq_none v a ?_⟩
    intro y hy
    obtain ⟨k, hk, rfl⟩ := List.mem_iff_getElem.1 hy
    have e : v.getD k (0, 0) = v[k] := by simp [hk]
    rw [← e]
    rcases Nat.lt_or_ge k i with hl | hl
    · have := hb.1 k hl; omega
    · have := h2 k hl hk; omega

set_option maxHeartbeats 2000000 in
theorem bsE_any (v : List (Int × Int)) (q : Int) (a : Option Addr) (len cap : Nat) (w : World) (hA : AscE v) (hrd : RdE w a len v) (hm : len ≤ 4611686018427387903) :
    Calls Try.prog 46 #[.slice a len cap, .int .i64 q, .func (.func 47) #[] #[]] w
      fun e w' => ∃ i : Nat, i ≤ v.length ∧ BsE v q i i ∧ e = .returned (.tuple #[.int .i64 i, .bool (fnE v q i)]) ∧ Gw w w' := by
  have HA : Hid (AscE v) := hA
  have HD : Hid (RdE w a len v) := hrd
  have HL : Hid (v.length = len) := hrd.1
  clear hA hrd
  go_enter Try.func46, Try.ntmps46
  go_wp2
  go_loopw [9, 10] (fun x9 x10 wr => ∃ i j : Nat, x9 = .int .i64 i ∧ x10 = .int .i64 j ∧ i ≤ j ∧ j ≤ len ∧ BsE v q i j ∧ Gw w wr) (fun x9 x10 _ => (intOf x10).toNat - (intOf x9).toNat)
  case atStart => exact ⟨0, len, rfl, rfl, by omega, by omega, ⟨fun k hk => absurd hk (by omega), fun k h1 h2 => by rw [HL.out] at h2; omega⟩, Gw.refl _⟩
  case round =>
    obtain ⟨i, j, hx9, hx10, hij, hjl, hat, hbel⟩ := hrel
    subst hx9 hx10
    have HAT : Hid (BsE v q i j) := hat
    have HB : Hid (Gw w wr) := hbel
    clear hat hbel
    by_cases hlt : i < j
    · obtain ⟨h, hh⟩ : ∃ h, h = (i + j) / 2 := ⟨_, rfl⟩
      have hh1 : i ≤ h := by omega
      have hh2 : h < j := by omega
      have hhl : h < len := by omega
      obtain ⟨b, off, hab, c0, c1⟩ := (HD.out.gw HB.out).at h hhl
      subst hab
      have hdiv : ((i : Int) + (j : Int)) / 2 = (h : Int) := by omega
      have HH : Hid (h = (i + j) / 2) := hh
      clear hh
      obtain ⟨y1, hy1⟩ : ∃ y1, y1 = (v.getD h (0, 0)).1 := ⟨_, rfl⟩
      obtain ⟨y2, hy2⟩ : ∃ y2, y2 = (v.getD h (0, 0)).2 := ⟨_, rfl⟩
      rw [← hy1] at c0
      rw [← hy2] at c1
      clear hy2
      have hhr : h < v.length := by rw [HL.out]; exact hhl
      obtain ⟨sv, hsv⟩ : ∃ sv, sv = cmI y1 q := ⟨_, rfl⟩
      have HSD : Hid (∀ W : World, Calls Try.prog 47 #[.agg #[.int .i64 y1, .int .i64 y2], .int .i64 q] W fun e w' => e = .returned (.int .i64 sv) ∧ Gw W w') := by
        intro W
        rw [hsv]
        exact find1_any y1 y2 q W
      by_cases hs : y1 < q
      · have hsv' : sv < 0 := by rw [hsv]; unfold cmI; rw [if_pos hs]; decide
        have HUP : Hid (BsE v q (h + 1) j) := bsE_up v q i j h HA.out HAT.out hhr (by rw [← hy1]; exact hs)
        clear hsv hs hhr hy1
        go_wp2_with (first | (go_at_call 47; refine (HSD.out _).mono ?_; rintro e w2 ⟨rfl, hg⟩; have HG2 : Hid (Gw wr w2) := hg; clear hg))
        go_roundw
        case rel => exact ⟨h + 1, j, by go_num, rfl, by omega, by omega, HUP.out, HB.out.trans HG2.out⟩
        case measure => simp [intOf]; omega
      · have hsv' : ¬ sv < 0 := by
          rw [hsv]
          unfold cmI
          rw [if_neg hs]; split <;> decide
        have HDN : Hid (BsE v q i h) := bsE_down v q i j h HA.out HAT.out hhr (by rw [← hy1]; exact hs)
        clear hsv hs hhr hy1
        go_wp2_with (first | (go_at_call 47; refine (HSD.out _).mono ?_; rintro e w2 ⟨rfl, hg⟩; have HG2 : Hid (Gw wr w2) := hg; clear hg))
        go_roundw
        case rel => exact ⟨i, h, rfl, rfl, by omega, by omega, HDN.out, HB.out.trans HG2.out⟩
        case measure => simp [intOf]; omega
    · obtain rfl : j = i := by omega
      by_cases hn : j < len
      · obtain ⟨b, off, hab, c0, c1⟩ := (HD.out.gw HB.out).at j hn
        subst hab
        obtain ⟨y1, hy1⟩ : ∃ y1, y1 = (v.getD j (0, 0)).1 := ⟨_, rfl⟩
        obtain ⟨y2, hy2⟩ : ∃ y2, y2 = (v.getD j (0, 0)).2 := ⟨_, rfl⟩
        rw [← hy1] at c0
        rw [← hy2] at c1
        clear hy2
        obtain ⟨sv, hsv⟩ : ∃ sv, sv = cmI y1 q := ⟨_, rfl⟩
        have HSD : Hid (∀ W : World, Calls Try.prog 47 #[.agg #[.int .i64 y1, .int .i64 y2], .int .i64 q] W fun e w' => e = .returned (.int .i64 sv) ∧ Gw W w') := by
          intro W
          rw [hsv]
          exact find1_any y1 y2 q W
        have hz : sv = 0 ↔ y1 = q := by
          rw [hsv]; unfold cmI
          split
          · constructor <;> intro <;> omega
          · split
            · constructor <;> intro <;> omega
            · constructor <;> intro <;> omega
        obtain ⟨z, hz2⟩ : ∃ z, (sv == 0) = z := ⟨_, rfl⟩
        have HF : Hid (z = fnE v q j) := by
          show z = _
          unfold fnE
          rw [decide_eq_true (show j < v.length by rw [HL.out]; exact hn), Bool.true_and, ← hy1, ← hz2, Bool.eq_iff_iff]
          simp [hz]
        clear hsv hz hy1
        go_wp2_with (first | (go_at_call 47; refine (HSD.out _).mono ?_; rintro e w2 ⟨rfl, hg⟩; have HG2 : Hid (Gw wr w2) := hg; clear hg))
        go_ret2
        exact ⟨j, by rw [HL.out]; omega, HAT.out, by rw [← HF.out]; rfl, HB.out.trans HG2.out⟩
      · have HF : Hid (false = fnE v q j) := by
          show false = _
          unfold fnE
          rw [decide_eq_false (show ¬ j < v.length by rw [HL.out]; exact hn), Bool.false_and]
        go_wp2
        go_ret2
        exact ⟨j, by rw [HL.out]; omega, HAT.out, by rw [← HF.out]; rfl, HB.out⟩
theorem find_any (v : List (Int × Int)) (q : Int) (a : Option Addr) (len cap : Nat) (w : World) (hA : AscE v) (hrd : RdE w a len v) (hm : len ≤ 4611686018427387903) :
    Calls Try.prog 41 #[.slice a len cap, .int .i64 q] w
      fun e w' => ∃ i : Nat, i ≤ v.length ∧ BsE v q i i ∧ e = .returned (.tuple #[.int .i64 i, .bool (fnE v q i)]) ∧ Gw w w' := by
  have HC : Hid (∀ W, Gw w W → Calls Try.prog 46 #[.slice a len cap, .int .i64 q, .func (.func 47) #[] #[]] W
      fun e w' => ∃ i : Nat, i ≤ v.length ∧ BsE v q i i ∧ e = .returned (.tuple #[.int .i64 i, .bool (fnE v q i)]) ∧ Gw W w') := fun W hW => bsE_any v q a len cap W hA (hrd.gw hW) hm
  clear hrd hA hm
  go_enter Try.func41, Try.ntmps41
  go_wp2_with (first | (go_at_call 46; refine (HC.out _ (Gw.refl _)).mono ?_; rintro e w2 ⟨i, hi, hb, rfl, hg⟩; have HP : Hid (i ≤ v.length ∧ BsE v q i i ∧ Gw w w2) := ⟨hi, hb, hg⟩; clear hi hb hg))
  go_ret2
  exact ⟨i, HP.out.1, HP.out.2.1, rfl, HP.out.2.2⟩
theorem seq_any (v : List (Int × Int)) (q : Int) (a : Option Addr) (len cap : Nat) (w : World) (hA : AscE v) (hrd : RdE w a len v) (hm : len ≤ 4611686018427387903) :
    Calls Try.prog 28 #[.slice a len cap, .int .i64 q] w fun e w' => e = .returned (.int .i64 (sqL v q)) ∧ Gw w w' := by
  have HC : Hid (Calls Try.prog 41 #[.slice a len cap, .int .i64 q] w
      fun e w' => (∃ i b off : Nat, i < len ∧ a = some ⟨b, off, none⟩ ∧ w'.cell? ⟨b, off + i * 2 + 1, none⟩ = some (.int .i64 (sqL v q)) ∧ e = .returned (.tuple #[.int .i64 i, .bool true]) ∧ Gw w w') ∨ ∃ i : Nat, sqL v q = 0 ∧ e = .returned (.tuple #[.int .i64 i, .bool false]) ∧ Gw w w') := by
    refine (find_any v q a len cap w hA hrd hm).mono ?_
    rintro e w2 ⟨i, hi, hb, rfl, hg⟩
    obtain ⟨h1, h2⟩ := fnE_sq v q i hA hb
    cases hf : fnE v q i
    · exact .inr ⟨i, (h2 hf).2.2, rfl, hg⟩
    · have hil : i < len := by rw [← hrd.1]; exact (h1 hf).1
      obtain ⟨b, off, hab, c0, c1⟩ := (hrd.gw hg).at i hil
      exact .inl ⟨i, b, off, hil, hab, by rw [(h1 hf).2.2]; exact c1, rfl, hg⟩
  clear hA hrd
  generalize sqL v q = S at HC ⊢
  go_enter Try.func28, Try.ntmps28
  go_wp2_with (first | (go_at_call 41; refine HC.out.mono ?_; intro e w2 hh; rcases hh with ⟨i, b, off, hi, hab, c1, rfl, hg⟩ | ⟨i, hs, rfl, hg⟩; all_goals (have HG : Hid (Gw w w2) := hg; clear hg; first | subst hab | subst hs)))
  all_goals
    go_ret
    exact ⟨rfl, HG.out⟩
end Go.Proofs.Ytfagmcgcdlboiaa
