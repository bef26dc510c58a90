/- Plain mathematics of UTF-8, more: what the reference tells: which bytes are just a character's, and which begin one's, are those that First tells. -/
import Derived.Test.YtdoflmgdmcmmfaaUtfQ
namespace Go.Proofs.Ytdoflmgdmcmmfaa

/-- The number that so many bytes would have. -/
def gs : List Int → Int
  | [x] => x
  | [x, y] => x % 32 * 64 + y % 64
  | [x, y, z] => (x % 16 * 64 + y % 64) * 64 + z % 64
  | [x, y, z, u] => ((x % 8 * 64 + y % 64) * 64 + z % 64) * 64 + u % 64
  | _ => 0
/-- The character whose bytes these just are. -/
def whl (bs : List Int) : Option Int := if (1 ≤ bs.length ∧ bs.length ≤ 4) ∧ sz (gs bs) = bs.length ∧ by8 (gs bs) = bs then some (gs bs) else none

theorem gs_by8 (c : Int) (hc : sz c ≠ 0) : gs (by8 c) = c := by
  have hp := sz_pos c hc
  rcases (by omega : c ≤ 127 ∨ (128 ≤ c ∧ c ≤ 2047) ∨ (2048 ≤ c ∧ c ≤ 65535) ∨ 65536 ≤ c) with h | h | h | h
  · rw [by8_1 c h]; rfl
  · rw [by8_2 c h]; simp only [gs]; omega
  · rw [by8_3 c h]; simp only [gs]; omega
  · rw [by8_4 c h]; simp only [gs]; omega
theorem whl_by8 (c : Int) (hc : sz c ≠ 0) : whl (by8 c) = some c := by
  have h1 := by8_len c
  have h2 := sz_len c hc
  unfold whl
  rw [gs_by8 c hc, if_pos ⟨h1, h2.symm, rfl⟩]
theorem whl_inv (bs : List Int) (c : Int) (h : whl bs = some c) : sz c ≠ 0 ∧ bs = by8 c ∧ sz c = bs.length := by
  unfold whl at h
  split at h
  · rename_i hh
    simp only [Option.some.injEq] at h
    subst h
    exact ⟨by omega, hh.2.2.symm, hh.2.1⟩
  · cases h
theorem whl_of (bs : List Int) (c : Int) (hc : sz c ≠ 0) (h : bs = by8 c) : whl bs = some c := by rw [h]; exact whl_by8 c hc

/-- What is tried behind a beginning. -/
def six : List Int := [128, 143, 144, 159, 160, 191]
/-- Begins, with so many bytes more allowed. -/
def bg : Nat → List Int → Bool
  | 0, _ => false
  | d + 1, bs => six.any fun b => (whl (bs ++ [b])).isSome || bg d (bs ++ [b])

theorem bg_sound : (d : Nat) → (bs : List Int) → 0 < bs.length → bg d bs = true → ∃ c, sz c ≠ 0 ∧ bs.length < (by8 c).length ∧ bs = (by8 c).take bs.length
  | 0, _, _, h => by simp [bg] at h
  | d + 1, bs, hp, h => by
    simp only [bg, List.any_eq_true, Bool.or_eq_true] at h
    obtain ⟨b, _, h | h⟩ := h
    · obtain ⟨c, hc⟩ := Option.isSome_iff_exists.1 h
      obtain ⟨h1, h2, h3⟩ := whl_inv _ c hc
      refine ⟨c, h1, by rw [← h2]; simp, ?_⟩
      rw [← h2]; simp
    · obtain ⟨c, h1, h2, h3⟩ := bg_sound d (bs ++ [b]) (by simp) h
      simp at h2
      refine ⟨c, h1, by omega, ?_⟩
      have := congrArg (List.take bs.length) h3
      simpa [List.take_take] using this

theorem first_six_inv (x : Int) (r : List Int) (h : (first (x :: r)).2.2 = 6) :
    lds x ≠ 0 ∧ (tl8 x r).all cont = true ∧ bgs (fz (ldc x) (tl8 x r)) (lds x) ((lds x).toNat - 1 - (tl8 x r).length) = true ∧ (tl8 x r).length < (lds x).toNat - 1 := by
  by_cases hs : lds x = 0
  · rw [first_bad x r hs] at h; simp at h
  · by_cases ha : (tl8 x r).all cont = true
    · by_cases hb : bgs (fz (ldc x) (tl8 x r)) (lds x) ((lds x).toNat - 1 - (tl8 x r).length) = true
      · by_cases hc : (tl8 x r).length < (lds x).toNat - 1
        · exact ⟨hs, ha, hb, hc⟩
        · rw [first_ok x r hs ha hb hc] at h; simp at h
      · rw [first_nb x r hs ha (by simpa using hb)] at h; simp at h
    · have : (tl8 x r).all cont = false := by simpa using ha
      simp [first, hs, this] at h

theorem bgs_next (c s : Int) (m : Nat) (h : bgs c s (m + 1) = true) : bgs (c * 64) s m = true ∨ bgs (c * 64 + 63) s m = true := by
  simp only [bgs, Bool.or_eq_true, decide_eq_true_eq] at h
  rcases h with h | h
  · left; refine bgs_left _ _ _ ?_
    rw [← h]; congr 1; rw [Int.pow_succ, Int.mul_assoc, Int.mul_comm 64]
  · right; refine bgs_right _ _ _ ?_
    rw [← h]; congr 1; rw [Int.pow_succ, Int.add_mul, Int.mul_assoc, Int.mul_comm 64 (64 ^ m)]; omega

/-- Behind a beginning one of two bytes leads on. -/
theorem six_step (x : Int) (r : List Int) (h0 : 0 ≤ x) (h1 : x ≤ 255) (h : (first (x :: r)).2.2 = 6) :
    r.length + 1 ≤ 3 ∧ ∃ b, (b = 128 ∨ b = 191) ∧ ((first (x :: (r ++ [b]))).2.2 = 6 ∨ ((first (x :: (r ++ [b]))).2.2 = 0 ∧ (first (x :: (r ++ [b]))).2.1 = r.length + 2)) := by
  obtain ⟨hs, ha, hb, hc⟩ := first_six_inv x r h
  have hld := ld_le x h0 h1
  have hlen := tl8_len x r
  have hr : tl8 x r = r := by unfold tl8; exact List.take_of_length_le (by omega)
  rw [hr] at ha hb hc hlen
  refine ⟨by omega, ?_⟩
  obtain ⟨m, hm⟩ : ∃ m, (lds x).toNat - 1 - r.length = m + 1 := ⟨(lds x).toNat - 1 - r.length - 1, by omega⟩
  rw [hm] at hb
  have key : ∀ b, cont b = true → bgs (fz (ldc x) r * 64 + b % 64) (lds x) m = true → ((first (x :: (r ++ [b]))).2.2 = 6 ∨ ((first (x :: (r ++ [b]))).2.2 = 0 ∧ (first (x :: (r ++ [b]))).2.1 = r.length + 2)) := by
    intro b hcb hbg
    have ht : tl8 x (r ++ [b]) = r ++ [b] := by unfold tl8; exact List.take_of_length_le (by simp; omega)
    have hall : (tl8 x (r ++ [b])).all cont = true := by rw [ht]; simp only [List.all_append, ha]; simp [hcb]
    have hbg' : bgs (fz (ldc x) (tl8 x (r ++ [b]))) (lds x) ((lds x).toNat - 1 - (tl8 x (r ++ [b])).length) = true := by
      rw [ht, fz_snoc]
      rw [show (lds x).toNat - 1 - (r ++ [b]).length = m by simp; omega]
      exact hbg
    by_cases hq : (tl8 x (r ++ [b])).length < (lds x).toNat - 1
    · left; rw [first_short x _ hs hall hbg' hq]
    · right; rw [first_ok x _ hs hall hbg' hq]
      rw [ht] at hq
      simp at hq
      exact ⟨rfl, by show lds x = _; omega⟩
  rcases bgs_next _ _ m hb with h2 | h2
  · exact ⟨128, .inl rfl, key 128 (by decide) (by simpa using h2)⟩
  · exact ⟨191, .inr rfl, key 191 (by decide) (by simpa using h2)⟩

theorem bg_complete : (d : Nat) → (x : Int) → (r : List Int) → (∀ y ∈ x :: r, 0 ≤ y ∧ y ≤ 255) → r.length + 1 + d = 4 → (first (x :: r)).2.2 = 6 → bg d (x :: r) = true
  | 0, x, r, hr, hd, h => by
    have hx := hr x (by simp)
    have := (six_step x r hx.1 hx.2 h).1; omega
  | d + 1, x, r, hr, hd, h => by
    have hx := hr x (by simp)
    obtain ⟨_, b, hb, hn⟩ := six_step x r hx.1 hx.2 h
    have hb6 : b ∈ six := by rcases hb with rfl | rfl <;> decide
    simp only [bg, List.any_eq_true, Bool.or_eq_true]
    refine ⟨b, hb6, ?_⟩
    rcases hn with h6 | ⟨h0, hl⟩
    · right
      exact bg_complete d x (r ++ [b]) (fun y hy => by
        rw [← List.cons_append] at hy
        rcases List.mem_append.1 hy with h | h
        · exact hr y h
        · simp at h; rcases hb with rfl | rfl <;> omega) (by simp; omega) h6
    · left
      obtain ⟨i1, i2, i3⟩ := first_inv x (r ++ [b]) hx.1 h0
      rw [hl] at i3
      have e : (r ++ [b]).drop (((r.length : Int) + 2).toNat - 1) = [] := by simp; omega
      rw [e, List.append_nil] at i3
      rw [List.cons_append, whl_of _ _ (by rw [i1]; exact i2) i3]
      rfl

/-- Begins tells what First tells. -/
theorem bg_iff (bs : List Int) (h1 : 1 ≤ bs.length) (h3 : bs.length ≤ 3) (hr : ∀ y ∈ bs, 0 ≤ y ∧ y ≤ 255) : bg (4 - bs.length) bs = decide ((first bs).2.2 = 6) := by
  cases bs with
  | nil => simp at h1
  | cons x r =>
    by_cases h : (first (x :: r)).2.2 = 6
    · rw [bg_complete (4 - (x :: r).length) x r hr (by simp at h3 ⊢; omega) h]; simp [h]
    · cases e : bg (4 - (x :: r).length) (x :: r) with
      | false => simp [h]
      | true =>
        obtain ⟨c, i1, i2, i3⟩ := bg_sound _ _ (by simp) e
        rw [i3, first_cutoff c i1 _ (by simp) i2] at h
        exact absurd rfl h

theorem first_whl (bs : List Int) (k : Nat) (hk : k ≤ bs.length) (c : Int) (h : whl (bs.take k) = some c) : first bs = (c, (k : Int), 0) := by
  obtain ⟨h1, h2, h3⟩ := whl_inv _ c h
  have hl : (bs.take k).length = k := by simp; omega
  rw [hl] at h3
  have : bs = by8 c ++ bs.drop k := by rw [← h2]; simp
  rw [this, first_enc c h1, h3]
theorem first_no (bs : List Int) (hne : bs ≠ []) (hr : ∀ y ∈ bs, 0 ≤ y ∧ y ≤ 255) (h : ∀ k, 1 ≤ k → k ≤ 4 → k ≤ bs.length → whl (bs.take k) = none) : (first bs).2.2 ≠ 0 := by
  cases bs with
  | nil => exact absurd rfl hne
  | cons x r =>
    intro h0
    have hx := hr x (by simp)
    have hn := first_n x r hx.1 hx.2 h0
    obtain ⟨i1, i2, i3⟩ := first_inv x r hx.1 h0
    have hl := sz_len (first (x :: r)).1 (by rw [i1]; exact i2)
    rw [i1] at hl
    have hk := h (first (x :: r)).2.1.toNat (by omega) (by omega) (by simp; omega)
    have e : (x :: r).take (first (x :: r)).2.1.toNat = by8 (first (x :: r)).1 := by
      have e2 : (first (x :: r)).2.1.toNat = (by8 (first (x :: r)).1).length := by omega
      rw [e2]
      exact (congrArg (List.take (by8 (first (x :: r)).1).length) i3).trans List.take_left
    rw [e, whl_by8 _ (by rw [i1]; exact i2)] at hk
    cases hk
theorem first_else (bs : List Int) (hne : bs ≠ []) (h0 : (first bs).2.2 ≠ 0) : first bs = (0, 0, if (first bs).2.2 = 6 then 6 else 2) := by
  cases bs with
  | nil => exact absurd rfl hne
  | cons x r =>
    by_cases hs : lds x = 0
    · rw [first_bad x r hs]; simp
    · by_cases ha : (tl8 x r).all cont = true
      · by_cases hb : bgs (fz (ldc x) (tl8 x r)) (lds x) ((lds x).toNat - 1 - (tl8 x r).length) = true
        · by_cases hc : (tl8 x r).length < (lds x).toNat - 1
          · rw [first_short x r hs ha hb hc]; simp
          · rw [first_ok x r hs ha hb hc] at h0; exact absurd rfl h0
        · rw [first_nb x r hs ha (by simpa using hb)]; simp
      · have hf : (tl8 x r).all cont = false := by simpa using ha
        have e : first (x :: r) = (0, 0, 2) := by simp [first, hs, hf]
        rw [e]; simp
theorem first_six_len (bs : List Int) (hr : ∀ y ∈ bs, 0 ≤ y ∧ y ≤ 255) (h : (first bs).2.2 = 6) : 1 ≤ bs.length ∧ bs.length ≤ 3 := by
  cases bs with
  | nil => simp [first] at h
  | cons x r =>
    have hx := hr x (by simp)
    have := (six_step x r hx.1 hx.2 h).1
    simp; omega
end Go.Proofs.Ytdoflmgdmcmmfaa
