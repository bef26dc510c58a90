/- Plain mathematics of UTF-8, more: beginnings of characters, and where bytes are cut. -/
import Derived.Test.YtdoflmgdmcmmfaaUtfP
namespace Go.Proofs.Ytdoflmgdmcmmfaa

theorem first_err (x : Int) (r : List Int) (h : (first (x :: r)).2.2 ≠ 0) : (first (x :: r)).2.1 = 0 := by
  by_cases hs : lds x = 0
  · rw [first_bad x r hs]
  · by_cases ha : (tl8 x r).all cont = true
    · by_cases hb : bgs (fz (ldc x) (tl8 x r)) (lds x) ((lds x).toNat - 1 - (tl8 x r).length) = true
      · by_cases hc : (tl8 x r).length < (lds x).toNat - 1
        · rw [first_short x r hs ha hb hc]
        · rw [first_ok x r hs ha hb hc] at h; exact absurd rfl h
      · rw [first_nb x r hs ha (by simpa using hb)]
    · have : (tl8 x r).all cont = false := by simpa using ha
      simp [first, hs, this]

theorem bgs_left (c s : Int) (m : Nat) (h : sz (c * 64 ^ m) = s) : bgs c s m = true := by simp [bgs, h]
theorem bgs_right (c s : Int) (m : Nat) (h : sz (c * 64 ^ m + (64 ^ m - 1)) = s) : bgs c s m = true := by simp [bgs, h]

/-- Cut short, a character's bytes are begun. -/
theorem first_cutoff (c : Int) (hc : sz c ≠ 0) (k : Nat) (h0 : 0 < k) (h1 : k < (by8 c).length) : first ((by8 c).take k) = (0, 0, 6) := by
  have hp := sz_pos c hc
  rcases (by omega : c ≤ 127 ∨ (128 ≤ c ∧ c ≤ 2047) ∨ (2048 ≤ c ∧ c ≤ 65535) ∨ 65536 ≤ c) with h | h | h | h
  · rw [by8_1 c h] at h1; simp at h1; omega
  · rw [by8_2 c h] at h1 ⊢
    obtain rfl : k = 1 := by simp at h1; omega
    obtain ⟨e1, e2⟩ := lds_2 (192 + c / 64) (by omega)
    show first [192 + c / 64] = _
    have e3 : tl8 (192 + c / 64) [] = [] := by simp [tl8]
    refine first_short _ _ (by omega) (by simp [e3]) ?_ (by simp [e1, e3])
    rw [e3, e1]
    refine bgs_left _ _ 1 ?_
    simp only [fz, List.foldl_nil, e2]
    exact sz_2 _ (by omega)
  · have hs := sz_3 c h hc
    rw [by8_3 c h] at h1 ⊢
    obtain ⟨e1, e2⟩ := lds_3 (224 + c / 64 / 64) (by omega)
    rcases (by simp at h1; omega : k = 1 ∨ k = 2) with rfl | rfl
    · show first [224 + c / 64 / 64] = _
      have e3 : tl8 (224 + c / 64 / 64) [] = [] := by simp [tl8]
      refine first_short _ _ (by omega) (by simp [e3]) ?_ (by simp [e1, e3])
      rw [e3, e1]
      simp only [fz, List.foldl_nil, e2]
      by_cases hz : c / 64 / 64 = 0
      · refine bgs_right _ _ 2 ?_
        rw [hz]; decide
      · refine bgs_left _ _ 2 ?_
        have : sz ((224 + c / 64 / 64) % 16 * 64 ^ 2) ≠ 0 := by unfold sz; rw [if_neg (by omega), if_neg (by omega), if_neg (by omega), if_neg (by omega), if_neg (by omega), if_pos (by omega)]; omega
        exact sz_3 _ (by omega) this
    · show first [224 + c / 64 / 64, 128 + c / 64 % 64] = _
      have e3 : tl8 (224 + c / 64 / 64) [128 + c / 64 % 64] = [128 + c / 64 % 64] := by simp [tl8, e1]
      refine first_short _ _ (by omega) (by simp [e3, cont_iff]; omega) ?_ (by simp [e1, e3])
      rw [e3, e1]
      simp only [fz, List.foldl_cons, List.foldl_nil, e2]
      refine bgs_left _ _ 1 ?_
      have : sz (((224 + c / 64 / 64) % 16 * 64 + (128 + c / 64 % 64) % 64) * 64 ^ 1) ≠ 0 := by unfold sz; rw [if_neg (by omega), if_neg (by omega), if_neg (by omega), if_neg (by omega), if_neg (by omega), if_pos (by omega)]; omega
      exact sz_3 _ (by omega) this
  · have hs := sz_4 c h hc
    rw [by8_4 c h] at h1 ⊢
    obtain ⟨e1, e2⟩ := lds_4 (240 + c / 64 / 64 / 64) (by omega)
    rcases (by simp at h1; omega : k = 1 ∨ k = 2 ∨ k = 3) with rfl | rfl | rfl
    · show first [240 + c / 64 / 64 / 64] = _
      have e3 : tl8 (240 + c / 64 / 64 / 64) [] = [] := by simp [tl8]
      refine first_short _ _ (by omega) (by simp [e3]) ?_ (by simp [e1, e3])
      rw [e3, e1]
      simp only [fz, List.foldl_nil, e2]
      by_cases hz : c / 64 / 64 / 64 = 0
      · refine bgs_right _ _ 3 ?_
        rw [hz]; decide
      · refine bgs_left _ _ 3 ?_
        have : sz ((240 + c / 64 / 64 / 64) % 8 * 64 ^ 3) ≠ 0 := by unfold sz; rw [if_neg (by omega), if_neg (by omega), if_neg (by omega), if_neg (by omega), if_neg (by omega), if_neg (by omega)]; omega
        exact sz_4 _ (by omega) this
    · show first [240 + c / 64 / 64 / 64, 128 + c / 64 / 64 % 64] = _
      have e3 : tl8 (240 + c / 64 / 64 / 64) [128 + c / 64 / 64 % 64] = [128 + c / 64 / 64 % 64] := by simp [tl8, e1]
      refine first_short _ _ (by omega) (by simp [e3, cont_iff]; omega) ?_ (by simp [e1, e3])
      rw [e3, e1]
      simp only [fz, List.foldl_cons, List.foldl_nil, e2]
      refine bgs_left _ _ 2 ?_
      have : sz (((240 + c / 64 / 64 / 64) % 8 * 64 + (128 + c / 64 / 64 % 64) % 64) * 64 ^ 2) ≠ 0 := by unfold sz; rw [if_neg (by omega), if_neg (by omega), if_neg (by omega), if_neg (by omega), if_neg (by omega), if_neg (by omega)]; omega
      exact sz_4 _ (by omega) this
    · show first [240 + c / 64 / 64 / 64, 128 + c / 64 / 64 % 64, 128 + c / 64 % 64] = _
      have e3 : tl8 (240 + c / 64 / 64 / 64) [128 + c / 64 / 64 % 64, 128 + c / 64 % 64] = [128 + c / 64 / 64 % 64, 128 + c / 64 % 64] := by simp [tl8, e1]
      refine first_short _ _ (by omega) (by simp [e3, cont_iff]; omega) ?_ (by simp [e1, e3])
      rw [e3, e1]
      simp only [fz, List.foldl_cons, List.foldl_nil, e2]
      refine bgs_left _ _ 1 ?_
      have : sz ((((240 + c / 64 / 64 / 64) % 8 * 64 + (128 + c / 64 / 64 % 64) % 64) * 64 + (128 + c / 64 % 64) % 64) * 64 ^ 1) ≠ 0 := by unfold sz; rw [if_neg (by omega), if_neg (by omega), if_neg (by omega), if_neg (by omega), if_neg (by omega), if_neg (by omega)]; omega
      exact sz_4 _ (by omega) this

theorem tail_cutoff (c : Int) (hc : sz c ≠ 0) (k : Nat) (h0 : 0 < k) (h1 : k < (by8 c).length) : tail8 ((by8 c).take k) = k := by
  have h4 := by8_len c
  have hl : ((by8 c).take k).length = k := by simp; omega
  unfold tail8
  rw [hl, show min 3 k = k by omega]
  refine tailF_yes _ k h0 ?_
  rw [hl, Nat.sub_self, List.drop_zero, first_cutoff c hc k h0 h1]

/-- Later bytes of a character begin nothing. -/
theorem by8_later (c : Int) (hc : sz c ≠ 0) (j : Nat) (h0 : 0 < j) (h1 : j < (by8 c).length) : ∃ x r, (by8 c).drop j = x :: r ∧ lds x = 0 := by
  have hp := sz_pos c hc
  rcases (by omega : c ≤ 127 ∨ (128 ≤ c ∧ c ≤ 2047) ∨ (2048 ≤ c ∧ c ≤ 65535) ∨ 65536 ≤ c) with h | h | h | h
  · rw [by8_1 c h] at h1; simp at h1; omega
  · rw [by8_2 c h] at h1 ⊢
    obtain rfl : j = 1 := by simp at h1; omega
    exact ⟨_, _, rfl, lds_c _ (by omega)⟩
  · rw [by8_3 c h] at h1 ⊢
    rcases (by simp at h1; omega : j = 1 ∨ j = 2) with rfl | rfl
    · exact ⟨_, _, rfl, lds_c _ (by omega)⟩
    · exact ⟨_, _, rfl, lds_c _ (by omega)⟩
  · rw [by8_4 c h] at h1 ⊢
    rcases (by simp at h1; omega : j = 1 ∨ j = 2 ∨ j = 3) with rfl | rfl | rfl
    · exact ⟨_, _, rfl, lds_c _ (by omega)⟩
    · exact ⟨_, _, rfl, lds_c _ (by omega)⟩
    · exact ⟨_, _, rfl, lds_c _ (by omega)⟩

theorem no_six : (l p : List Int) → oks l = true → (j : Nat) → j < (encs l).length → (first ((encs l ++ p).drop j)).2.2 ≠ 6
  | [], _, _, j, hj => by simp [encs] at hj
  | c :: l, p, h, j, hj => by
    rw [oks_cons] at h
    simp at h
    rw [encs_cons] at hj ⊢
    by_cases h0 : j = 0
    · subst h0
      rw [List.drop_zero, List.append_assoc, first_enc c h.1]
      show (0 : Int) ≠ 6
      decide
    · by_cases h1 : j < (by8 c).length
      · obtain ⟨x, r, e, hx⟩ := by8_later c h.1 j (by omega) h1
        rw [List.append_assoc, List.drop_append_of_le_length (by omega), e]
        show (first (x :: (r ++ (encs l ++ p)))).2.2 ≠ 6
        rw [first_bad _ _ hx]
        decide
      · have e : j = (by8 c).length + (j - (by8 c).length) := by omega
        rw [e, List.append_assoc, ← List.drop_drop, List.drop_left]
        exact no_six l p h.2 _ (by simp at hj; omega)

theorem tailF_skip (bs : List Int) (t : Nat) : (N : Nat) → t ≤ N → (∀ n, t < n → n ≤ N → (first (bs.drop (bs.length - n))).2.2 ≠ 6) → tailF bs N = tailF bs t
  | 0, h, _ => by obtain rfl : t = 0 := by omega
                  rfl
  | N + 1, h, hn => by
    by_cases e : t = N + 1
    · rw [e]
    · rw [tailF_no bs (N + 1) (by omega) (hn (N + 1) (by omega) (by omega))]
      exact tailF_skip bs t N (by omega) (fun n h1 h2 => hn n h1 (by omega))

/-- The tail of whole characters, with or without one that is begun behind them. -/
theorem tail_of (l : List Int) (hl : oks l = true) (c : Int) (hc : sz c ≠ 0) (t : Nat) (ht : t < (by8 c).length) : tail8 (encs l ++ (by8 c).take t) = t := by
  have h4 := by8_len c
  have hlen : (encs l ++ (by8 c).take t).length = (encs l).length + t := by simp; omega
  unfold tail8
  rw [hlen, tailF_skip _ t (min 3 ((encs l).length + t)) (by omega) (fun n h1 h2 => by
    rw [hlen]; exact no_six l _ hl _ (by omega))]
  by_cases h0 : t = 0
  · subst h0; rfl
  · refine tailF_yes _ t (by omega) ?_
    rw [hlen, show (encs l).length + t - t = (encs l).length by omega, List.drop_left, first_cutoff c hc t (by omega) ht]

theorem cut_at : (l : List Int) → oks l = true → (k : Nat) → k ≤ (encs l).length → ∃ (l1 l2 : List Int) (c : Int) (t : Nat), l = l1 ++ l2 ∧ k = (encs l1).length + t ∧ sz c ≠ 0 ∧ t < (by8 c).length ∧ (encs l2).take t = (by8 c).take t
  | [], _, k, hk => ⟨[], [], 97, 0, rfl, by simpa [encs] using hk, by decide, by decide, by simp⟩
  | c :: l, h, k, hk => by
    have h' := h
    rw [oks_cons] at h'
    simp at h'
    by_cases h1 : k < (by8 c).length
    · refine ⟨[], c :: l, c, k, rfl, by simp [encs], h'.1, h1, ?_⟩
      rw [encs_cons, List.take_append_of_le_length (by omega)]
    · rw [encs_cons] at hk
      obtain ⟨l1, l2, d, t, e1, e2, e3, e4, e5⟩ := cut_at l h'.2 (k - (by8 c).length) (by simp at hk; omega)
      exact ⟨c :: l1, l2, d, t, by rw [e1]; rfl, by rw [encs_cons]; simp; omega, e3, e4, e5⟩

/-- Bytes of characters, cut anywhere: what is ahead of the cut without its tail is characters, and so is the rest with it. -/
theorem cut_parts (l : List Int) (h : oks l = true) (k : Nat) (hk : k ≤ (encs l).length) :
    ∃ l1 l2, l = l1 ++ l2 ∧ tail8 ((encs l).take k) ≤ 3 ∧ tail8 ((encs l).take k) ≤ k ∧ (encs l).take (k - tail8 ((encs l).take k)) = encs l1 ∧ (encs l).drop (k - tail8 ((encs l).take k)) = encs l2 ∧ oks l1 = true ∧ oks l2 = true := by
  obtain ⟨l1, l2, c, t, e1, e2, e3, e4, e5⟩ := cut_at l h k hk
  have h4 := by8_len c
  have ho := h
  rw [e1, oks_append] at ho
  simp at ho
  have et : (encs l).take k = encs l1 ++ (by8 c).take t := by
    rw [e1, encs_append, e2, List.take_length_add_append, e5]
  have etl : tail8 ((encs l).take k) = t := by rw [et]; exact tail_of l1 ho.1 c e3 t e4
  rw [etl]
  refine ⟨l1, l2, e1, by omega, by omega, ?_, ?_, ho.1, ho.2⟩
  · rw [e1, encs_append, e2, show (encs l1).length + t - t = (encs l1).length by omega, List.take_left]
  · rw [e1, encs_append, e2, show (encs l1).length + t - t = (encs l1).length by omega, List.drop_left]
end Go.Proofs.Ytdoflmgdmcmmfaa
