/- Plain mathematics of UTF-8, more: what is encoded is decoded, there is one way to write it, and beginnings are told. -/
import Derived.Test.YtdoflmgdmcmmfaaUtfN
namespace Go.Proofs.Ytdoflmgdmcmmfaa

theorem bgs_zero (c s : Int) : bgs c s 0 = decide (sz c = s) := by simp [bgs]
theorem sz_1 (c : Int) (h0 : 0 ≤ c) (h : c ≤ 127) : sz c = 1 := by unfold sz; rw [if_neg (by omega), if_neg (by omega), if_neg (by omega), if_pos (by omega)]
theorem sz_2 (c : Int) (h : 128 ≤ c ∧ c ≤ 2047) : sz c = 2 := by unfold sz; rw [if_neg (by omega), if_neg (by omega), if_neg (by omega), if_neg (by omega), if_pos (by omega)]
theorem sz_3 (c : Int) (h : 2048 ≤ c ∧ c ≤ 65535) (hs : sz c ≠ 0) : sz c = 3 := by
  have := sz_pos c hs
  unfold sz; rw [if_neg (by omega), if_neg (by omega), if_neg (by omega), if_neg (by omega), if_neg (by omega), if_pos (by omega)]
theorem sz_4 (c : Int) (h : 65536 ≤ c) (hs : sz c ≠ 0) : sz c = 4 := by
  have := sz_pos c hs
  unfold sz; rw [if_neg (by omega), if_neg (by omega), if_neg (by omega), if_neg (by omega), if_neg (by omega), if_neg (by omega)]
theorem lds_1 (x : Int) (h : x < 128) : lds x = 1 ∧ ldc x = x := by unfold lds ldc; rw [if_pos h, if_pos h]; exact ⟨rfl, rfl⟩
theorem lds_2 (x : Int) (h : 192 ≤ x ∧ x < 224) : lds x = 2 ∧ ldc x = x % 32 := by unfold lds ldc; rw [if_neg (by omega), if_neg (by omega), if_pos (by omega), if_neg (by omega), if_neg (by omega), if_pos (by omega)]; exact ⟨rfl, rfl⟩
theorem lds_3 (x : Int) (h : 224 ≤ x ∧ x < 240) : lds x = 3 ∧ ldc x = x % 16 := by unfold lds ldc; rw [if_neg (by omega), if_neg (by omega), if_neg (by omega), if_pos (by omega), if_neg (by omega), if_neg (by omega), if_neg (by omega), if_pos (by omega)]; exact ⟨rfl, rfl⟩
theorem lds_4 (x : Int) (h : 240 ≤ x ∧ x < 248) : lds x = 4 ∧ ldc x = x % 8 := by unfold lds ldc; rw [if_neg (by omega), if_neg (by omega), if_neg (by omega), if_neg (by omega), if_pos (by omega), if_neg (by omega), if_neg (by omega), if_neg (by omega), if_neg (by omega), if_pos (by omega)]; exact ⟨rfl, rfl⟩
theorem lds_c (x : Int) (h : 128 ≤ x ∧ x < 192) : lds x = 0 := by unfold lds; rw [if_neg (by omega), if_pos (by omega)]
theorem lds_inv (x : Int) (h : lds x ≠ 0) : (x < 128) ∨ (192 ≤ x ∧ x < 224) ∨ (224 ≤ x ∧ x < 240) ∨ (240 ≤ x ∧ x < 248) := by
  unfold lds at h; repeat' split at h
  all_goals omega
theorem cont_iff (x : Int) : cont x = true ↔ 128 ≤ x ∧ x < 192 := by simp [cont]

/-- First tells a character's bytes, however they go on. -/
theorem first_enc (c : Int) (hc : sz c ≠ 0) (more : List Int) : first (by8 c ++ more) = (c, sz c, 0) := by
  have hp := sz_pos c hc
  rcases (by omega : c ≤ 127 ∨ (128 ≤ c ∧ c ≤ 2047) ∨ (2048 ≤ c ∧ c ≤ 65535) ∨ 65536 ≤ c) with h | h | h | h
  · rw [by8_1 c h, sz_1 c hp.1 h]
    obtain ⟨e1, e2⟩ := lds_1 c (by omega)
    show first (c :: more) = _
    have e3 : tl8 c more = [] := by simp [tl8, e1]
    rw [first_ok c more (by omega) (by simp [e3]) (by simp [e1, e2, e3, fz, bgs_zero, sz_1 c hp.1 h]) (by simp [e1, e3])]
    simp [e1, e2, e3, fz]
  · rw [by8_2 c h, sz_2 c h]
    obtain ⟨e1, e2⟩ := lds_2 (192 + c / 64) (by omega)
    show first ((192 + c / 64) :: ((128 + c % 64) :: more)) = _
    have e3 : tl8 (192 + c / 64) ((128 + c % 64) :: more) = [128 + c % 64] := by simp [tl8, e1]
    have e4 : fz (ldc (192 + c / 64)) [128 + c % 64] = c := by simp [fz, e2]; omega
    rw [first_ok _ _ (by omega) (by simp [e3, cont_iff]; omega) (by rw [e3, e4, e1]; simp [bgs_zero, sz_2 c h]) (by simp [e1, e3]), e3, e4, e1]
  · have hs := sz_3 c h hc
    rw [by8_3 c h, hs]
    obtain ⟨e1, e2⟩ := lds_3 (224 + c / 64 / 64) (by omega)
    show first ((224 + c / 64 / 64) :: ((128 + c / 64 % 64) :: (128 + c % 64) :: more)) = _
    have e3 : tl8 (224 + c / 64 / 64) ((128 + c / 64 % 64) :: (128 + c % 64) :: more) = [128 + c / 64 % 64, 128 + c % 64] := by simp [tl8, e1]
    have e4 : fz (ldc (224 + c / 64 / 64)) [128 + c / 64 % 64, 128 + c % 64] = c := by simp [fz, e2]; omega
    rw [first_ok _ _ (by omega) (by simp [e3, cont_iff]; omega) (by rw [e3, e4, e1]; simp [bgs_zero, hs]) (by simp [e1, e3]), e3, e4, e1]
  · have hs := sz_4 c h hc
    rw [by8_4 c h, hs]
    obtain ⟨e1, e2⟩ := lds_4 (240 + c / 64 / 64 / 64) (by omega)
    show first ((240 + c / 64 / 64 / 64) :: ((128 + c / 64 / 64 % 64) :: (128 + c / 64 % 64) :: (128 + c % 64) :: more)) = _
    have e3 : tl8 (240 + c / 64 / 64 / 64) ((128 + c / 64 / 64 % 64) :: (128 + c / 64 % 64) :: (128 + c % 64) :: more) = [128 + c / 64 / 64 % 64, 128 + c / 64 % 64, 128 + c % 64] := by simp [tl8, e1]
    have e4 : fz (ldc (240 + c / 64 / 64 / 64)) [128 + c / 64 / 64 % 64, 128 + c / 64 % 64, 128 + c % 64] = c := by simp [fz, e2]; omega
    rw [first_ok _ _ (by omega) (by simp [e3, cont_iff]; omega) (by rw [e3, e4, e1]; simp [bgs_zero, hs]) (by simp [e1, e3]), e3, e4, e1]

theorem first_ok_inv (x : Int) (r : List Int) (h : (first (x :: r)).2.2 = 0) :
    lds x ≠ 0 ∧ (tl8 x r).all cont = true ∧ bgs (fz (ldc x) (tl8 x r)) (lds x) ((lds x).toNat - 1 - (tl8 x r).length) = true ∧ ¬ (tl8 x r).length < (lds x).toNat - 1 ∧ first (x :: r) = (fz (ldc x) (tl8 x r), lds x, 0) := by
  by_cases hs : lds x = 0
  · rw [first_bad x r hs] at h; simp at h
  · by_cases ha : (tl8 x r).all cont = true
    · by_cases hb : bgs (fz (ldc x) (tl8 x r)) (lds x) ((lds x).toNat - 1 - (tl8 x r).length) = true
      · by_cases hc : (tl8 x r).length < (lds x).toNat - 1
        · rw [first_short x r hs ha hb hc] at h; simp at h
        · exact ⟨hs, ha, hb, hc, first_ok x r hs ha hb hc⟩
      · rw [first_nb x r hs ha (by simpa using hb)] at h; simp at h
    · have : (tl8 x r).all cont = false := by simpa using ha
      simp [first, hs, this] at h

theorem len2 (l : List Int) (h : l.length = 2) : ∃ y z, l = [y, z] := by
  match l, h with
  | [a, b], _ => exact ⟨a, b, rfl⟩
theorem len3 (l : List Int) (h : l.length = 3) : ∃ y z u, l = [y, z, u] := by
  match l, h with
  | [a, b, c], _ => exact ⟨a, b, c, rfl⟩

/-- What First tells is a character, and the bytes are its own. -/
theorem first_inv (x : Int) (r : List Int) (h0 : 0 ≤ x) (h : (first (x :: r)).2.2 = 0) :
    sz (first (x :: r)).1 = (first (x :: r)).2.1 ∧ (first (x :: r)).2.1 ≠ 0 ∧ x :: r = by8 (first (x :: r)).1 ++ r.drop ((first (x :: r)).2.1.toNat - 1) := by
  obtain ⟨hs, ha, hb, hc, hf⟩ := first_ok_inv x r h
  have hl := tl8_len x r
  have hcut : r = tl8 x r ++ r.drop ((lds x).toNat - 1) := by simp [tl8]
  rw [hf]
  show sz (fz (ldc x) (tl8 x r)) = lds x ∧ lds x ≠ 0 ∧ x :: r = by8 (fz (ldc x) (tl8 x r)) ++ r.drop ((lds x).toNat - 1)
  have hm : (lds x).toNat - 1 - (tl8 x r).length = 0 := by omega
  rw [hm, bgs_zero, decide_eq_true_eq] at hb
  refine ⟨hb, hs, ?_⟩
  have hne : sz (fz (ldc x) (tl8 x r)) ≠ 0 := by rw [hb]; exact hs
  have key : x :: tl8 x r = by8 (fz (ldc x) (tl8 x r)) := by
    rw [List.all_eq_true] at ha
    rcases lds_inv x hs with k | k | k | k
    · obtain ⟨e1, e2⟩ := lds_1 x k
      have e3 : tl8 x r = [] := by simp [tl8, e1]
      rw [e3, e2]
      show [x] = by8 x
      rw [by8_1 x (by omega)]
    · obtain ⟨e1, e2⟩ := lds_2 x k
      have h1 : (tl8 x r).length = 1 := by have := tl8_len x r; rw [e1] at hc this; simp at hc this; omega
      obtain ⟨y, hy⟩ : ∃ y, tl8 x r = [y] := List.length_eq_one_iff.1 h1
      rw [hy] at hb ha hne ⊢
      have hy1 := (cont_iff y).1 (ha y (by simp))
      have e4 : fz (ldc x) [y] = x % 32 * 64 + y % 64 := by simp [fz, e2]
      rw [e4] at hb hne ⊢
      rw [e1] at hb
      have hr : 128 ≤ x % 32 * 64 + y % 64 := by
        rcases Int.lt_or_le (x % 32 * 64 + y % 64) 128 with h | h
        · rw [sz_1 _ (by omega) (by omega)] at hb; omega
        · exact h
      rw [by8_2 _ (by omega)]
      congr 1
      · omega
      · congr 1; omega
    · obtain ⟨e1, e2⟩ := lds_3 x k
      have h1 : (tl8 x r).length = 2 := by have := tl8_len x r; rw [e1] at hc this; simp at hc this; omega
      obtain ⟨y, z, hy⟩ : ∃ y z, tl8 x r = [y, z] := len2 _ h1
      rw [hy] at hb ha hne ⊢
      have hy1 := (cont_iff y).1 (ha y (by simp))
      have hz1 := (cont_iff z).1 (ha z (by simp))
      have e4 : fz (ldc x) [y, z] = (x % 16 * 64 + y % 64) * 64 + z % 64 := by simp [fz, e2]
      rw [e4] at hb hne ⊢
      rw [e1] at hb
      have hr : 2048 ≤ (x % 16 * 64 + y % 64) * 64 + z % 64 := by
        rcases Int.lt_or_le ((x % 16 * 64 + y % 64) * 64 + z % 64) 2048 with h | h
        · rcases Int.lt_or_le ((x % 16 * 64 + y % 64) * 64 + z % 64) 128 with h2 | h2
          · rw [sz_1 _ (by omega) (by omega)] at hb; omega
          · rw [sz_2 _ (by omega)] at hb; omega
        · exact h
      rw [by8_3 _ (by omega)]
      congr 1
      · omega
      · congr 1
        · omega
        · congr 1; omega
    · obtain ⟨e1, e2⟩ := lds_4 x k
      have h1 : (tl8 x r).length = 3 := by have := tl8_len x r; rw [e1] at hc this; simp at hc this; omega
      obtain ⟨y, z, u, hy⟩ : ∃ y z u, tl8 x r = [y, z, u] := len3 _ h1
      rw [hy] at hb ha hne ⊢
      have hy1 := (cont_iff y).1 (ha y (by simp))
      have hz1 := (cont_iff z).1 (ha z (by simp))
      have hu1 := (cont_iff u).1 (ha u (by simp))
      have e4 : fz (ldc x) [y, z, u] = ((x % 8 * 64 + y % 64) * 64 + z % 64) * 64 + u % 64 := by simp [fz, e2]
      rw [e4] at hb hne ⊢
      rw [e1] at hb
      have hr : 65536 ≤ ((x % 8 * 64 + y % 64) * 64 + z % 64) * 64 + u % 64 := by
        rcases Int.lt_or_le (((x % 8 * 64 + y % 64) * 64 + z % 64) * 64 + u % 64) 65536 with h | h
        · rcases Int.lt_or_le (((x % 8 * 64 + y % 64) * 64 + z % 64) * 64 + u % 64) 2048 with h2 | h2
          · rcases Int.lt_or_le (((x % 8 * 64 + y % 64) * 64 + z % 64) * 64 + u % 64) 128 with h3 | h3
            · rw [sz_1 _ (by omega) (by omega)] at hb; omega
            · rw [sz_2 _ (by omega)] at hb; omega
          · rw [sz_3 _ (by omega) hne] at hb; omega
        · exact h
      rw [by8_4 _ (by omega)]
      congr 1
      · omega
      · congr 1
        · omega
        · congr 1
          · omega
          · congr 1; omega
  rw [← key]
  show x :: r = x :: (tl8 x r ++ _)
  rw [← hcut]

theorem dec_encs : (l : List Int) → oks l = true → dec (encs l) = some l
  | [], _ => dec_nil
  | c :: l, h => by
    rw [oks_cons] at h
    simp at h
    have hl := by8_len c
    have hz := sz_len c h.1
    rw [encs_cons]
    have hf := first_enc c h.1 (encs l)
    cases e : by8 c with
    | nil => rw [e] at hl; simp at hl
    | cons x r =>
      rw [e] at hf hz hl
      simp at hz
      show dec (x :: (r ++ encs l)) = _
      have hf' : first (x :: (r ++ encs l)) = (c, sz c, 0) := hf
      rw [dec_ok _ _ (by rw [hf']), hf']
      show (dec ((r ++ encs l).drop ((sz c).toNat - 1))).map (c :: ·) = _
      have e2 : (sz c).toNat - 1 = r.length := by omega
      rw [e2, List.drop_left, dec_encs l h.2]
      rfl

theorem dec_inv (n : Nat) : (bs cs : List Int) → bs.length ≤ n → (∀ y ∈ bs, 0 ≤ y ∧ y ≤ 255) → dec bs = some cs → oks cs = true ∧ encs cs = bs := by
  induction n with
  | zero =>
    intro bs cs hl _ h
    cases bs with
    | nil => rw [dec_nil] at h; cases h; exact ⟨rfl, rfl⟩
    | cons _ _ => simp at hl
  | succ n ih =>
    intro bs cs hl hr h
    cases bs with
    | nil => rw [dec_nil] at h; cases h; exact ⟨rfl, rfl⟩
    | cons x r =>
      have hx := hr x (by simp)
      by_cases he : (first (x :: r)).2.2 = 0
      · obtain ⟨h1, h2, h3⟩ := first_inv x r hx.1 he
        rw [dec_ok x r he] at h
        cases hd : dec (r.drop ((first (x :: r)).2.1.toNat - 1)) with
        | none => rw [hd] at h; simp at h
        | some cs' =>
          rw [hd] at h
          simp at h
          subst h
          obtain ⟨i1, i2⟩ := ih _ cs' (by simp at hl ⊢; omega) (fun y hy => hr y (List.mem_cons_of_mem _ (List.mem_of_mem_drop hy))) hd
          refine ⟨by rw [oks_cons, i1, h1]; simpa using h2, ?_⟩
          rw [encs_cons, i2]
          exact h3.symm
      · rw [dec_bad x r he] at h; cases h
theorem len_le_encs (l : List Int) : l.length ≤ (encs l).length := by
  induction l with
  | nil => simp
  | cons c l ih => rw [encs_cons]; have := by8_len c; simp; omega
end Go.Proofs.Ytdoflmgdmcmmfaa
