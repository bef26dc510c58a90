/- Plain mathematics of UTF-8 over integers: sizes, bytes, first characters; nothing of the program is named here. -/
namespace Go.Proofs.Ytdoflmgdmcmmfab

/-- How many bytes a number has; 0, if it is no character. -/
def sz (c : Int) : Int :=
  if c < 0 then 0 else if 1114111 < c then 0 else if 55296 ≤ c ∧ c ≤ 57343 then 0 else if c ≤ 127 then 1 else if c ≤ 2047 then 2 else if c ≤ 65535 then 3 else 4

/-- The bytes of a character. -/
def by8 (c : Int) : List Int :=
  if c ≤ 127 then [c] else if c ≤ 2047 then [192 + c / 64, 128 + c % 64]
  else if c ≤ 65535 then [224 + c / 64 / 64, 128 + c / 64 % 64, 128 + c % 64]
  else [240 + c / 64 / 64 / 64, 128 + c / 64 / 64 % 64, 128 + c / 64 % 64, 128 + c % 64]

/-- Are all of them characters? -/
def oks (l : List Int) : Bool := l.all fun c => decide (sz c ≠ 0)
/-- The bytes of a row of characters. -/
def encs (l : List Int) : List Int := l.flatMap by8

theorem sz_le (c : Int) : 0 ≤ sz c ∧ sz c ≤ 4 := by unfold sz; repeat' split; all_goals omega
theorem sz_len (c : Int) (h : sz c ≠ 0) : ((by8 c).length : Int) = sz c := by
  unfold sz at *; unfold by8
  repeat' split at h
  all_goals (repeat' split) <;> simp_all <;> omega
theorem sz_pos (c : Int) (h : sz c ≠ 0) : 0 ≤ c ∧ c ≤ 1114111 ∧ (c < 55296 ∨ 57343 < c) := by
  unfold sz at h; repeat' split at h
  all_goals omega
theorem by8_rng (c : Int) (h : sz c ≠ 0) : ∀ x ∈ by8 c, 0 ≤ x ∧ x ≤ 255 := by
  have hp := sz_pos c h
  unfold by8
  repeat' split
  all_goals simp <;> omega

/-- The first byte's part of the number. -/
def ldc (x : Int) : Int := if x < 128 then x else if x < 192 then 0 else if x < 224 then x % 32 else if x < 240 then x % 16 else if x < 248 then x % 8 else 0
/-- How many bytes a first byte says; 0, if it is none. -/
def lds (x : Int) : Int := if x < 128 then 1 else if x < 192 then 0 else if x < 224 then 2 else if x < 240 then 3 else if x < 248 then 4 else 0

/-- Has some character of s bytes the bits c, and behind them those of m bytes more? -/
def bgs (c s : Int) (m : Nat) : Bool := decide (sz (c * 64 ^ m) = s) || decide (sz (c * 64 ^ m + (64 ^ m - 1)) = s)

theorem ld_le (x : Int) (h0 : 0 ≤ x) (h1 : x ≤ 255) : 0 ≤ lds x ∧ lds x ≤ 4 ∧ 0 ≤ ldc x ∧ (lds x = 1 → ldc x < 128) ∧ (lds x = 2 → ldc x < 32) ∧ (lds x = 3 → ldc x < 16) ∧ (lds x = 4 → ldc x < 8) := by
  unfold lds ldc; repeat' split
  all_goals omega
theorem by8_1 (c : Int) (h : c ≤ 127) : by8 c = [c] := by unfold by8; rw [if_pos h]
theorem by8_2 (c : Int) (h : 128 ≤ c ∧ c ≤ 2047) : by8 c = [192 + c / 64, 128 + c % 64] := by unfold by8; rw [if_neg (by omega), if_pos (by omega)]
theorem by8_3 (c : Int) (h : 2048 ≤ c ∧ c ≤ 65535) : by8 c = [224 + c / 64 / 64, 128 + c / 64 % 64, 128 + c % 64] := by unfold by8; rw [if_neg (by omega), if_neg (by omega), if_pos (by omega)]
theorem by8_4 (c : Int) (h : 65536 ≤ c) : by8 c = [240 + c / 64 / 64 / 64, 128 + c / 64 / 64 % 64, 128 + c / 64 % 64, 128 + c % 64] := by unfold by8; rw [if_neg (by omega), if_neg (by omega), if_neg (by omega)]
theorem oks_append (a b : List Int) : oks (a ++ b) = (oks a && oks b) := by simp [oks]
theorem oks_cons (c : Int) (b : List Int) : oks (c :: b) = (decide (sz c ≠ 0) && oks b) := by simp [oks]
theorem encs_append (a b : List Int) : encs (a ++ b) = encs a ++ encs b := by simp [encs]
theorem encs_cons (c : Int) (b : List Int) : encs (c :: b) = by8 c ++ encs b := by simp [encs]
theorem by8_len (c : Int) : 1 ≤ (by8 c).length ∧ (by8 c).length ≤ 4 := by
  rcases (by omega : c ≤ 127 ∨ (128 ≤ c ∧ c ≤ 2047) ∨ (2048 ≤ c ∧ c ≤ 65535) ∨ 65536 ≤ c) with h | h | h | h
  · rw [by8_1 c h]; simp
  · rw [by8_2 c h]; simp
  · rw [by8_3 c h]; simp
  · rw [by8_4 c h]; simp
theorem encs_len (l : List Int) : (encs l).length ≤ 4 * l.length := by
  induction l with
  | nil => simp [encs]
  | cons c l ih => rw [encs_cons]; have := by8_len c; simp; omega
theorem take_snoc_int (l : List Int) (k : Nat) (h : k < l.length) : l.take (k + 1) = l.take k ++ [l.getD k 0] := by
  rw [List.take_succ_eq_append_getElem h]; simp [h]
theorem encs_take (l : List Int) (k : Nat) (h : k < l.length) : encs (l.take (k + 1)) = encs (l.take k) ++ by8 (l.getD k 0) := by
  rw [take_snoc_int l k h, encs_append]; simp [encs]
theorem oks_take (l : List Int) (k : Nat) (h : k < l.length) : oks (l.take (k + 1)) = (oks (l.take k) && decide (sz (l.getD k 0) ≠ 0)) := by
  rw [take_snoc_int l k h, oks_append]; simp [oks]
theorem oks_get (l : List Int) (h : oks l = true) (k : Nat) (hk : k < l.length) : sz (l.getD k 0) ≠ 0 := by
  simp [oks] at h
  have := h (l.getD k 0) (by simp [hk])
  exact this
theorem oks_not (l : List Int) (k : Nat) (hk : k < l.length) (h : sz (l.getD k 0) = 0) : oks l = false := by
  cases e : oks l with
  | false => rfl
  | true => exact absurd h (oks_get l e k hk)
theorem encs_take_len (l : List Int) (k : Nat) : (encs (l.take k)).length ≤ 4 * k := by
  have := encs_len (l.take k); have h2 := List.length_take_le k l; omega

/-- A byte that is not a first one. -/
def cont (x : Int) : Bool := decide (128 ≤ x) && decide (x < 192)
/-- The bits of later bytes behind those of the first. -/
def fz (c : Int) (l : List Int) : Int := l.foldl (fun c x => c * 64 + x % 64) c
/-- The later bytes that are there. -/
def tl8 (x : Int) (r : List Int) : List Int := r.take ((lds x).toNat - 1)
/-- The first character, its size and the error's number. -/
def first : List Int → Int × Int × Int
  | [] => (0, 0, 5)
  | x :: r =>
    if lds x = 0 then (0, 0, 2)
    else if (tl8 x r).all cont then
      if bgs (fz (ldc x) (tl8 x r)) (lds x) ((lds x).toNat - 1 - (tl8 x r).length) then
        if (tl8 x r).length < (lds x).toNat - 1 then (0, 0, 6) else (fz (ldc x) (tl8 x r), lds x, 0)
      else (0, 0, 2)
    else (0, 0, 2)

theorem first_bad (x : Int) (r : List Int) (h : lds x = 0) : first (x :: r) = (0, 0, 2) := by simp [first, h]
theorem first_cut (x : Int) (r : List Int) (h : lds x ≠ 0) (k : Nat) (hk : k < (tl8 x r).length) (hc : cont ((tl8 x r).getD k 0) = false) : first (x :: r) = (0, 0, 2) := by
  have : (tl8 x r).all cont = false := by
    cases e : (tl8 x r).all cont with
    | false => rfl
    | true =>
      rw [List.all_eq_true] at e
      have := e ((tl8 x r).getD k 0) (by simp [hk])
      rw [hc] at this; cases this
  simp [first, h, this]
theorem first_nb (x : Int) (r : List Int) (h : lds x ≠ 0) (ha : (tl8 x r).all cont = true) (hb : bgs (fz (ldc x) (tl8 x r)) (lds x) ((lds x).toNat - 1 - (tl8 x r).length) = false) : first (x :: r) = (0, 0, 2) := by
  simp only [first, h, ha, hb]; simp
theorem first_short (x : Int) (r : List Int) (h : lds x ≠ 0) (ha : (tl8 x r).all cont = true) (hb : bgs (fz (ldc x) (tl8 x r)) (lds x) ((lds x).toNat - 1 - (tl8 x r).length) = true) (hs : (tl8 x r).length < (lds x).toNat - 1) : first (x :: r) = (0, 0, 6) := by
  simp only [first, h, ha, hb, hs]; simp
theorem first_ok (x : Int) (r : List Int) (h : lds x ≠ 0) (ha : (tl8 x r).all cont = true) (hb : bgs (fz (ldc x) (tl8 x r)) (lds x) ((lds x).toNat - 1 - (tl8 x r).length) = true) (hs : ¬ (tl8 x r).length < (lds x).toNat - 1) : first (x :: r) = (fz (ldc x) (tl8 x r), lds x, 0) := by
  simp only [first, h, ha, hb, hs]; simp
theorem fz_snoc (c : Int) (l : List Int) (x : Int) : fz c (l ++ [x]) = fz c l * 64 + x % 64 := by simp [fz]
theorem fz_take (c : Int) (l : List Int) (k : Nat) (h : k < l.length) : fz c (l.take (k + 1)) = fz c (l.take k) * 64 + l.getD k 0 % 64 := by
  rw [take_snoc_int l k h, fz_snoc]
theorem all_take (l : List Int) (k : Nat) (h : k < l.length) : (l.take (k + 1)).all cont = ((l.take k).all cont && cont (l.getD k 0)) := by
  rw [take_snoc_int l k h]; simp
theorem fz_bd (c M : Int) (h0 : 0 ≤ c) (h1 : c < M) : (l : List Int) → 0 ≤ fz c l ∧ fz c l < M * 64 ^ l.length
  | [] => by simp [fz]; omega
  | x :: l => by
    have ih := fz_bd (c * 64 + x % 64) (M * 64) (by omega) (by omega) l
    have e : fz c (x :: l) = fz (c * 64 + x % 64) l := rfl
    rw [e]
    refine ⟨ih.1, ?_⟩
    have := ih.2
    rw [List.length_cons, Int.pow_succ, Int.mul_comm (64 ^ l.length) 64, ← Int.mul_assoc]
    exact this
theorem tl8_len (x : Int) (r : List Int) : (tl8 x r).length = min ((lds x).toNat - 1) r.length := by simp [tl8]
theorem tl8_bd (x : Int) (r : List Int) (h0 : 0 ≤ x) (h1 : x ≤ 255) (hs : lds x ≠ 0) (k : Nat) (hk : k ≤ (tl8 x r).length) :
    0 ≤ fz (ldc x) ((tl8 x r).take k) ∧ fz (ldc x) ((tl8 x r).take k) * 64 ^ ((lds x).toNat - 1 - k) ≤ 2097151 - 64 ^ ((lds x).toNat - 1 - k) + 1 ∧ (k < (tl8 x r).length → fz (ldc x) ((tl8 x r).take k) ≤ 32767) := by
  have hl := ld_le x h0 h1
  have ht : (tl8 x r).length ≤ (lds x).toNat - 1 := by have := tl8_len x r; omega
  have hlen : ((tl8 x r).take k).length = k := by simp; omega
  rcases (by omega : lds x = 1 ∨ lds x = 2 ∨ lds x = 3 ∨ lds x = 4) with h | h | h | h
  · have hb := fz_bd (ldc x) 128 hl.2.2.1 (hl.2.2.2.1 h) ((tl8 x r).take k)
    rw [hlen] at hb
    rw [h] at ht ⊢
    obtain rfl : k = 0 := by omega
    simp at hb ⊢
    omega
  · have hb := fz_bd (ldc x) 32 hl.2.2.1 (hl.2.2.2.2.1 h) ((tl8 x r).take k)
    rw [hlen] at hb
    rw [h] at ht ⊢
    rcases (by omega : k = 0 ∨ k = 1) with rfl | rfl
    all_goals (simp at hb ⊢; omega)
  · have hb := fz_bd (ldc x) 16 hl.2.2.1 (hl.2.2.2.2.2.1 h) ((tl8 x r).take k)
    rw [hlen] at hb
    rw [h] at ht ⊢
    rcases (by omega : k = 0 ∨ k = 1 ∨ k = 2) with rfl | rfl | rfl
    all_goals (simp at hb ⊢; omega)
  · have hb := fz_bd (ldc x) 8 hl.2.2.1 (hl.2.2.2.2.2.2 h) ((tl8 x r).take k)
    rw [hlen] at hb
    rw [h] at ht ⊢
    rcases (by omega : k = 0 ∨ k = 1 ∨ k = 2 ∨ k = 3) with rfl | rfl | rfl | rfl
    all_goals (simp at hb ⊢; omega)

/-- The characters whose bytes these are, in at most so many steps. -/
def decF : Nat → List Int → Option (List Int)
  | 0, _ => some []
  | _ + 1, [] => some []
  | n + 1, x :: r => if (first (x :: r)).2.2 = 0 then (decF n (r.drop ((first (x :: r)).2.1.toNat - 1))).map ((first (x :: r)).1 :: ·) else none
/-- The characters whose bytes these are. -/
def dec (bs : List Int) : Option (List Int) := decF bs.length bs
theorem decF_fuel : (n m : Nat) → (bs : List Int) → bs.length ≤ n → bs.length ≤ m → decF n bs = decF m bs
  | 0, 0, _, _, _ => rfl
  | 0, _ + 1, [], _, _ => rfl
  | 0, _ + 1, _ :: _, h, _ => absurd h (by simp)
  | _ + 1, 0, [], _, _ => rfl
  | _ + 1, 0, _ :: _, _, h => absurd h (by simp)
  | _ + 1, _ + 1, [], _, _ => rfl
  | n + 1, m + 1, x :: r, hn, hm => by
    simp only [decF]
    rw [decF_fuel n m (r.drop ((first (x :: r)).2.1.toNat - 1)) (by simp at hn ⊢; omega) (by simp at hm ⊢; omega)]

theorem dec_nil : dec [] = some [] := rfl
theorem dec_bad (x : Int) (r : List Int) (h : (first (x :: r)).2.2 ≠ 0) : dec (x :: r) = none := by
  show decF (r.length + 1) (x :: r) = none
  simp only [decF]; rw [if_neg h]
theorem dec_ok (x : Int) (r : List Int) (h : (first (x :: r)).2.2 = 0) : dec (x :: r) = (dec (r.drop ((first (x :: r)).2.1.toNat - 1))).map ((first (x :: r)).1 :: ·) := by
  show decF (r.length + 1) (x :: r) = _
  simp only [decF]; rw [if_pos h]
  unfold dec
  rw [decF_fuel r.length _ _ (by simp) (Nat.le_refl _)]
theorem first_n (x : Int) (r : List Int) (h0 : 0 ≤ x) (h1 : x ≤ 255) (h : (first (x :: r)).2.2 = 0) : 1 ≤ (first (x :: r)).2.1 ∧ (first (x :: r)).2.1 ≤ 4 ∧ (first (x :: r)).2.1 ≤ r.length + 1 ∧ lds x ≠ 0 := by
  have hl := ld_le x h0 h1
  have hn := tl8_len x r
  by_cases hs : lds x = 0
  · rw [first_bad x r hs] at h; simp at h
  · by_cases ha : (tl8 x r).all cont = true
    · by_cases hb : bgs (fz (ldc x) (tl8 x r)) (lds x) ((lds x).toNat - 1 - (tl8 x r).length) = true
      · by_cases hc : (tl8 x r).length < (lds x).toNat - 1
        · rw [first_short x r hs ha hb hc] at h; simp at h
        · rw [first_ok x r hs ha hb hc]; exact ⟨by show 1 ≤ lds x; omega, by show lds x ≤ 4; omega, by show lds x ≤ _; omega, hs⟩
      · rw [first_nb x r hs ha (by simpa using hb)] at h; simp at h
    · have : (tl8 x r).all cont = false := by simpa using ha
      simp [first, hs, this] at h

/-- The longest row of at most k bytes at the end that is begun, but not whole. -/
def tailF (bs : List Int) : Nat → Nat
  | 0 => 0
  | n + 1 => if (first (bs.drop (bs.length - (n + 1)))).2.2 = 6 then n + 1 else tailF bs n
def tail8 (bs : List Int) : Nat := tailF bs (min 3 bs.length)
theorem tailF_yes (bs : List Int) (n : Nat) (hn : 1 ≤ n) (h : (first (bs.drop (bs.length - n))).2.2 = 6) : tailF bs n = n := by
  obtain ⟨m, rfl⟩ : ∃ m, n = m + 1 := ⟨n - 1, by omega⟩
  simp [tailF, h]
theorem tailF_no (bs : List Int) (n : Nat) (hn : 1 ≤ n) (h : (first (bs.drop (bs.length - n))).2.2 ≠ 6) : tailF bs n = tailF bs (n - 1) := by
  obtain ⟨m, rfl⟩ : ∃ m, n = m + 1 := ⟨n - 1, by omega⟩
  simp [tailF, h]
theorem tailF_le (bs : List Int) : (n : Nat) → tailF bs n ≤ n
  | 0 => by simp [tailF]
  | n + 1 => by
    have := tailF_le bs n
    simp only [tailF]; split <;> omega
end Go.Proofs.Ytdoflmgdmcmmfab
