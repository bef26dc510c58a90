/- Plain mathematics of numbers and texts as bytes, over integers; nothing of the program is named here. -/
import Derived.Laws.MathBits
namespace Go.Proofs.Ytcbnmahbdcjamaa
set_option linter.unusedVariables false

/-- The bytes of a number, with so many steps left. -/
def pkF : Nat → Int → List Int
  | 0, v => [v]
  | f + 1, v => if v ≤ 127 then [v] else (128 + v % 128) :: pkF f (v / 128)
/-- The bytes of a number. -/
def pk (v : Int) : List Int := pkF 9 v
/-- The number at the beginning, with so many bytes left that it may have. -/
def gtF : Nat → List Int → Option (Int × Nat)
  | 0, _ => none
  | _ + 1, [] => none
  | f + 1, x :: r => if x < 128 then (if (f = 0 ∧ 1 < x) ∨ (f ≠ 9 ∧ x = 0) then none else some (x, 1)) else (gtF f r).map fun p => (x - 128 + 128 * p.1, p.2 + 1)
/-- The number at the beginning. -/
def gt (bs : List Int) : Option (Int × Nat) := gtF 10 bs
/-- What bytes come to, seven bits each. -/
def vl : List Int → Int
  | [] => 0
  | x :: r => x % 128 + 128 * vl r

theorem pow_pos (f : Nat) : (1 : Int) ≤ 128 ^ f := by
  induction f with
  | zero => simp
  | succ f ih => rw [Int.pow_succ]; omega
theorem pow_s (f : Nat) : (128 : Int) ^ (f + 1) = 128 * 128 ^ f := by rw [Int.pow_succ]; omega

theorem pkF_low (f : Nat) (v : Int) (h : v ≤ 127) : pkF f v = [v] := by
  cases f with
  | zero => rfl
  | succ f => rw [pkF, if_pos h]
theorem pkF_high (f : Nat) (v : Int) (h : 127 < v) : pkF (f + 1) v = (128 + v % 128) :: pkF f (v / 128) := by
  rw [pkF, if_neg (by omega)]
theorem pkF_more : (f : Nat) → (v : Int) → v < 128 ^ (f + 1) → pkF (f + 1) v = pkF f v
  | 0, v, h => by rw [pkF_low 1 v (by simp at h; omega)]; rfl
  | f + 1, v, h => by
    by_cases hv : v ≤ 127
    · rw [pkF_low _ v hv, pkF_low _ v hv]
    · rw [pkF_high _ v (by omega), pkF_high _ v (by omega), pkF_more f (v / 128) (by rw [pow_s] at h; omega)]
theorem pk_low (v : Int) (h : v ≤ 127) : pk v = [v] := pkF_low 9 v h
theorem pk_high (v : Int) (h : 127 < v) (h1 : v ≤ 18446744073709551615) : pk v = (128 + v % 128) :: pk (v / 128) := by
  unfold pk
  rw [pkF_high _ v h, pkF_more 8 (v / 128) (by simp; omega)]
theorem pkF_len : (f : Nat) → (v : Int) → 1 ≤ (pkF f v).length ∧ (pkF f v).length ≤ f + 1
  | 0, v => by simp [pkF]
  | f + 1, v => by
    have := pkF_len f (v / 128)
    rw [pkF]; split <;> simp <;> omega
theorem pk_len (v : Int) : 1 ≤ (pk v).length ∧ (pk v).length ≤ 10 := pkF_len 9 v
theorem pkF_rng : (f : Nat) → (v : Int) → 0 ≤ v → v < 128 ^ (f + 1) → ∀ y ∈ pkF f v, 0 ≤ y ∧ y ≤ 255
  | 0, v, h0, h => by simp at h; simp [pkF]; omega
  | f + 1, v, h0, h => by
    intro y hy
    by_cases hv : v ≤ 127
    · rw [pkF_low _ v hv] at hy; simp at hy; omega
    · rw [pkF_high _ v (by omega)] at hy
      rcases List.mem_cons.1 hy with rfl | hy
      · omega
      · exact pkF_rng f (v / 128) (by omega) (by rw [pow_s] at h; omega) y hy
theorem pk_rng (v : Int) (h0 : 0 ≤ v) (h1 : v ≤ 18446744073709551615) : ∀ y ∈ pk v, 0 ≤ y ∧ y ≤ 255 :=
  pkF_rng 9 v h0 (by simp; omega)
theorem pkF_mono : (f : Nat) → (v w : Int) → v ≤ w → (pkF f v).length ≤ (pkF f w).length
  | 0, v, w, _ => by simp [pkF]
  | f + 1, v, w, h => by
    by_cases hv : v ≤ 127
    · rw [pkF_low _ v hv]; have := (pkF_len (f + 1) w).1; simpa using this
    · rw [pkF_high _ v (by omega), pkF_high _ w (by omega)]
      have := pkF_mono f (v / 128) (w / 128) (by omega)
      simp; omega
theorem pk_mono (v w : Int) (h : v ≤ w) : (pk v).length ≤ (pk w).length := pkF_mono 9 v w h
theorem pkF_vl : (f : Nat) → (v : Int) → 0 ≤ v → v < 128 ^ (f + 1) → vl (pkF f v) = v
  | 0, v, h0, h => by simp at h; simp [pkF, vl]; omega
  | f + 1, v, h0, h => by
    by_cases hv : v ≤ 127
    · rw [pkF_low _ v hv]; simp [vl]; omega
    · rw [pkF_high _ v (by omega), vl, pkF_vl f (v / 128) (by omega) (by rw [pow_s] at h; omega)]; omega
theorem pk_vl (v : Int) (h0 : 0 ≤ v) (h1 : v ≤ 18446744073709551615) : vl (pk v) = v := pkF_vl 9 v h0 (by simp; omega)

theorem gtF_back (more : List Int) : (f : Nat) → (v : Int) → f ≤ 9 → 0 ≤ v → v < 2 * 128 ^ f → (f ≠ 9 → v ≠ 0) → gtF (f + 1) (pkF f v ++ more) = some (v, (pkF f v).length)
  | 0, v, _, h0, h, hn => by
    simp at h hn
    simp only [pkF, List.cons_append, List.nil_append, gtF]
    rw [if_pos (by omega), if_neg (by omega)]; rfl
  | f + 1, v, hf, h0, h, hn => by
    by_cases hv : v ≤ 127
    · rw [pkF_low _ v hv]
      simp only [List.cons_append, List.nil_append, gtF]
      rw [if_pos (by omega), if_neg (by omega)]; rfl
    · rw [pkF_high _ v (by omega)]
      have ih := gtF_back more f (v / 128) (by omega) (by omega) (by rw [pow_s] at h; omega) (by omega)
      simp only [List.cons_append]
      rw [gtF, if_neg (by omega), ih]
      simp
      omega
theorem gt_back (v : Int) (more : List Int) (h0 : 0 ≤ v) (h1 : v ≤ 18446744073709551615) : gt (pk v ++ more) = some (v, (pk v).length) :=
  gtF_back more 9 v (by omega) h0 (by simp; omega) (by omega)
theorem gtF_inv : (f : Nat) → (bs : List Int) → (v : Int) → (n : Nat) → (∀ y ∈ bs, 0 ≤ y ∧ y ≤ 255) → gtF (f + 1) bs = some (v, n) → 0 ≤ v ∧ v < 2 * 128 ^ f ∧ (f ≠ 9 → v ≠ 0) ∧ n ≤ bs.length ∧ bs.take n = pkF f v ∨ 9 < f
  | f, [], v, n, hr, h => by simp [gtF] at h
  | 0, x :: r, v, n, hr, h => by
    left
    have hx := hr x (by simp)
    simp only [gtF] at h
    by_cases h1 : x < 128
    · rw [if_pos h1] at h
      by_cases hb : 1 < x ∨ x = 0
      · rw [if_pos (by simpa using hb)] at h; cases h
      · rw [if_neg (by simpa using hb)] at h; cases h; simp [pkF]; omega
    · rw [if_neg h1] at h; simp at h
  | f + 1, x :: r, v, n, hr, h => by
    by_cases hf9 : 9 < f + 1
    · exact .inr hf9
    left
    have hx := hr x (by simp)
    have hp := pow_pos f
    have hs := pow_s f
    rw [gtF] at h
    by_cases h1 : x < 128
    · rw [if_pos h1] at h
      split at h
      · cases h
      · cases h
        refine ⟨hx.1, by omega, by omega, by simp, ?_⟩
        rw [pkF_low _ _ (by omega)]; rfl
    · rw [if_neg h1] at h
      cases hg : gtF (f + 1) r with
      | none => rw [hg] at h; cases h
      | some p =>
        rw [hg] at h
        obtain ⟨u, m⟩ := p
        simp at h
        obtain ⟨rfl, rfl⟩ := h
        have ih := gtF_inv f r u m (fun y hy => hr y (by simp [hy])) hg
        rcases ih with ⟨i1, i2, i3, i4, i5⟩ | ih
        · have i3' := i3 (by omega)
          refine ⟨by omega, by omega, by omega, by simp; omega, ?_⟩
          rw [pkF_high _ _ (by omega), show (x - 128 + 128 * u) % 128 = x - 128 by omega, show (x - 128 + 128 * u) / 128 = u by omega, ← i5]
          simp; omega
        · omega
theorem gt_inv (bs : List Int) (v : Int) (n : Nat) (hr : ∀ y ∈ bs, 0 ≤ y ∧ y ≤ 255) (h : gt bs = some (v, n)) : 0 ≤ v ∧ v ≤ 18446744073709551615 ∧ n ≤ bs.length ∧ bs.take n = pk v ∧ n = (pk v).length := by
  rcases gtF_inv 9 bs v n hr h with ⟨h1, h2, _, h4, h5⟩ | h
  · refine ⟨h1, by simp at h2; omega, h4, h5, ?_⟩
    have e := congrArg List.length h5
    rw [List.length_take] at e
    show n = (pkF 9 v).length
    omega
  · omega
theorem gt_at (bs : List Int) (v : Int) (n : Nat) (h0 : 0 ≤ v) (h1 : v ≤ 18446744073709551615) (h : bs.take n = pk v) (hn : n ≤ bs.length) : gt bs = some (v, n) := by
  have e := gt_back v (bs.drop n) h0 h1
  rw [← h, List.take_append_drop] at e
  rw [e, List.length_take, Nat.min_eq_left hn]
theorem pk_inj (v w : Int) (h0 : 0 ≤ v) (h1 : v ≤ 18446744073709551615) (g0 : 0 ≤ w) (g1 : w ≤ 18446744073709551615) (h : pk v = pk w) : v = w := by
  rw [← pk_vl v h0 h1, ← pk_vl w g0 g1, h]

theorem gtF_high : (f : Nat) → (bs : List Int) → (∀ x ∈ bs, 128 ≤ x) → gtF f bs = none
  | 0, _, _ => rfl
  | _ + 1, [], _ => rfl
  | f + 1, x :: r, h => by
    rw [gtF, if_neg (by have := h x (by simp); omega), gtF_high f r (fun y hy => h y (by simp [hy]))]; rfl
theorem gt_high (bs : List Int) (h : ∀ x ∈ bs, 128 ≤ x) : gt bs = none := gtF_high 10 bs h
theorem pkF_init : (f : Nat) → (v : Int) → (k : Nat) → k < (pkF f v).length → ∀ x ∈ (pkF f v).take k, 128 ≤ x
  | 0, v, k, h => by simp [pkF] at h; subst h; simp
  | f + 1, v, k, h => by
    by_cases hv : v ≤ 127
    · rw [pkF_low _ v hv] at h; simp at h; subst h; simp
    · rw [pkF_high _ v (by omega)] at h ⊢
      cases k with
      | zero => simp
      | succ k =>
        intro x hx
        simp at hx h
        rcases hx with rfl | hx
        · omega
        · exact pkF_init f (v / 128) k (by omega) x hx
theorem gt_cut (v : Int) (k : Nat) (h : k < (pk v).length) : gt ((pk v).take k) = none := gt_high _ (pkF_init 9 v k h)

theorem pow_mono (n m : Nat) (h : n ≤ m) : (128 : Int) ^ n ≤ 128 ^ m := by
  induction h with
  | refl => exact Int.le_refl _
  | step h ih => rename_i m'; have := pow_s m'; have := pow_pos m'; omega
theorem pkF_many : (n f : Nat) → (v : Int) → n + 1 ≤ f → (n + 1 < (pkF f v).length ↔ 128 ^ (n + 1) ≤ v)
  | 0, 0, v, hf => by omega
  | 0, f + 1, v, hf => by
    have := (pkF_len f (v / 128)).1
    by_cases hv : v ≤ 127
    · rw [pkF_low _ v hv]; simp; omega
    · rw [pkF_high _ v (by omega)]; simp; omega
  | n + 1, 0, v, hf => by omega
  | n + 1, f + 1, v, hf => by
    have hp := pow_pos (n + 1)
    have hs := pow_s (n + 1)
    by_cases hv : v ≤ 127
    · rw [pkF_low _ v hv]; simp; omega
    · rw [pkF_high _ v (by omega)]
      have ih := pkF_many n f (v / 128) (by omega)
      simp only [List.length_cons]
      omega
theorem pk_many (v : Int) (n : Nat) (h1 : 1 ≤ n) (h9 : n ≤ 9) : n < (pk v).length ↔ 128 ^ n ≤ v := by
  obtain ⟨m, rfl⟩ : ∃ m, n = m + 1 := ⟨n - 1, by omega⟩
  exact pkF_many m 9 v h9

theorem bitLen_zero : Go.bitLen 0 = 0 := rfl
theorem bitLen_pos (n : Nat) (h : n ≠ 0) : 1 ≤ Go.bitLen n := by unfold Go.bitLen; rw [if_neg h]; omega
theorem bitLen_low (n : Nat) (h : n < 128) : Go.bitLen n ≤ 7 := by
  rcases Nat.lt_or_ge 7 (Go.bitLen n) with g | g
  · have hs := Go.bitLen_spec n
    have h0 : n ≠ 0 := by intro e; subst e; simp [bitLen_zero] at g
    have := hs.2 h0
    have h2 : (2 : Nat) ^ 7 ≤ 2 ^ (Go.bitLen n - 1) := Nat.pow_le_pow_right (by decide) (by omega)
    omega
  · exact g
theorem pkF_bits : (f : Nat) → (v : Int) → 0 ≤ v → v < 128 ^ (f + 1) → ((pkF f v).length : Int) = max 1 (((Go.bitLen v.toNat : Int) + 6) / 7)
  | 0, v, h0, h => by
    simp at h
    have := bitLen_low v.toNat (by omega)
    simp [pkF]; omega
  | f + 1, v, h0, h => by
    by_cases hv : v ≤ 127
    · have := bitLen_low v.toNat (by omega)
      rw [pkF_low _ v hv]; simp; omega
    · rw [pkF_high _ v (by omega)]
      have ih := pkF_bits f (v / 128) (by omega) (by rw [pow_s] at h; omega)
      have e : (v / 128).toNat = v.toNat / 2 ^ 7 := by simp; omega
      have hb := Go.bitLen_shift v.toNat 7 (by simp; omega)
      have hp := bitLen_pos (v.toNat / 2 ^ 7) (by simp; omega)
      rw [e] at ih
      simp only [List.length_cons]
      omega
theorem pk_bits (v : Int) (h0 : 0 ≤ v) (h1 : v ≤ 18446744073709551615) : ((pk v).length : Int) = max 1 (((Go.bitLen v.toNat : Int) + 6) / 7) :=
  pkF_bits 9 v h0 (by simp; omega)

theorem gtF_never : (P : List Int) → (g : Nat) → (c : Int) → (∀ x ∈ P, 128 ≤ x) → 0 ≤ c → c < 128 →
    (((g = 0 ∧ 1 < c) ∨ (g ≠ 9 ∧ c = 0)) → gtF (P.length + (g + 1)) (P ++ [c]) = none) ∧ (¬ ((g = 0 ∧ 1 < c) ∨ (g ≠ 9 ∧ c = 0)) → ∃ v, gtF (P.length + (g + 1)) (P ++ [c]) = some (v, P.length + 1))
  | [], g, c, _, h0, h1 => by
    simp only [List.length_nil, Nat.zero_add, List.nil_append, gtF]
    rw [if_pos h1]
    constructor
    · intro h; rw [if_pos h]
    · intro h; rw [if_neg h]; exact ⟨c, rfl⟩
  | x :: r, g, c, hP, h0, h1 => by
    have ih := gtF_never r g c (fun y hy => hP y (by simp [hy])) h0 h1
    have e : (x :: r).length + (g + 1) = (r.length + (g + 1)) + 1 := by simp; omega
    rw [e]
    simp only [List.cons_append, gtF]
    rw [if_neg (by have := hP x (by simp); omega)]
    constructor
    · intro h; rw [ih.1 h]; rfl
    · intro h
      obtain ⟨v, hv⟩ := ih.2 h
      rw [hv]; exact ⟨_, rfl⟩
theorem gtF_late : (P : List Int) → (f : Nat) → (c : Int) → (∀ x ∈ P, 128 ≤ x) → f ≤ P.length → gtF f (P ++ [c]) = none
  | _, 0, _, _, _ => rfl
  | [], f + 1, _, _, h => by simp at h
  | x :: r, f + 1, c, hP, h => by
    simp only [List.cons_append, gtF]
    rw [if_neg (by have := hP x (by simp); omega), gtF_late r f c (fun y hy => hP y (by simp [hy])) (by simpa using h)]
    rfl
theorem gt_never (P : List Int) (c : Int) (hP : ∀ x ∈ P, 128 ≤ x) (h0 : 0 ≤ c) (h1 : c < 128) :
    ((P.length = 0 ∨ c ≠ 0 ∧ (P.length < 9 ∨ P.length = 9 ∧ c = 1)) → ∃ v, gt (P ++ [c]) = some (v, P.length + 1)) ∧
    (¬ (P.length = 0 ∨ c ≠ 0 ∧ (P.length < 9 ∨ P.length = 9 ∧ c = 1)) → gt (P ++ [c]) = none) := by
  by_cases hk : P.length ≤ 9
  · have h := gtF_never P (9 - P.length) c hP h0 h1
    rw [show P.length + (9 - P.length + 1) = 10 by omega] at h
    exact ⟨fun g => h.2 (by omega), fun g => h.1 (by omega)⟩
  · exact ⟨fun g => absurd g (by omega), fun _ => gtF_late P 10 c hP (by omega)⟩

/-- The text at the beginning. -/
def tx (bs : List Int) : Option (List Int × Nat) :=
  match gt bs with
  | none => none
  | some (v, n) => if (bs.length : Int) - n < v then none else some ((bs.drop n).take v.toNat, n + v.toNat)
/-- The bytes of a text. -/
def pt (s : List Int) : List Int := pk (s.length : Nat) ++ s
theorem tx_none (bs : List Int) (h : gt bs = none) : tx bs = none := by unfold tx; rw [h]
theorem tx_big (bs : List Int) (v : Int) (n : Nat) (h : gt bs = some (v, n)) (hv : (bs.length : Int) - n < v) : tx bs = none := by unfold tx; rw [h]; exact if_pos hv
theorem tx_some (bs : List Int) (v : Int) (n : Nat) (h : gt bs = some (v, n)) (hv : v ≤ (bs.length : Int) - n) : tx bs = some ((bs.drop n).take v.toNat, n + v.toNat) := by
  unfold tx; rw [h]; exact if_neg (by omega)
theorem pt_len (s : List Int) : (pt s).length = (pk (s.length : Nat)).length + s.length := by simp [pt]
theorem tx_back (s more : List Int) (hs : s.length ≤ 100000000000) : tx (pt s ++ more) = some (s, (pt s).length) := by
  have hg := gt_back (s.length : Nat) (s ++ more) (by omega) (by omega)
  have e : pt s ++ more = pk (s.length : Nat) ++ (s ++ more) := by simp [pt]
  rw [e, tx_some _ _ _ hg (by simp; omega)]
  rw [List.drop_left, Int.toNat_natCast, List.take_left, pt_len]
theorem tx_cut (s : List Int) (k : Nat) (hs : s.length ≤ 100000000000) (h : k < (pt s).length) : tx ((pt s).take k) = none := by
  have hl := pt_len s
  by_cases hk : k < (pk (s.length : Nat)).length
  · refine tx_none _ ?_
    unfold pt
    rw [List.take_append_of_le_length (by omega)]
    exact gt_cut _ k hk
  · have e : (pt s).take k = pk (s.length : Nat) ++ s.take (k - (pk (s.length : Nat)).length) := by
      unfold pt
      rw [List.take_append, List.take_of_length_le (by omega)]
    rw [e]
    refine tx_big _ _ _ (gt_back (s.length : Nat) _ (by omega) (by omega)) ?_
    simp; omega
end Go.Proofs.Ytcbnmahbdcjamaa
