/- Plain mathematics of rows of marks: a word that holds a row, how many are seen, one more, one set, the k-th that is seen; the library's count of ones by adding side by side; nothing of the program is named here. -/
namespace Go.Proofs.YtlelbepfkkaojaaDoor
set_option linter.unusedVariables false

/-- The word that holds a row of marks. -/
def wd : List Bool → Nat
  | [] => 0
  | b :: r => b.toNat + 2 * wd r
/-- How many are seen. -/
def cnt : List Bool → Nat
  | [] => 0
  | b :: r => b.toNat + cnt r
theorem toNat_le1 (b : Bool) : b.toNat ≤ 1 := by cases b <;> decide
theorem wd_lt : (l : List Bool) → wd l < 2 ^ l.length
  | [] => by simp [wd]
  | b :: r => by
    have h1 := wd_lt r
    have h2 := toNat_le1 b
    rw [wd, List.length_cons, Nat.pow_succ]
    omega
theorem wd_lt64 (l : List Bool) (h : l.length ≤ 64) : wd l < 18446744073709551616 := by
  have h1 := wd_lt l
  have h2 : 2 ^ l.length ≤ 2 ^ 64 := Nat.pow_le_pow_right (by decide) h
  omega
theorem wd_app : (a b : List Bool) → wd (a ++ b) = wd a + 2 ^ a.length * wd b
  | [], b => by simp [wd]
  | x :: r, b => by
    rw [List.cons_append, wd, wd_app r b, wd, List.length_cons, Nat.pow_succ, Nat.mul_comm (2 ^ r.length) 2, Nat.mul_assoc]
    omega
theorem cnt_app : (a b : List Bool) → cnt (a ++ b) = cnt a + cnt b
  | [], b => by simp [cnt]
  | x :: r, b => by rw [List.cons_append, cnt, cnt_app r b, cnt]; omega
theorem cnt_le : (l : List Bool) → cnt l ≤ l.length
  | [] => Nat.le_refl _
  | b :: r => by
    have h1 := cnt_le r
    have h2 := toNat_le1 b
    rw [cnt, List.length_cons]
    omega
theorem wd_cut (l : List Bool) (n : Nat) : wd (l.take n) = wd l % 2 ^ n ∧ wd (l.drop n) = wd l / 2 ^ n := by
  rcases Nat.lt_or_ge n l.length with h | h
  · have e : wd l = wd (l.take n) + 2 ^ n * wd (l.drop n) := by
      have := wd_app (l.take n) (l.drop n)
      rw [List.take_append_drop, List.length_take, Nat.min_eq_left (by omega)] at this
      exact this
    have hl : wd (l.take n) < 2 ^ n := by
      have := wd_lt (l.take n)
      rw [List.length_take, Nat.min_eq_left (by omega)] at this
      exact this
    constructor
    · rw [e, Nat.add_mul_mod_self_left, Nat.mod_eq_of_lt hl]
    · rw [e, Nat.add_mul_div_left _ _ (Nat.two_pow_pos n), Nat.div_eq_of_lt hl, Nat.zero_add]
  · have hl : wd l < 2 ^ n := Nat.lt_of_lt_of_le (wd_lt l) (Nat.pow_le_pow_right (by decide) h)
    rw [List.take_of_length_le h, List.drop_of_length_le h, Nat.mod_eq_of_lt hl, Nat.div_eq_of_lt hl]
    exact ⟨rfl, rfl⟩

/-- The sum of a number's first digits. -/
def ds (B : Nat) : Nat → Nat → Nat
  | 0, _ => 0
  | n + 1, y => y % B + ds B n (y / B)
theorem ds_zero (B : Nat) : (n : Nat) → ds B n 0 = 0
  | 0 => rfl
  | n + 1 => by rw [ds, Nat.zero_mod, Nat.zero_div, ds_zero B n]
theorem ds_wd : (l : List Bool) → (f : Nat) → l.length ≤ f → ds 2 f (wd l) = cnt l
  | [], f, _ => by rw [wd, ds_zero, cnt]
  | b :: r, 0, h => by simp at h
  | b :: r, f + 1, h => by
    have h2 := toNat_le1 b
    rw [ds, wd, cnt, show (b.toNat + 2 * wd r) % 2 = b.toNat by omega, show (b.toNat + 2 * wd r) / 2 = wd r by omega, ds_wd r f (by simpa using h)]
/-- A mask: the same digit everywhere. -/
def mk (B c : Nat) : Nat → Nat
  | 0 => 0
  | n + 1 => c + B * mk B c n
/-- All digits are no more than c. -/
def low (B c : Nat) : Nat → Nat → Prop
  | 0, y => y = 0
  | n + 1, y => y % B ≤ c ∧ low B c n (y / B)
theorem low_le (B c : Nat) : (n y : Nat) → low B c n y → y ≤ mk B c n
  | 0, y, h => by rw [h, mk]; exact Nat.le_refl _
  | n + 1, y, h => by
    have h1 := low_le B c n _ h.2
    have h2 := Nat.mod_add_div y B
    have h3 := Nat.mul_le_mul_left B h1
    have h4 := h.1
    rw [mk]
    omega
theorem and_cut (k a b : Nat) : a &&& b = (a % 2 ^ k &&& b % 2 ^ k) + 2 ^ k * (a / 2 ^ k &&& b / 2 ^ k) := by
  have h := Nat.mod_add_div (a &&& b) (2 ^ k)
  rw [Nat.and_mod_two_pow, Nat.and_div_two_pow] at h
  exact h.symm
/-- Two bits each. -/
def s1 (n x : Nat) : Nat := (x / 2 &&& mk 4 1 n) + (x &&& mk 4 1 n)
theorem s1_next (n x : Nat) : s1 (n + 1) x = (x / 2 % 2 + x % 2) + 4 * s1 n (x / 4) := by
  unfold s1
  have e1 := and_cut 2 (x / 2) (mk 4 1 (n + 1))
  have e2 := and_cut 2 x (mk 4 1 (n + 1))
  have m1 : mk 4 1 (n + 1) % 2 ^ 2 = 1 := by rw [mk]; omega
  have m2 : mk 4 1 (n + 1) / 2 ^ 2 = mk 4 1 n := by rw [mk]; omega
  rw [m1, m2, Nat.and_one_is_mod] at e1 e2
  rw [e1, e2, show x / 2 / 2 ^ 2 = x / 4 / 2 by omega, show x / 2 ^ 2 = x / 4 by omega]
  generalize (x / 4 / 2 &&& mk 4 1 n) = A
  generalize (x / 4 &&& mk 4 1 n) = B
  omega
theorem s1_sum : (n x : Nat) → ds 4 n (s1 n x) = ds 2 (2 * n) x ∧ low 4 2 n (s1 n x)
  | 0, x => ⟨rfl, by show s1 0 x = 0; simp [s1, mk]⟩
  | n + 1, x => by
    obtain ⟨h1, h2⟩ := s1_sum n (x / 4)
    rw [s1_next]
    have e1 : ((x / 2 % 2 + x % 2) + 4 * s1 n (x / 4)) % 4 = x / 2 % 2 + x % 2 := by omega
    have e2 : ((x / 2 % 2 + x % 2) + 4 * s1 n (x / 4)) / 4 = s1 n (x / 4) := by omega
    refine ⟨?_, ?_, ?_⟩
    · rw [ds, e1, e2, h1, show 2 * (n + 1) = 2 * n + 1 + 1 by omega, ds, ds, show x / 2 / 2 = x / 4 by omega]; omega
    · rw [e1]; omega
    · rw [e2]; exact h2
/-- Four bits each. -/
def s2 (n x : Nat) : Nat := (x / 4 &&& mk 16 3 n) + (x &&& mk 16 3 n)
theorem and_three (a : Nat) : a &&& 3 = a % 4 := Nat.and_two_pow_sub_one_eq_mod a 2
theorem and_fifteen (a : Nat) : a &&& 15 = a % 16 := Nat.and_two_pow_sub_one_eq_mod a 4
theorem s2_next (n x : Nat) : s2 (n + 1) x = (x / 4 % 4 + x % 4) + 16 * s2 n (x / 16) := by
  unfold s2
  have e1 := and_cut 4 (x / 4) (mk 16 3 (n + 1))
  have e2 := and_cut 4 x (mk 16 3 (n + 1))
  have m1 : mk 16 3 (n + 1) % 2 ^ 4 = 3 := by rw [mk]; omega
  have m2 : mk 16 3 (n + 1) / 2 ^ 4 = mk 16 3 n := by rw [mk]; omega
  rw [m1, m2, and_three] at e1 e2
  rw [e1, e2, show x / 4 / 2 ^ 4 = x / 16 / 4 by omega, show x / 2 ^ 4 = x / 16 by omega]
  generalize (x / 16 / 4 &&& mk 16 3 n) = A
  generalize (x / 16 &&& mk 16 3 n) = B
  omega
theorem s2_sum : (n x : Nat) → ds 16 n (s2 n x) = ds 4 (2 * n) x ∧ low 16 6 n (s2 n x)
  | 0, x => ⟨rfl, by show s2 0 x = 0; simp [s2, mk]⟩
  | n + 1, x => by
    obtain ⟨h1, h2⟩ := s2_sum n (x / 16)
    rw [s2_next]
    have e1 : ((x / 4 % 4 + x % 4) + 16 * s2 n (x / 16)) % 16 = x / 4 % 4 + x % 4 := by omega
    have e2 : ((x / 4 % 4 + x % 4) + 16 * s2 n (x / 16)) / 16 = s2 n (x / 16) := by omega
    refine ⟨?_, ?_, ?_⟩
    · rw [ds, e1, e2, h1, show 2 * (n + 1) = 2 * n + 1 + 1 by omega, ds, ds, show x / 4 / 4 = x / 16 by omega]; omega
    · rw [e1]; omega
    · rw [e2]; exact h2
/-- Eight bits each. -/
def s3 (n x : Nat) : Nat := (x / 16 + x) &&& mk 256 15 n
theorem low_head : (n y : Nat) → low 16 6 n y → y % 16 ≤ 6
  | 0, y, h => by rw [h]; decide
  | n + 1, y, h => h.1
theorem s3_next (n x : Nat) (h : low 16 6 (2 * (n + 1)) x) : s3 (n + 1) x = (x / 16 % 16 + x % 16) + 256 * s3 n (x / 256) ∧ low 16 6 (2 * n) (x / 256) ∧ x / 16 % 16 + x % 16 ≤ 12 := by
  rw [show 2 * (n + 1) = 2 * n + 1 + 1 by omega] at h
  obtain ⟨h1, h2, h3⟩ := h
  rw [show x / 16 / 16 = x / 256 by omega] at h3
  have h4 := low_head _ _ h3
  refine ⟨?_, h3, by omega⟩
  unfold s3
  have e1 := and_cut 8 (x / 16 + x) (mk 256 15 (n + 1))
  have m1 : mk 256 15 (n + 1) % 2 ^ 8 = 15 := by rw [mk]; omega
  have m2 : mk 256 15 (n + 1) / 2 ^ 8 = mk 256 15 n := by rw [mk]; omega
  rw [m1, m2, and_fifteen] at e1
  have e3 : (x / 16 + x) / 2 ^ 8 = x / 256 / 16 + x / 256 := by
    clear e1 m1 m2
    have g1 := Nat.mod_add_div x 16
    have g2 := Nat.mod_add_div (x / 16) 16
    have g3 := Nat.mod_add_div (x / 256) 16
    rw [show x / 16 / 16 = x / 256 by omega] at g2
    generalize x / 256 / 16 = q2 at *
    generalize x / 256 = q at *
    generalize x / 256 % 16 = r2 at *
    generalize x / 16 % 16 = hi at *
    omega
  have e4 : (x / 16 + x) % 2 ^ 8 % 16 = x / 16 % 16 + x % 16 := by omega
  rw [e1, e3, e4]
theorem s3_sum : (n x : Nat) → low 16 6 (2 * n) x → ds 256 n (s3 n x) = ds 16 (2 * n) x ∧ low 256 12 n (s3 n x)
  | 0, x, _ => ⟨rfl, by show s3 0 x = 0; simp [s3, mk]⟩
  | n + 1, x, h => by
    obtain ⟨e, h', hb⟩ := s3_next n x h
    obtain ⟨h1, h2⟩ := s3_sum n (x / 256) h'
    rw [e]
    have e1 : ((x / 16 % 16 + x % 16) + 256 * s3 n (x / 256)) % 256 = x / 16 % 16 + x % 16 := by omega
    have e2 : ((x / 16 % 16 + x % 16) + 256 * s3 n (x / 256)) / 256 = s3 n (x / 256) := by omega
    refine ⟨?_, ?_, ?_⟩
    · rw [ds, e1, e2, h1, show 2 * (n + 1) = 2 * n + 1 + 1 by omega, ds, ds, show x / 16 / 16 = x / 256 by omega]; omega
    · rw [e1]; exact hb
    · rw [e2]; exact h2
/-- The eight bytes together. -/
theorem s4_sum (z : Nat) (h : low 256 12 8 z) (u v x : Nat) (hu : u = z + z / 256) (hv : v = u + u / 65536) (hx : x = v + v / 4294967296) : x % 128 = ds 256 8 z ∧ x < 18446744073709551616 := by
  obtain ⟨h0, h1, h2, h3, h4, h5, h6, h7, h8⟩ := h
  simp only [ds, Nat.add_zero]
  have g0 := Nat.mod_add_div z 256
  have g1 := Nat.mod_add_div (z / 256) 256
  have g2 := Nat.mod_add_div (z / 256 / 256) 256
  have g3 := Nat.mod_add_div (z / 256 / 256 / 256) 256
  have g4 := Nat.mod_add_div (z / 256 / 256 / 256 / 256) 256
  have g5 := Nat.mod_add_div (z / 256 / 256 / 256 / 256 / 256) 256
  have g6 := Nat.mod_add_div (z / 256 / 256 / 256 / 256 / 256 / 256) 256
  have g7 := Nat.mod_add_div (z / 256 / 256 / 256 / 256 / 256 / 256 / 256) 256
  rw [h8] at g7
  clear h8
  generalize z / 256 / 256 / 256 / 256 / 256 / 256 / 256 % 256 = a7 at *
  generalize z / 256 / 256 / 256 / 256 / 256 / 256 % 256 = a6 at *
  generalize z / 256 / 256 / 256 / 256 / 256 % 256 = a5 at *
  generalize z / 256 / 256 / 256 / 256 % 256 = a4 at *
  generalize z / 256 / 256 / 256 % 256 = a3 at *
  generalize z / 256 / 256 % 256 = a2 at *
  generalize z / 256 % 256 = a1 at *
  generalize z % 256 = a0 at *
  generalize z / 256 / 256 / 256 / 256 / 256 / 256 / 256 = z7 at *
  generalize z / 256 / 256 / 256 / 256 / 256 / 256 = z6 at *
  generalize z / 256 / 256 / 256 / 256 / 256 = z5 at *
  generalize z / 256 / 256 / 256 / 256 = z4 at *
  generalize z / 256 / 256 / 256 = z3 at *
  generalize z / 256 / 256 = z2 at *
  generalize z / 256 = z1 at *
  have d (x y k : Nat) (h : x < k) : (x + k * y) / k = y := by
    rw [Nat.add_mul_div_left _ _ (by omega), Nat.div_eq_of_lt h, Nat.zero_add]
  obtain ⟨R, hR⟩ : ∃ R, R = (a2 + a3) + 256 * (a3 + a4) + 65536 * (a4 + a5) + 16777216 * (a5 + a6) + 4294967296 * (a6 + a7) + 1099511627776 * a7 := ⟨_, rfl⟩
  have q1 : u = ((a0 + a1) + 256 * (a1 + a2)) + 65536 * R := by omega
  have q2 : u / 65536 = R := by rw [q1]; exact d _ _ _ (by omega)
  obtain ⟨S, hS⟩ : ∃ S, S = (a4 + a5 + a6 + a7) + 256 * (a5 + a6 + a7) + 65536 * (a6 + a7) + 16777216 * a7 := ⟨_, rfl⟩
  have q3 : v = ((a0 + a1 + a2 + a3) + 256 * (a1 + a2 + a3 + a4) + 65536 * (a2 + a3 + a4 + a5) + 16777216 * (a3 + a4 + a5 + a6)) + 4294967296 * S := by omega
  have q4 : v / 4294967296 = S := by rw [q3]; exact d _ _ _ (by omega)
  rw [q4] at hx
  clear q4 q2 q1 hu hv g0 g1 g2 g3 g4 g5 g6 g7 hR
  constructor
  · have : x = (a0 + (a1 + (a2 + (a3 + (a4 + (a5 + (a6 + a7))))))) + 128 * (2 * (a1 + a2 + a3 + a4) + 512 * (a2 + a3 + a4 + a5) + 131072 * (a3 + a4 + a5 + a6) + 33554432 * S + 2 * (a5 + a6 + a7) + 512 * (a6 + a7) + 131072 * a7) := by omega
    rw [this, Nat.add_mul_mod_self_left, Nat.mod_eq_of_lt (by omega)]
  · omega
theorem ones_sum (x : Nat) (hx : x < 18446744073709551616) : s1 32 x < 12297829382473034411 * 1 + 0 ∧ s2 16 (s1 32 x) < 7378697629483820647 ∧ low 256 12 8 (s3 8 (s2 16 (s1 32 x))) ∧ ds 256 8 (s3 8 (s2 16 (s1 32 x))) = ds 2 64 x := by
  obtain ⟨a1, a2⟩ := s1_sum 32 x
  obtain ⟨b1, b2⟩ := s2_sum 16 (s1 32 x)
  obtain ⟨c1, c2⟩ := s3_sum 8 (s2 16 (s1 32 x)) b2
  have l1 := low_le 4 2 32 _ a2
  have l2 := low_le 16 6 16 _ b2
  have k1 : mk 4 2 32 = 12297829382473034410 := by decide
  have k2 : mk 16 6 16 = 7378697629483820646 := by decide
  refine ⟨by omega, by omega, c2, ?_⟩
  rw [c1, b1, a1]
theorem mk_55 : mk 4 1 32 = 6148914691236517205 := by decide
theorem mk_33 : mk 16 3 16 = 3689348814741910323 := by decide
theorem mk_0f : mk 256 15 8 = 1085102592571150095 := by decide

/-- One more ahead of the at-th. -/
def ins (l : List Bool) (n : Nat) (b : Bool) : List Bool := l.take n ++ b :: l.drop n
theorem ins_len (l : List Bool) (n : Nat) (b : Bool) (h : n ≤ l.length) : (ins l n b).length = l.length + 1 := by
  unfold ins; rw [List.length_append, List.length_take, List.length_cons, List.length_drop]; omega
theorem or_add (a k y : Nat) (h : a < 2 ^ k) : a ||| 2 ^ k * y = a + 2 ^ k * y := by
  rw [Nat.or_comm, ← Nat.two_pow_add_eq_or_of_lt h y, Nat.add_comm]
theorem low_mask (x k : Nat) : x &&& (2 ^ k - 1) = x % 2 ^ k := Nat.and_two_pow_sub_one_eq_mod x k
/-- Without the low bits. -/
theorem high_mask (x k : Nat) (hx : x < 2 ^ 64) (hk : k ≤ 64) : x &&& (18446744073709551615 - (2 ^ k - 1)) = 2 ^ k * (x / 2 ^ k) := by
  have e := and_cut k x (18446744073709551615 - (2 ^ k - 1))
  have hp : 2 ^ 64 = 2 ^ k * 2 ^ (64 - k) := by rw [← Nat.pow_add]; congr 1; omega
  have h0 : 18446744073709551615 - (2 ^ k - 1) = 2 ^ k * (2 ^ (64 - k) - 1) := by
    have : 0 < 2 ^ k := Nat.two_pow_pos k
    rw [Nat.mul_sub, ← hp]; omega
  rw [h0, Nat.mul_mod_right, Nat.mul_div_cancel_left _ (Nat.two_pow_pos k), Nat.and_zero, Nat.zero_add, Nat.and_two_pow_sub_one_eq_mod, ← h0] at e
  rw [e, Nat.mod_eq_of_lt]
  rw [Nat.div_lt_iff_lt_mul (Nat.two_pow_pos k), Nat.mul_comm, ← hp]
  exact hx
theorem wd_ins (l : List Bool) (n : Nat) (h : n ≤ l.length) (hl : l.length < 64) : wd l % 2 ^ n ||| 2 ^ n * (wd l / 2 ^ n) * 2 = wd (ins l n false) ∧ 2 ^ n * (wd l / 2 ^ n) * 2 < 18446744073709551616 := by
  have hlt : (l.take n).length = n := by rw [List.length_take]; omega
  have e : wd (ins l n false) = wd l % 2 ^ n + 2 ^ n * (2 * (wd l / 2 ^ n)) := by
    unfold ins
    rw [wd_app, hlt, wd, (wd_cut l n).1, (wd_cut l n).2]
    simp
  have hb : wd (ins l n false) < 18446744073709551616 := wd_lt64 _ (by rw [ins_len l n false h]; omega)
  rw [show 2 ^ n * (wd l / 2 ^ n) * 2 = 2 ^ n * (2 * (wd l / 2 ^ n)) by rw [Nat.mul_assoc, Nat.mul_comm (wd l / 2 ^ n)], or_add _ _ _ (Nat.mod_lt _ (Nat.two_pow_pos n)), e]
  rw [e] at hb
  exact ⟨rfl, by omega⟩
/-- A row, its n-th apart. -/
theorem row_at (l : List Bool) (n : Nat) (h : n < l.length) : l = l.take n ++ l.getD n false :: l.drop (n + 1) := by
  have : l.getD n false = l[n] := by simp [h]
  rw [this, List.getElem_cons_drop, List.take_append_drop]
theorem set_row (l : List Bool) (n : Nat) (b : Bool) (h : n < l.length) : l.set n b = l.take n ++ b :: l.drop (n + 1) := List.set_eq_take_append_cons_drop ▸ (by rw [if_pos h])
theorem wd_at (l : List Bool) (n : Nat) (h : n < l.length) : wd l = wd (l.take n) + 2 ^ n * ((l.getD n false).toNat + 2 * wd (l.drop (n + 1))) := by
  have e := congrArg wd (row_at l n h)
  rw [wd_app, wd, List.length_take, Nat.min_eq_left (by omega)] at e
  exact e
theorem wd_set (l : List Bool) (n : Nat) (b : Bool) (h : n < l.length) : wd (l.set n b) = wd (l.take n) + 2 ^ n * (b.toNat + 2 * wd (l.drop (n + 1))) := by
  rw [set_row l n b h, wd_app, wd, List.length_take, Nat.min_eq_left (by omega)]
theorem take_lt (l : List Bool) (n : Nat) (h : n ≤ l.length) : wd (l.take n) < 2 ^ n := by
  have := wd_lt (l.take n)
  rw [List.length_take, Nat.min_eq_left h] at this
  exact this
theorem pow_lt64 {n : Nat} (h : n < 64) : 2 ^ n < 18446744073709551616 := Nat.lt_of_lt_of_le (Nat.pow_lt_pow_right (by decide) h) (Nat.le_refl (2 ^ 64))
/-- A bit taken away. -/
theorem wd_clear (l : List Bool) (n : Nat) (h : n < l.length) (hl : l.length ≤ 64) : wd l &&& (18446744073709551615 - 2 ^ n) = wd (l.set n false) := by
  rw [wd_set l n false h, wd_at l n h]
  have hA := take_lt l n (by omega)
  have hD : wd (l.drop (n + 1)) < 2 ^ (63 - n) := by
    refine Nat.lt_of_lt_of_le (wd_lt _) (Nat.pow_le_pow_right (by decide) ?_)
    rw [List.length_drop]; omega
  generalize wd (l.take n) = A at hA ⊢
  generalize wd (l.drop (n + 1)) = D at hD ⊢
  generalize l.getD n false = c
  have hp : 2 ^ 64 = 2 ^ n * (2 * 2 ^ (63 - n)) := by
    rw [show 2 * 2 ^ (63 - n) = 2 ^ (63 - n + 1) by rw [Nat.pow_succ, Nat.mul_comm], ← Nat.pow_add]; congr 1; omega
  have h0 : 18446744073709551615 - 2 ^ n = (2 ^ n - 1) + 2 ^ n * (2 * (2 ^ (63 - n) - 1)) := by
    have h1 : 0 < 2 ^ n := Nat.two_pow_pos n
    have h2 : 0 < 2 ^ (63 - n) := Nat.two_pow_pos _
    have h3 : 2 ^ n * (2 * (2 ^ (63 - n) - 1)) = 2 ^ 64 - 2 * 2 ^ n := by
      rw [hp, Nat.mul_comm 2 (2 ^ n), ← Nat.mul_sub]; congr 1; omega
    have h4 : 2 * 2 ^ n ≤ 2 ^ 64 := by
      rw [hp, Nat.mul_comm 2]; exact Nat.mul_le_mul_left _ (by omega)
    rw [h3]; omega
  have hP : 0 < 2 ^ n := Nat.two_pow_pos n
  have e := and_cut n (A + 2 ^ n * (c.toNat + 2 * D)) (18446744073709551615 - 2 ^ n)
  rw [h0, Nat.add_mul_mod_self_left, Nat.add_mul_mod_self_left, Nat.add_mul_div_left _ _ hP, Nat.add_mul_div_left _ _ hP, Nat.mod_eq_of_lt hA, Nat.mod_eq_of_lt (by omega : 2 ^ n - 1 < 2 ^ n), Nat.div_eq_of_lt hA, Nat.div_eq_of_lt (by omega : 2 ^ n - 1 < 2 ^ n), Nat.zero_add, Nat.zero_add, Nat.and_two_pow_sub_one_eq_mod, Nat.mod_eq_of_lt hA] at e
  rw [h0, e]
  have f := and_cut 1 (c.toNat + 2 * D) (2 * (2 ^ (63 - n) - 1))
  have hc := toNat_le1 c
  rw [show 2 * (2 ^ (63 - n) - 1) % 2 ^ 1 = 0 by omega, Nat.and_zero, show 2 * (2 ^ (63 - n) - 1) / 2 ^ 1 = 2 ^ (63 - n) - 1 by omega, show (c.toNat + 2 * D) / 2 ^ 1 = D by omega, Nat.and_two_pow_sub_one_eq_mod, Nat.mod_eq_of_lt hD] at f
  rw [f]
  rfl
/-- A bit laid. -/
theorem wd_lay (l : List Bool) (n : Nat) (h : n < l.length) : wd (l.set n false) ||| 2 ^ n = wd (l.set n true) := by
  rw [wd_set l n false h, wd_set l n true h]
  have hA := take_lt l n (by omega)
  generalize wd (l.take n) = A at hA ⊢
  generalize wd (l.drop (n + 1)) = D
  rw [← or_add _ _ _ hA, ← or_add _ _ _ hA, Nat.or_assoc]
  congr 1
  have h1 : 2 ^ n * ((false : Bool).toNat + 2 * D) = 2 ^ (n + 1) * D := by rw [Nat.pow_succ, Nat.mul_assoc]; simp
  have h2 : 2 ^ n * ((true : Bool).toNat + 2 * D) = 2 ^ n + 2 ^ (n + 1) * D := by rw [Nat.pow_succ, Nat.mul_assoc, Nat.mul_add]; simp
  have h3 : 2 ^ n < 2 ^ (n + 1) := by rw [Nat.pow_succ]; have := Nat.two_pow_pos n; omega
  rw [h1, h2, Nat.or_comm, or_add _ _ _ h3]
theorem wd_test (l : List Bool) (n : Nat) (h : n < l.length) : wd l / 2 ^ n % 2 = (l.getD n false).toNat := by
  rw [wd_at l n h, Nat.add_mul_div_left _ _ (Nat.two_pow_pos n), Nat.div_eq_of_lt (take_lt l n (by omega)), Nat.zero_add]
  have := toNat_le1 (l.getD n false)
  omega

/-- The first that is seen is so no more. -/
def drop1 : List Bool → List Bool
  | [] => []
  | true :: r => false :: r
  | false :: r => false :: drop1 r
theorem drop1_len : (l : List Bool) → (drop1 l).length = l.length
  | [] => rfl
  | true :: r => rfl
  | false :: r => by simp [drop1, drop1_len r]
theorem cnt_pos_wd : (l : List Bool) → 0 < cnt l → 0 < wd l
  | [], h => by simp [cnt] at h
  | true :: r, _ => by simp [wd]; omega
  | false :: r, h => by
    have := cnt_pos_wd r (by simpa [cnt] using h)
    rw [wd]; simp; omega
theorem drop1_wd : (l : List Bool) → 0 < cnt l → wd l &&& (wd l - 1) = wd (drop1 l)
  | [], h => by simp [cnt] at h
  | true :: r, _ => by
    rw [drop1, wd, wd]
    have e := and_cut 1 (1 + 2 * wd r) (2 * wd r)
    rw [show (2 * wd r) % 2 ^ 1 = 0 by omega, Nat.and_zero, show (2 * wd r) / 2 ^ 1 = wd r by omega, show (1 + 2 * wd r) / 2 ^ 1 = wd r by omega, Nat.and_self] at e
    show (1 + 2 * wd r) &&& (1 + 2 * wd r - 1) = 0 + 2 * wd r
    rw [show 1 + 2 * wd r - 1 = 2 * wd r by omega, e]
  | false :: r, h => by
    have hr : 0 < cnt r := by simpa [cnt] using h
    have ih := drop1_wd r hr
    have hp := cnt_pos_wd r hr
    rw [drop1, wd, wd]
    show (0 + 2 * wd r) &&& (0 + 2 * wd r - 1) = 0 + 2 * wd (drop1 r)
    have e := and_cut 1 (0 + 2 * wd r) (0 + 2 * wd r - 1)
    rw [show (0 + 2 * wd r) % 2 ^ 1 = 0 by omega, Nat.zero_and, show (0 + 2 * wd r - 1) / 2 ^ 1 = wd r - 1 by omega, show (0 + 2 * wd r) / 2 ^ 1 = wd r by omega, ih] at e
    exact e
theorem drop1_cnt : (l : List Bool) → 0 < cnt l → cnt (drop1 l) + 1 = cnt l
  | [], h => by simp [cnt] at h
  | true :: r, _ => by simp [drop1, cnt]; omega
  | false :: r, h => by
    have := drop1_cnt r (by simpa [cnt] using h)
    simp [drop1, cnt]; omega
/-- The place of the k-th that is seen. -/
def sel : List Bool → Nat → Nat
  | [], _ => 0
  | true :: r, 0 => 0
  | true :: r, k + 1 => sel r k + 1
  | false :: r, k => sel r k + 1
theorem drop1_sel : (l : List Bool) → (k : Nat) → k + 1 < cnt l → sel (drop1 l) k = sel l (k + 1)
  | [], k, h => by simp [cnt] at h
  | true :: r, k, h => by simp [drop1, sel]
  | false :: r, k, h => by simp [drop1, sel, drop1_sel r k (by simpa [cnt] using h)]
theorem wd_low : (l : List Bool) → 0 < cnt l → ∃ m, wd l = 2 ^ sel l 0 * (2 * m + 1)
  | [], h => by simp [cnt] at h
  | true :: r, _ => ⟨wd r, by simp [wd, sel]; omega⟩
  | false :: r, h => by
    obtain ⟨m, e⟩ := wd_low r (by simpa [cnt] using h)
    refine ⟨m, ?_⟩
    rw [wd, e, sel, Nat.pow_succ, Nat.mul_comm (2 ^ sel r 0) 2, Nat.mul_assoc]
    simp
theorem sel_lt : (l : List Bool) → (k : Nat) → k < cnt l → sel l k < l.length
  | [], k, h => by simp [cnt] at h
  | true :: r, 0, h => by simp [sel]
  | true :: r, k + 1, h => by
    have := sel_lt r k (by simp [cnt] at h; omega)
    simp [sel]; omega
  | false :: r, k, h => by
    have := sel_lt r k (by simpa [cnt] using h)
    simp [sel]; omega
/-- After k times. -/
def dropK : Nat → List Bool → List Bool
  | 0, l => l
  | k + 1, l => drop1 (dropK k l)
theorem dropK_facts (l : List Bool) : (k : Nat) → k ≤ cnt l → (dropK k l).length = l.length ∧ cnt (dropK k l) + k = cnt l ∧ ∀ j, j + k < cnt l → sel (dropK k l) j = sel l (j + k)
  | 0, _ => ⟨rfl, rfl, fun j _ => rfl⟩
  | k + 1, h => by
    obtain ⟨h1, h2, h3⟩ := dropK_facts l k (by omega)
    have hc : 0 < cnt (dropK k l) := by omega
    refine ⟨by rw [dropK, drop1_len, h1], ?_, fun j hj => ?_⟩
    · rw [dropK]
      have := drop1_cnt _ hc
      omega
    · rw [dropK, drop1_sel _ _ (by omega), h3 (j + 1) (by omega)]
      congr 1; omega
end Go.Proofs.YtlelbepfkkaojaaDoor
