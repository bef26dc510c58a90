/- Plain mathematics of the register over natural numbers: a step of one bit, of one byte, of a row; nothing of the program is named here. -/
namespace Go.Proofs.Ytcbnmahbdcjamaa
set_option linter.unusedVariables false

/-- A step of one bit. -/
def bit1 (r : Nat) : Nat := if r % 2 = 1 then r / 2 ^^^ 3988292384 else r / 2
/-- So many steps. -/
def bits1 : Nat → Nat → Nat
  | 0, r => r
  | n + 1, r => bits1 n (bit1 r)
/-- The register behind a byte. -/
def tk (r c : Nat) : Nat := bits1 8 (r ^^^ c)
/-- The register behind a row. -/
def reg (r : Nat) (bs : List Nat) : Nat := bs.foldl tk r

theorem half_xor (a b : Nat) : (a ^^^ b) / 2 = a / 2 ^^^ b / 2 := by
  have := Nat.shiftRight_xor_distrib (a := a) (b := b) (i := 1)
  simpa [Nat.shiftRight_eq_div_pow] using this
theorem odd_xor (a b : Nat) : (a ^^^ b) % 2 = (a % 2 + b % 2) % 2 := by
  have h := Nat.xor_mod_two_pow (a := a) (b := b) (n := 1)
  rw [Nat.pow_one] at h
  rw [h]
  rcases Nat.mod_two_eq_zero_or_one a with ha | ha <;> rcases Nat.mod_two_eq_zero_or_one b with hb | hb <;> rw [ha, hb] <;> rfl
theorem xor_swap (a b p : Nat) : a ^^^ p ^^^ (b ^^^ p) = a ^^^ b := by
  rw [Nat.xor_comm b p, Nat.xor_assoc, ← Nat.xor_assoc p p b, Nat.xor_self, Nat.zero_xor]
theorem bit1_xor (a b : Nat) : bit1 (a ^^^ b) = bit1 a ^^^ bit1 b := by
  unfold bit1
  rw [half_xor, odd_xor]
  rcases Nat.mod_two_eq_zero_or_one a with ha | ha <;> rcases Nat.mod_two_eq_zero_or_one b with hb | hb <;> simp only [ha, hb]
  · simp
  · simp [Nat.xor_assoc]
  · simp only [if_true]
    simp
    rw [Nat.xor_assoc, Nat.xor_assoc, Nat.xor_comm (b / 2)]
  · simp
    rw [xor_swap]
theorem bits1_xor : (n a b : Nat) → bits1 n (a ^^^ b) = bits1 n a ^^^ bits1 n b
  | 0, a, b => rfl
  | n + 1, a, b => by rw [bits1, bits1, bits1, bit1_xor, bits1_xor n]
theorem bits1_zero : (n : Nat) → bits1 n 0 = 0
  | 0 => rfl
  | n + 1 => by rw [bits1]; exact bits1_zero n
theorem bits1_add : (n m r : Nat) → bits1 (n + m) r = bits1 m (bits1 n r)
  | 0, m, r => by simp [bits1]
  | n + 1, m, r => by rw [show n + 1 + m = (n + m) + 1 by omega, bits1, bits1, bits1_add n m]
theorem bit1_lt (r : Nat) (h : r < 4294967296) : bit1 r < 4294967296 := by
  unfold bit1
  split
  · exact Nat.xor_lt_two_pow (n := 32) (by omega) (by decide)
  · omega
theorem bits1_lt : (n r : Nat) → r < 4294967296 → bits1 n r < 4294967296
  | 0, r, h => h
  | n + 1, r, h => bits1_lt n (bit1 r) (bit1_lt r h)
/-- Only nothing steps to nothing. -/
theorem bit1_none (r : Nat) (h : r < 4294967296) (h0 : bit1 r = 0) : r = 0 := by
  unfold bit1 at h0
  split at h0
  · have e : r / 2 = 3988292384 := by
      have := congrArg (· ^^^ 3988292384) h0
      simpa [Nat.xor_assoc] using this
    omega
  · omega
theorem bits1_none : (n r : Nat) → r < 4294967296 → bits1 n r = 0 → r = 0
  | 0, r, _, h => h
  | n + 1, r, h, h0 => bit1_none r h (bits1_none n (bit1 r) (bit1_lt r h) h0)
theorem xor_none (a b : Nat) (h : a ^^^ b = 0) : a = b := by
  have := congrArg (· ^^^ b) h
  simpa [Nat.xor_assoc] using this
theorem bits1_inj (n a b : Nat) (ha : a < 4294967296) (hb : b < 4294967296) (h : bits1 n a = bits1 n b) : a = b :=
  xor_none a b (bits1_none n _ (Nat.xor_lt_two_pow (n := 32) ha hb) (by rw [bits1_xor, h, Nat.xor_self]))
/-- What stands above eight noughts comes down. -/
theorem bits1_down : (n y : Nat) → bits1 n (y * 2 ^ n) = y
  | 0, y => by simp [bits1]
  | n + 1, y => by
    have e : bit1 (y * 2 ^ (n + 1)) = y * 2 ^ n := by
      have h : y * 2 ^ (n + 1) = 2 * (y * 2 ^ n) := by rw [Nat.pow_succ, ← Nat.mul_assoc, Nat.mul_comm]
      rw [h]; unfold bit1
      rw [if_neg (by omega)]; omega
    rw [bits1, e, bits1_down n y]

theorem tk_xor (r s c d : Nat) : tk (r ^^^ s) (c ^^^ d) = tk r c ^^^ tk s d := by
  unfold tk
  rw [← bits1_xor]
  congr 1
  rw [Nat.xor_assoc, Nat.xor_assoc, ← Nat.xor_assoc s c d, Nat.xor_comm s c, Nat.xor_assoc]
theorem tk_zero : tk 0 0 = 0 := by decide
theorem tk_lt (r c : Nat) (hr : r < 4294967296) (hc : c < 256) : tk r c < 4294967296 :=
  bits1_lt 8 _ (Nat.xor_lt_two_pow (n := 32) hr (by omega))
theorem reg_lt : (bs : List Nat) → (r : Nat) → r < 4294967296 → (∀ c ∈ bs, c < 256) → reg r bs < 4294967296
  | [], r, h, _ => h
  | c :: bs, r, h, hb => reg_lt bs (tk r c) (tk_lt r c h (hb c (by simp))) (fun d hd => hb d (by simp [hd]))
theorem reg_append (r : Nat) (a b : List Nat) : reg r (a ++ b) = reg (reg r a) b := by simp [reg]
theorem reg_inj : (bs : List Nat) → (r s : Nat) → r < 4294967296 → s < 4294967296 → (∀ c ∈ bs, c < 256) → reg r bs = reg s bs → r = s
  | [], r, s, _, _, _, h => h
  | c :: bs, r, s, hr, hs, hb, h => by
    have hc := hb c (by simp)
    have e := reg_inj bs (tk r c) (tk s c) (tk_lt r c hr hc) (tk_lt s c hs hc) (fun d hd => hb d (by simp [hd])) h
    have e2 := bits1_inj 8 (r ^^^ c) (s ^^^ c) (Nat.xor_lt_two_pow (n := 32) hr (by omega)) (Nat.xor_lt_two_pow (n := 32) hs (by omega)) e
    have e3 := congrArg (· ^^^ c) e2
    simpa [Nat.xor_assoc] using e3
theorem tk_byte (r c d : Nat) (hr : r < 4294967296) (hc : c < 256) (hd : d < 256) (h : tk r c = tk r d) : c = d := by
  have e := bits1_inj 8 (r ^^^ c) (r ^^^ d) (Nat.xor_lt_two_pow (n := 32) hr (by omega)) (Nat.xor_lt_two_pow (n := 32) hr (by omega)) h
  have e3 := congrArg (r ^^^ ·) e
  simpa [← Nat.xor_assoc] using e3
/-- Two rows of as many bytes, one xored with the other. -/
def xr (a b : List Nat) : List Nat := List.zipWith (· ^^^ ·) a b
theorem reg_xor : (a b : List Nat) → (r s : Nat) → a.length = b.length → reg (r ^^^ s) (xr a b) = reg r a ^^^ reg s b
  | [], [], r, s, _ => rfl
  | [], _ :: _, _, _, h => by simp at h
  | _ :: _, [], _, _, h => by simp at h
  | c :: a, d :: b, r, s, h => by
    have ih := reg_xor a b (tk r c) (tk s d) (by simpa using h)
    rw [← tk_xor] at ih
    exact ih
/-- A byte behind: the register that takes it, and the word that it stands in. -/
theorem tk_word (w c : Nat) (n : Nat) : tk (bits1 n w) c = bits1 (n + 8) (w ^^^ c * 2 ^ n) := by
  rw [bits1_add, bits1_xor, bits1_down]; rfl
theorem reg_four (r a b c d : Nat) : reg r [a, b, c, d] = bits1 32 (r ^^^ a ^^^ b * 2 ^ 8 ^^^ c * 2 ^ 16 ^^^ d * 2 ^ 24) := by
  show tk (tk (tk (tk r a) b) c) d = _
  have h1 : tk r a = bits1 8 (r ^^^ a) := rfl
  rw [h1, tk_word _ b 8, tk_word _ c 16, tk_word _ d 24]
theorem reg_noughts : (n : Nat) → reg 0 (List.replicate n 0) = 0
  | 0 => rfl
  | n + 1 => by rw [List.replicate_succ]; show reg (tk 0 0) _ = 0; rw [tk_zero]; exact reg_noughts n
/-- A row as one word, the first byte lowest. -/
def wd : List Nat → Nat
  | [] => 0
  | x :: r => x ^^^ wd r * 256
theorem reg_wd : (bs : List Nat) → (r : Nat) → reg r bs = bits1 (8 * bs.length) (r ^^^ wd bs)
  | [], r => by simp [reg, wd, bits1]
  | c :: bs, r => by
    have ih := reg_wd bs (tk r c)
    show reg (tk r c) bs = _
    rw [ih]
    have e : tk r c ^^^ wd bs = bits1 8 (r ^^^ (c ^^^ wd bs * 256)) := by
      rw [← Nat.xor_assoc, bits1_xor, show wd bs * 256 = wd bs * 2 ^ 8 from rfl, bits1_down]; rfl
    rw [e, ← bits1_add, wd, show 8 + 8 * bs.length = 8 * (c :: bs).length by simp; omega]
theorem wd_lt : (bs : List Nat) → (∀ c ∈ bs, c < 256) → wd bs < 2 ^ (8 * bs.length)
  | [], _ => by simp [wd]
  | c :: bs, h => by
    have ih := wd_lt bs (fun d hd => h d (by simp [hd]))
    have hc := h c (by simp)
    have e : 2 ^ (8 * (c :: bs).length) = 256 * 2 ^ (8 * bs.length) := by
      rw [List.length_cons, Nat.mul_add, Nat.pow_add, Nat.mul_comm]
    have hp : 1 ≤ 2 ^ (8 * bs.length) := Nat.two_pow_pos _
    rw [wd]
    exact Nat.xor_lt_two_pow (by omega) (by omega)
theorem wd_none : (bs : List Nat) → (∀ c ∈ bs, c < 256) → wd bs = 0 → ∀ c ∈ bs, c = 0
  | [], _, _ => by simp
  | x :: r, h, h0 => by
    have hx := h x (by simp)
    rw [wd] at h0
    have e := xor_none _ _ h0
    have ih := wd_none r (fun d hd => h d (by simp [hd])) (by omega)
    intro c hc
    rcases List.mem_cons.1 hc with rfl | hc
    · omega
    · exact ih c hc
theorem wd_zero : (bs : List Nat) → (∀ c ∈ bs, c = 0) → wd bs = 0
  | [], _ => rfl
  | x :: r, h => by rw [wd, wd_zero r (fun d hd => h d (by simp [hd])), h x (by simp)]; rfl
/-- Four bytes at most are seen. -/
theorem reg_near (ds : List Nat) (hl : ds.length ≤ 4) (hb : ∀ c ∈ ds, c < 256) : reg 0 ds = 0 ↔ ∀ c ∈ ds, c = 0 := by
  rw [reg_wd, Nat.zero_xor]
  constructor
  · intro h
    have hw := wd_lt ds hb
    have hp : 2 ^ (8 * ds.length) ≤ 2 ^ 32 := Nat.pow_le_pow_right (by decide) (by omega)
    exact wd_none ds hb (bits1_none _ _ (by omega) h)
  · intro h
    rw [wd_zero ds h, bits1_zero]
/-- What differs in a part alone. -/
theorem reg_part (k m : Nat) (ds : List Nat) (hb : ∀ c ∈ ds, c < 256) : reg 0 (List.replicate k 0 ++ ds ++ List.replicate m 0) = 0 ↔ reg 0 ds = 0 := by
  rw [reg_append, reg_append, reg_noughts]
  constructor
  · intro h
    exact reg_inj (List.replicate m 0) _ 0 (reg_lt ds 0 (by omega) hb) (by omega) (fun c hc => by simp at hc; omega) (by rw [h, reg_noughts])
  · intro h
    rw [h, reg_noughts]
theorem reg_differ (a b : List Nat) (r : Nat) (h : a.length = b.length) : reg r a = reg r b ↔ reg 0 (xr a b) = 0 := by
  have e := reg_xor a b r r h
  rw [Nat.xor_self] at e
  rw [e]
  exact ⟨fun h => by rw [h, Nat.xor_self], xor_none _ _⟩
theorem rest_word : bits1 32 4294967295 = 4294967295 - 558161692 := by decide
end Go.Proofs.Ytcbnmahbdcjamaa
