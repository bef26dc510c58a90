/- Plain mathematics of UTF-8, more: numbers below 128 are their own bytes, and no others' bytes are below 128. -/
import Derived.Test.YtdoflmgdmcmmfabUtfN
namespace Go.Proofs.Ytdoflmgdmcmmfab

theorem first_plain (x : Int) (r : List Int) (h0 : 0 ≤ x) (h1 : x < 128) : first (x :: r) = (x, 1, 0) := by
  have e1 : lds x = 1 := by unfold lds; rw [if_pos h1]
  have e2 : ldc x = x := by unfold ldc; rw [if_pos h1]
  have e3 : tl8 x r = [] := by simp [tl8, e1]
  have e4 : sz x = 1 := by unfold sz; rw [if_neg (by omega), if_neg (by omega), if_neg (by omega), if_pos (by omega)]
  simp [first, e1, e2, e3, bgs, fz, e4]
theorem dec_plain : (bs : List Int) → (∀ y ∈ bs, 0 ≤ y ∧ y < 128) → dec bs = some bs
  | [], _ => dec_nil
  | x :: r, h => by
    have hx := h x (by simp)
    have e := first_plain x r hx.1 hx.2
    rw [dec_ok x r (by rw [e]), e]
    show (dec (r.drop 0)).map (x :: ·) = _
    rw [List.drop_zero, dec_plain r (fun y hy => h y (by simp [hy]))]
    rfl
theorem by8_high (c : Int) (hc : sz c ≠ 0) (h : 128 ≤ c) : ∀ x ∈ by8 c, 128 ≤ x := by
  have hp := sz_pos c hc
  rcases (by omega : (128 ≤ c ∧ c ≤ 2047) ∨ (2048 ≤ c ∧ c ≤ 65535) ∨ 65536 ≤ c) with h | h | h
  · rw [by8_2 c h]; simp; omega
  · rw [by8_3 c h]; simp; omega
  · rw [by8_4 c h]; simp; omega

/-- The first k bytes without their highest bit, and the others. -/
def mask (zs : List Int) (k : Nat) : List Int := (zs.take k).map (· % 128) ++ zs.drop k
theorem mask_zero (zs : List Int) : mask zs 0 = zs := by simp [mask]
theorem mask_all (zs : List Int) : mask zs zs.length = zs.map (· % 128) := by simp [mask]
theorem mask_len (zs : List Int) (k : Nat) : (mask zs k).length = zs.length := by simp [mask]; omega
theorem get_at (p q : List Int) (y : Int) (k : Nat) (h : p.length = k) : (p ++ y :: q)[k]? = some y := by subst h; simp
theorem set_at (p q : List Int) (y x : Int) (k : Nat) (h : p.length = k) : (p ++ y :: q).set k x = p ++ x :: q := by subst h; simp
theorem mask_at (zs : List Int) (k : Nat) (h : k < zs.length) : mask zs k = (zs.take k).map (· % 128) ++ zs.getD k 0 :: zs.drop (k + 1) := by
  unfold mask; rw [List.drop_eq_getElem_cons h]; simp [h]
theorem mask_get (zs : List Int) (k : Nat) (h : k < zs.length) : (mask zs k)[k]? = some (zs.getD k 0) := by
  rw [mask_at zs k h]; exact get_at _ _ _ k (by simp; omega)
theorem mask_set (zs : List Int) (k : Nat) (h : k < zs.length) : (mask zs k).set k (zs.getD k 0 % 128) = mask zs (k + 1) := by
  rw [mask_at zs k h, set_at _ _ _ _ k (by simp; omega)]
  unfold mask
  rw [take_snoc_int zs k h]; simp
end Go.Proofs.Ytdoflmgdmcmmfab
