/- What becomes of a frame's bytes that are cut, or longer, or of which one is another one, as numbers. -/
import Derived.Test.YtcbnmahbdcjamaaFrameOnceW
namespace Go.Proofs.Ytcbnmahbdcjamaa
open Go.RowKit
set_option linter.unusedVariables false
set_option linter.unusedSimpArgs false

/-- Rows that are unlike in one byte have unlike sums. -/
theorem up_one (A B : List Int) (x y : Int) (hA : Byt A) (hB : Byt B) (hx : 0 ≤ x ∧ x ≤ 255) (hy : 0 ≤ y ∧ y ≤ 255) (h : up 0 (A ++ x :: B) = up 0 (A ++ y :: B)) : x = y := by
  unfold up at h
  simp only [List.map_append, List.map_cons, reg_append] at h
  have hr := reg_lt (A.map Int.toNat) 4294967295 (by decide) (nat_bytes hA)
  generalize reg 4294967295 (A.map Int.toNat) = r at *
  have e : ∀ c : Nat, ∀ l, reg r (c :: l) = reg (tk r c) l := fun c l => rfl
  have h0 : (4294967295 : Nat) - 0 = 4294967295 := rfl
  rw [e, e] at h
  have hx2 : x.toNat < 256 := by omega
  have hy2 : y.toNat < 256 := by omega
  have l1 := tk_lt r x.toNat hr hx2
  have l2 := tk_lt r y.toNat hr hy2
  have b1 := reg_lt (B.map Int.toNat) _ l1 (nat_bytes hB)
  have b2 := reg_lt (B.map Int.toNat) _ l2 (nat_bytes hB)
  have h3 : reg (tk r x.toNat) (B.map Int.toNat) = reg (tk r y.toNat) (B.map Int.toNat) := by omega
  have h4 := reg_inj (B.map Int.toNat) _ _ l1 l2 (nat_bytes hB) h3
  have h5 := tk_byte r x.toNat y.toNat hr hx2 hy2 h4
  omega
theorem cut_none (f : Frm) (hf : frB (cutF f) = true) (k : Nat) (hk : k < (bytesN (cutF f)).length) : ofN ((bytesN (cutF f)).take k) = none := by
  unfold ofN
  rw [show bytesN (cutF f) = wrapN (bodyN (cutF f)) from rfl] at hk ⊢
  rw [opn_cut _ k (bodyN_byt _ (cut_ok f hf)) (body_len f) hk]
theorem more_none (f : Frm) (t : Int) : ofN (bytesN (cutF f) ++ [t]) = none := by
  unfold ofN
  rw [show bytesN (cutF f) = wrapN (bodyN (cutF f)) from rfl]
  rw [opn_wrap _ [t] (body_len f)]
  simp only
  rw [if_neg (fun h => by have h1 := h.1; rw [List.length_append] at h1; simp at h1)]
theorem set_split (l : List Int) (k : Nat) (h : k < l.length) (y : Int) : l = l.take k ++ l.getD k 0 :: l.drop (k + 1) ∧ l.set k y = l.take k ++ y :: l.drop (k + 1) := by
  constructor
  · have e : l.getD k 0 :: l.drop (k + 1) = l.drop k := by
      rw [List.drop_eq_getElem_cons h]
      simp [h]
    rw [e, List.take_append_drop]
  · rw [List.set_eq_take_append_cons_drop, if_pos h]
theorem turn_none (f : Frm) (hf : frB (cutF f) = true) (k : Nat) (hk : k < (bytesN (cutF f)).length) (y : Int) (hy : 0 ≤ y ∧ y ≤ 255) (hne : y ≠ (bytesN (cutF f)).getD k 0) : ofN ((bytesN (cutF f)).set k y) = none := by
  have hb := bytes_byt f hf
  generalize hB : bytesN (cutF f) = Bs at *
  have hbo : Byt (Bs.set k y) := by
    intro z hz
    rcases List.mem_or_eq_of_mem_set hz with h | h
    · exact hb z h
    · rw [h]; exact hy
  cases ho : ofN (Bs.set k y) with
  | none => rfl
  | some g =>
    exfalso
    obtain ⟨_, e, _⟩ := of_some _ g hbo ho
    have e1 : Bs = hdN (bodyN (cutF f)) ++ s4 (up 0 (hdN (bodyN (cutF f)))) := by rw [← hB]; rfl
    have e2 : Bs.set k y = hdN (bodyN g) ++ s4 (up 0 (hdN (bodyN g))) := e
    have hby := hdN_byt (bodyN (cutF f)) (bodyN_byt _ (cut_ok f hf)) (body_len f)
    generalize hdN (bodyN (cutF f)) = H at *
    generalize hdN (bodyN g) = H2 at *
    have hl : H2.length = H.length := by
      have q1 := congrArg List.length e1
      have q2 := congrArg List.length e2
      rw [List.length_append, s4_len] at q1 q2
      rw [List.length_set] at q2
      omega
    rw [e1] at e2 hne
    by_cases hkH : k < H.length
    · rw [List.set_append_left _ _ hkH] at e2
      have q := List.append_inj e2 (by rw [List.length_set, hl])
      have q2 := s4_inj _ _ q.2
      obtain ⟨p1, p2⟩ := set_split H k hkH y
      rw [← q.1, p2] at q2
      conv at q2 => lhs; rw [p1]
      have hx : H.getD k 0 = (H ++ s4 (up 0 H)).getD k 0 := by simp [hkH, List.getElem?_append_left]
      have := up_one (H.take k) (H.drop (k + 1)) (H.getD k 0) y (hby.take k) (hby.drop _) (hby _ (by simp [hkH])) hy q2
      exact hne (by rw [← this, hx])
    · rw [List.set_append_right _ _ (by omega)] at e2
      have q := List.append_inj e2 hl.symm
      rw [← q.1] at q
      have hk2 : k - H.length < (s4 (up 0 H)).length := by
        rw [e1, List.length_append] at hk
        omega
      have h9 : ((s4 (up 0 H)).set (k - H.length) y).getD (k - H.length) 0 = (s4 (up 0 H)).getD (k - H.length) 0 := by rw [q.2]
      have h10 : ((s4 (up 0 H)).set (k - H.length) y).getD (k - H.length) 0 = y := by simp [hk2]
      rw [h10] at h9
      refine hne ?_
      rw [h9]
      simp [List.getElem?_append_right (show H.length ≤ k by omega)]
theorem set_same (l : List Int) (k : Nat) (h : k < l.length) : l.set k (l.getD k 0) = l := by
  obtain ⟨p1, p2⟩ := set_split l k h (l.getD k 0)
  rw [p2, ← p1]
end Go.Proofs.Ytcbnmahbdcjamaa
