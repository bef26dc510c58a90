/- Plain mathematics of frames: how long the frame at the beginning is, and which frame bytes are. -/
import Derived.Test.YtcbnmahbdcjamaaFrE
namespace Go.Proofs.Ytcbnmahbdcjamaa
open Go.RowKit
set_option linter.unusedVariables false

/-- The body of the frame at the beginning, and how long that is. -/
def opnN (bs : List Int) : Option (List Int × Nat) :=
  if bs.take 2 = [70, 67] then
    match tx (bs.drop 2) with
    | none => none
    | some (b, n) => if bs.length < 2 + n + 4 then none else some (b, 2 + n + 4)
  else none
theorem tx_inv (bs s : List Int) (n : Nat) (hb : Byt bs) (h : tx bs = some (s, n)) : n ≤ bs.length ∧ bs.take n = pt s ∧ n = (pt s).length := by
  unfold tx at h
  cases hg : gt bs with
  | none => rw [hg] at h; cases h
  | some p =>
    obtain ⟨v, m⟩ := p
    rw [hg] at h
    simp only at h
    obtain ⟨h1, h2, h3, h4, h5⟩ := gt_inv bs v m hb hg
    by_cases hc : (bs.length : Int) - m < v
    · rw [if_pos hc] at h; cases h
    · rw [if_neg hc] at h
      cases h
      obtain ⟨k, rfl⟩ := Int.eq_ofNat_of_zero_le h1
      have hk : ((bs.drop m).take k).length = k := by rw [List.length_take, List.length_drop]; omega
      refine ⟨by simp; omega, ?_, ?_⟩
      · rw [Int.toNat_natCast]
        rw [List.take_add, h4]
        unfold pt
        rw [hk]
      · rw [Int.toNat_natCast]
        unfold pt
        rw [hk, List.length_append, hk, ← h5]
/-- Just what begins with a frame's letters and a whole text, four bytes behind, begins with a frame. -/
theorem opn_some (bs b : List Int) (m : Nat) (hb : Byt bs) (h : opnN bs = some (b, m)) : bs.take (m - 4) = hdN b ∧ m = (hdN b).length + 4 ∧ m ≤ bs.length := by
  unfold opnN at h
  by_cases h1 : bs.take 2 = [70, 67]
  · rw [if_pos h1] at h
    cases ht : tx (bs.drop 2) with
    | none => rw [ht] at h; cases h
    | some p =>
      obtain ⟨s, n⟩ := p
      rw [ht] at h
      simp only at h
      by_cases hc : bs.length < 2 + n + 4
      · rw [if_pos hc] at h; cases h
      · rw [if_neg hc] at h
        cases h
        obtain ⟨t1, t2, t3⟩ := tx_inv _ _ _ (hb.drop 2) ht
        refine ⟨?_, by rw [hdN_len]; omega, by omega⟩
        rw [show 2 + n + 4 - 4 = 2 + n by omega, List.take_add, h1, t2]
        rfl
  · rw [if_neg h1] at h; cases h
theorem opn_back (b more : List Int) (hl : b.length ≤ 100000000000) (hm : 4 ≤ more.length) : opnN (hdN b ++ more) = some (b, (hdN b).length + 4) := by
  unfold opnN
  have e : hdN b ++ more = [70, 67] ++ (pt b ++ more) := by rw [hdN, List.append_assoc]
  have h1 : (hdN b ++ more).take 2 = [70, 67] := by rw [e]; rfl
  have h2 : (hdN b ++ more).drop 2 = pt b ++ more := by rw [e]; rfl
  rw [if_pos h1, h2, tx_back b more hl]
  simp only
  rw [if_neg (by rw [List.length_append, hdN_len]; omega), hdN_len]
/-- Where it begins with one, all of that is. -/
theorem opn_wrap (b more : List Int) (hl : b.length ≤ 100000000000) : opnN (wrapN b ++ more) = some (b, (wrapN b).length) := by
  rw [wrapN, List.append_assoc, opn_back b _ hl (by rw [List.length_append, s4_len]; omega), List.length_append, s4_len]
theorem opn_cut (b : List Int) (k : Nat) (hb : Byt b) (hl : b.length ≤ 100000000000) (hk : k < (wrapN b).length) : opnN ((wrapN b).take k) = none := by
  cases ho : opnN ((wrapN b).take k) with
  | none => rfl
  | some p =>
    exfalso
    obtain ⟨c, m⟩ := p
    obtain ⟨h1, h2, h3⟩ := opn_some _ c m ((wrapN_byt b hb hl).take k) ho
    have hlt : ((wrapN b).take k).length = k := by rw [List.length_take]; omega
    rw [hlt] at h3
    rw [List.take_take, Nat.min_eq_left (by omega)] at h1
    have hcl : c.length ≤ 100000000000 := by
      have e1 : (pt c).length = (pk (c.length : Nat)).length + c.length := pt_len c
      have e2 : (pt b).length = (pk (b.length : Nat)).length + b.length := pt_len b
      have e3 := wrapN_len b
      have e4 := hdN_len c
      have e5 := pk_len (b.length : Nat)
      have e6 := pk_len (c.length : Nat)
      by_cases hbc : c.length ≤ b.length
      · omega
      · have := pk_mono ((b.length : Nat) : Int) ((c.length : Nat) : Int) (by omega)
        omega
    have hw : wrapN b = hdN c ++ (wrapN b).drop (m - 4) := by rw [← h1, List.take_append_drop]
    have h4 : opnN (wrapN b ++ []) = some (b, (wrapN b).length) := opn_wrap b [] hl
    rw [List.append_nil] at h4
    have h5 := opn_back c ((wrapN b).drop (m - 4)) hcl (by rw [List.length_drop]; omega)
    rw [← hw, h4] at h5
    simp only [Option.some.injEq, Prod.mk.injEq] at h5
    omega
/-- Which frame bytes are. -/
def ofN (bs : List Int) : Option Frm := match opnN bs with
  | none => none
  | some (b, m) => if m = bs.length ∧ s4 (up 0 (bs.take (m - 4))) = bs.drop (m - 4) then
      (match frT b with
        | none => none
        | some (f, r) => if r = [] ∧ frB f = true then some f else none)
    else none
theorem hd_byt (b : List Int) (bs : List Int) (k : Nat) (hb : Byt bs) (h : bs.take k = hdN b) : Byt b := by
  intro y hy
  refine hb.take k y ?_
  rw [h]
  unfold hdN pt
  simp [hy]
theorem of_some (bs : List Int) (f : Frm) (hb : Byt bs) (h : ofN bs = some f) : frB f = true ∧ bs = bytesN f ∧ okF f := by
  unfold ofN at h
  cases ho : opnN bs with
  | none => rw [ho] at h; cases h
  | some p =>
    obtain ⟨b, m⟩ := p
    rw [ho] at h
    simp only at h
    obtain ⟨h1, h2, h3⟩ := opn_some bs b m hb ho
    by_cases hc : m = bs.length ∧ s4 (up 0 (bs.take (m - 4))) = bs.drop (m - 4)
    · rw [if_pos hc] at h
      cases ht : frT b with
      | none => rw [ht] at h; cases h
      | some q =>
        obtain ⟨g, r⟩ := q
        rw [ht] at h
        simp only at h
        by_cases hr : r = [] ∧ frB g = true
        · rw [if_pos hr] at h
          cases h
          obtain ⟨t1, t2, t3⟩ := frT_inv b (hd_byt b bs _ hb h1) f r ht
          rw [hr.1, List.append_nil] at t1
          refine ⟨hr.2, ?_, t2⟩
          rw [← List.take_append_drop (m - 4) bs, ← hc.2, h1, t1]
          rfl
        · rw [if_neg hr] at h; cases h
    · rw [if_neg hc] at h; cases h
theorem of_back (f : Frm) (h : frB f = true) (hk : okF f) (hl : (bodyN f).length ≤ 100000000000) : ofN (bytesN f) = some f := by
  have h1 := opn_wrap (bodyN f) [] hl
  rw [List.append_nil] at h1
  have h4 : (wrapN (bodyN f)).length - 4 = (hdN (bodyN f)).length := by rw [wrapN, List.length_append, s4_len]; omega
  unfold ofN
  rw [show bytesN f = wrapN (bodyN f) from rfl, h1]
  simp only
  rw [h4, show (wrapN (bodyN f)).take (hdN (bodyN f)).length = hdN (bodyN f) by rw [wrapN, List.take_left], show (wrapN (bodyN f)).drop (hdN (bodyN f)).length = s4 (up 0 (hdN (bodyN f))) by rw [wrapN, List.drop_left]]
  rw [if_pos (by simp)]
  have h5 := frT_back f [] hk
  rw [List.append_nil] at h5
  rw [h5]
  simp only
  rw [if_pos (by simp [h])]
/-- One row of bytes of each frame. -/
theorem bytes_inj (f g : Frm) (hf : frB f = true) (hg : frB g = true) (kf : okF f) (kg : okF g) (lf : (bodyN f).length ≤ 100000000000) (lg : (bodyN g).length ≤ 100000000000) (h : bytesN f = bytesN g) : f = g := by
  have h1 := of_back f hf kf lf
  rw [h, of_back g hg kg lg] at h1
  cases h1
  rfl
end Go.Proofs.Ytcbnmahbdcjamaa
