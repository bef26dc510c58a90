/- Plain mathematics of frames: what may be one, its numbers, its body, its bytes; reading them back; nothing of the program is named here but operations as numbers. -/
import Derived.Test.YtcbnmahbdcjamaaPackM
import Derived.Test.YtcbnmahbdcjamaaIdG
import Derived.Test.YtcbnmahbdcjamaaCrcB
namespace Go.Proofs.Ytcbnmahbdcjamaa
open Go.RowKit
set_option linter.unusedVariables false

/-- A frame, as numbers. -/
structure Frm where
  kind : Int
  fr : Int
  vec : List (Int × Int)
  ops : List Opn
  next : Int
/-- Bytes. -/
def Byt (s : List Int) : Prop := ∀ y ∈ s, 0 ≤ y ∧ y ≤ 255
theorem Byt.drop {s : List Int} (h : Byt s) (n : Nat) : Byt (s.drop n) := fun y hy => h y (List.mem_of_mem_drop hy)
theorem Byt.take {s : List Int} (h : Byt s) (n : Nat) : Byt (s.take n) := fun y hy => h y (List.mem_of_mem_take hy)
theorem Byt.app {s t : List Int} (h : Byt s) (g : Byt t) : Byt (s ++ t) := fun y hy => by
  rcases List.mem_append.1 hy with h1 | h1
  · exact h y h1
  · exact g y h1
/-- An operation's numbers. -/
def opN (o : Opn) : List Int := [o.c, o.a, o.s, if o.ins = true then 1 else 0, o.rc, o.ra] ++ if o.ins = true then [o.ch] else []
/-- An entry's numbers. -/
def enN (e : Int × Int) : List Int := [e.1, e.2]
/-- Numbers, one behind the other, as bytes. -/
def pks (l : List Int) : List Int := l.flatMap pk
theorem pks_nil : pks [] = [] := rfl
theorem pks_cons (x : Int) (l : List Int) : pks (x :: l) = pk x ++ pks l := rfl
theorem pks_app (a b : List Int) : pks (a ++ b) = pks a ++ pks b := by simp [pks]
theorem pks_len : (l : List Int) → l.length ≤ (pks l).length
  | [] => Nat.le_refl _
  | x :: r => by
    have := pks_len r
    have := (pk_len x).1
    rw [pks_cons]; simp; omega
theorem pks_most : (l : List Int) → (pks l).length ≤ 10 * l.length
  | [] => Nat.le_refl _
  | x :: r => by
    have := pks_most r
    have := (pk_len x).2
    rw [pks_cons]; simp; omega
theorem pks_byt : (l : List Int) → (∀ v ∈ l, 0 ≤ v ∧ v ≤ 18446744073709551615) → Byt (pks l)
  | [], _ => fun y hy => by cases hy
  | x :: r, h => by
    rw [pks_cons]
    exact Byt.app (pk_rng x (h x (by simp)).1 (h x (by simp)).2) (pks_byt r fun v hv => h v (by simp [hv]))
/-- A frame's numbers. -/
def numN (f : Frm) : List Int := [f.kind, f.fr, ((f.vec.length : Nat) : Int)] ++ (f.vec.flatMap enN ++ ([((f.ops.length : Nat) : Int)] ++ (f.ops.flatMap opN ++ [f.next])))
/-- A frame's body. -/
def bodyN (f : Frm) : List Int := pks (numN f)
/-- What stands ahead of the sum. -/
def hdN (b : List Int) : List Int := [70, 67] ++ pt b
/-- A sum's bytes, the highest first. -/
def s4 (S : Nat) : List Int := [(S : Int) / 16777216, (S : Int) / 65536 % 256, (S : Int) / 256 % 256, (S : Int) % 256]
def wrapN (b : List Int) : List Int := hdN b ++ s4 (up 0 (hdN b))
/-- A frame's bytes. -/
def bytesN (f : Frm) : List Int := wrapN (bodyN f)
theorem s4_len (S : Nat) : (s4 S).length = 4 := rfl
theorem s4_byt (S : Nat) (h : S < 4294967296) : Byt (s4 S) := by
  intro y hy
  simp [s4] at hy
  omega
theorem s4_inj (S T : Nat) (h : s4 S = s4 T) : S = T := by
  simp [s4] at h
  omega
theorem hdN_len (b : List Int) : (hdN b).length = 2 + (pt b).length := by simp [hdN]; omega
theorem wrapN_len (b : List Int) : (wrapN b).length = 6 + (pt b).length := by rw [wrapN, List.length_append, hdN_len, s4_len]; omega
theorem pt_byt (b : List Int) (h : Byt b) (hl : b.length ≤ 100000000000) : Byt (pt b) := by
  unfold pt
  exact Byt.app (pk_rng _ (by omega) (by omega)) h
theorem hdN_byt (b : List Int) (h : Byt b) (hl : b.length ≤ 100000000000) : Byt (hdN b) := by
  refine Byt.app (fun y hy => ?_) (pt_byt b h hl)
  simp at hy; omega
theorem wrapN_byt (b : List Int) (h : Byt b) (hl : b.length ≤ 100000000000) : Byt (wrapN b) := Byt.app (hdN_byt b h hl) (s4_byt _ (up_lt _ _))

/-- Has it no more than one of its kind may have? -/
def rpB (f : Frm) : Bool :=
  if f.kind = 1 then decide (f.vec.length = 0) && decide (f.ops.length ≤ 64) && decide (f.next = 0)
  else if f.kind = 2 then decide (f.ops.length = 0) && decide (f.next = 0)
  else if f.kind = 3 then decide (0 ≤ f.next) && decide (f.next ≤ 65536)
  else false
/-- May it be a frame? -/
def frB (f : Frm) : Bool := decide (0 ≤ f.fr) && decide (f.fr < 64) && rpB f && vcB (-1) f.vec && f.ops.all opB

/-- A number up to one. -/
def upT (m : Int) (s : List Int) : Option (Int × List Int) := match gt s with
  | none => none
  | some (v, n) => if v ≤ m then some (v, s.drop n) else none
theorem upT_back (m v : Int) (r : List Int) (h0 : 0 ≤ v) (h1 : v ≤ m) (hm : m ≤ 18446744073709551615) : upT m (pk v ++ r) = some (v, r) := by
  unfold upT
  rw [gt_back v r h0 (by omega)]
  simp only
  rw [if_pos h1, List.drop_left]
theorem upT_inv (m : Int) (s : List Int) (hs : Byt s) (v : Int) (r : List Int) (h : upT m s = some (v, r)) : s = pk v ++ r ∧ 0 ≤ v ∧ v ≤ m ∧ Byt r := by
  unfold upT at h
  cases hg : gt s with
  | none => rw [hg] at h; cases h
  | some p =>
    obtain ⟨u, n⟩ := p
    rw [hg] at h
    simp only at h
    by_cases hv : u ≤ m
    · rw [if_pos hv] at h
      cases h
      obtain ⟨h1, h2, h3, h4, h5⟩ := gt_inv s v n hs hg
      refine ⟨?_, h1, hv, hs.drop n⟩
      rw [← h4, List.take_append_drop]
    · rw [if_neg hv] at h; cases h
/-- A counter. -/
abbrev nuT (s : List Int) : Option (Int × List Int) := upT 4294967295 s
def idT (s : List Int) : Option ((Int × Int) × List Int) := match nuT s with
  | none => none
  | some (c, s1) => match nuT s1 with
    | none => none
    | some (a, s2) => some ((c, a), s2)
/-- In the range that is read. -/
def okI (c : Int) : Prop := 0 ≤ c ∧ c ≤ 4294967295
theorem idT_back (c a : Int) (r : List Int) (hc : okI c) (ha : okI a) : idT (pks [c, a] ++ r) = some ((c, a), r) := by
  unfold idT
  rw [pks_cons, pks_cons, pks_nil, List.append_nil, List.append_assoc]
  rw [show nuT (pk c ++ (pk a ++ r)) = _ from upT_back _ c _ hc.1 hc.2 (by decide)]
  simp only
  rw [show nuT (pk a ++ r) = _ from upT_back _ a _ ha.1 ha.2 (by decide)]
theorem idT_inv (s : List Int) (hs : Byt s) (x : Int × Int) (r : List Int) (h : idT s = some (x, r)) : s = pks [x.1, x.2] ++ r ∧ okI x.1 ∧ okI x.2 ∧ Byt r := by
  unfold idT at h
  cases h1 : nuT s with
  | none => rw [h1] at h; cases h
  | some p =>
    obtain ⟨c, t⟩ := p
    rw [h1] at h
    simp only at h
    obtain ⟨i1, i2, i3, i4⟩ := upT_inv _ s hs c t h1
    cases h2 : nuT t with
    | none => rw [h2] at h; cases h
    | some q =>
      obtain ⟨a, u⟩ := q
      rw [h2] at h
      cases h
      obtain ⟨j1, j2, j3, j4⟩ := upT_inv _ t i4 a _ h2
      refine ⟨?_, ⟨i2, i3⟩, ⟨j2, j3⟩, j4⟩
      rw [i1, j1, pks_cons, pks_cons, pks_nil, List.append_nil, List.append_assoc]
/-- An operation. -/
def opT (s : List Int) : Option (Opn × List Int) := match idT s with
  | none => none
  | some (i, s1) => match nuT s1 with
    | none => none
    | some (q, s2) => match upT 1 s2 with
      | none => none
      | some (b, s3) => match idT s3 with
        | none => none
        | some (j, s4) => if b = 1 then (match upT 1114111 s4 with
            | none => none
            | some (ch, s5) => some (⟨i.1, i.2, q, true, j.1, j.2, ch⟩, s5))
          else some (⟨i.1, i.2, q, false, j.1, j.2, 0⟩, s4)
def okO (o : Opn) : Prop := okI o.c ∧ okI o.a ∧ okI o.s ∧ okI o.rc ∧ okI o.ra ∧ if o.ins = true then 0 ≤ o.ch ∧ o.ch ≤ 1114111 else o.ch = 0
theorem opT_back (o : Opn) (r : List Int) (h : okO o) : opT (pks (opN o) ++ r) = some (o, r) := by
  obtain ⟨c, a, s, ins, rc, ra, ch⟩ := o
  obtain ⟨h1, h2, h3, h4, h5, h6⟩ := h
  simp only at h1 h2 h3 h4 h5 h6
  have e : pks (opN ⟨c, a, s, ins, rc, ra, ch⟩) ++ r = pks [c, a] ++ (pk s ++ (pk (if ins = true then 1 else 0) ++ (pks [rc, ra] ++ (pks (if ins = true then [ch] else []) ++ r)))) := by
    simp [opN, pks]
  rw [e]
  unfold opT
  rw [idT_back c a _ h1 h2]
  simp only
  rw [show nuT (pk s ++ _) = _ from upT_back _ s _ h3.1 h3.2 (by decide)]
  simp only
  cases ins
  · simp only [Bool.false_eq_true, if_false] at h6 ⊢
    rw [upT_back 1 0 _ (by decide) (by decide) (by decide)]
    simp only
    rw [idT_back rc ra _ h4 h5]
    simp [pks_nil, h6]
  · simp only [if_true] at h6 ⊢
    rw [upT_back 1 1 _ (by decide) (by decide) (by decide)]
    simp only
    rw [idT_back rc ra _ h4 h5]
    simp only [if_true]
    rw [pks_cons, pks_nil, List.append_nil, upT_back 1114111 ch _ h6.1 h6.2 (by decide)]
theorem opT_inv (s : List Int) (hs : Byt s) (o : Opn) (r : List Int) (h : opT s = some (o, r)) : s = pks (opN o) ++ r ∧ okO o ∧ Byt r := by
  unfold opT at h
  cases h1 : idT s with
  | none => rw [h1] at h; cases h
  | some p =>
    obtain ⟨i, t1⟩ := p
    rw [h1] at h
    simp only at h
    obtain ⟨a1, a2, a3, a4⟩ := idT_inv s hs i t1 h1
    cases h2 : nuT t1 with
    | none => rw [h2] at h; cases h
    | some p2 =>
      obtain ⟨q, t2⟩ := p2
      rw [h2] at h
      simp only at h
      obtain ⟨b1, b2, b3, b4⟩ := upT_inv _ t1 a4 q t2 h2
      cases h3 : upT 1 t2 with
      | none => rw [h3] at h; cases h
      | some p3 =>
        obtain ⟨b, t3⟩ := p3
        rw [h3] at h
        simp only at h
        obtain ⟨c1, c2, c3, c4⟩ := upT_inv _ t2 b4 b t3 h3
        cases h4 : idT t3 with
        | none => rw [h4] at h; cases h
        | some p4 =>
          obtain ⟨j, t4⟩ := p4
          rw [h4] at h
          simp only at h
          obtain ⟨d1, d2, d3, d4⟩ := idT_inv t3 c4 j t4 h4
          by_cases hb : b = 1
          · rw [if_pos hb] at h
            cases h5 : upT 1114111 t4 with
            | none => rw [h5] at h; cases h
            | some p5 =>
              obtain ⟨ch, t5⟩ := p5
              rw [h5] at h
              cases h
              obtain ⟨e1, e2, e3, e4⟩ := upT_inv _ t4 d4 ch _ h5
              refine ⟨?_, ⟨a2, a3, ⟨b2, b3⟩, d2, d3, by simp only [if_true]; exact ⟨e2, e3⟩⟩, e4⟩
              rw [a1, b1, c1, d1, e1, hb]
              simp [opN, pks]
          · rw [if_neg hb] at h
            cases h
            have hb0 : b = 0 := by omega
            refine ⟨?_, ⟨a2, a3, ⟨b2, b3⟩, d2, d3, by simp⟩, d4⟩
            rw [a1, b1, c1, d1, hb0]
            simp [opN, pks]
/-- So many items. -/
def listT {α : Type} (item : List Int → Option (α × List Int)) : Nat → List Int → Option (List α × List Int)
  | 0, s => some ([], s)
  | n + 1, s => match item s with
    | none => none
    | some (x, s1) => match listT item n s1 with
      | none => none
      | some (l, s2) => some (x :: l, s2)
theorem listT_back {α : Type} (item : List Int → Option (α × List Int)) (enc : α → List Int) (ok : α → Prop) (hit : ∀ x r, ok x → item (pks (enc x) ++ r) = some (x, r)) :
    (l : List α) → (∀ x ∈ l, ok x) → ∀ r, listT item l.length (pks (l.flatMap enc) ++ r) = some (l, r)
  | [], _, r => rfl
  | x :: l, h, r => by
    rw [List.length_cons, listT, List.flatMap_cons, pks_app, List.append_assoc, hit x _ (h x (by simp))]
    simp only
    rw [listT_back item enc ok hit l (fun y hy => h y (by simp [hy])) r]
theorem listT_inv {α : Type} (item : List Int → Option (α × List Int)) (enc : α → List Int) (ok : α → Prop) (hit : ∀ s, Byt s → ∀ x r, item s = some (x, r) → s = pks (enc x) ++ r ∧ ok x ∧ Byt r) :
    (n : Nat) → (s : List Int) → Byt s → ∀ l r, listT item n s = some (l, r) → l.length = n ∧ s = pks (l.flatMap enc) ++ r ∧ (∀ x ∈ l, ok x) ∧ Byt r
  | 0, s, hs, l, r, h => by
    cases h
    exact ⟨rfl, rfl, (fun x hx => by cases hx), hs⟩
  | n + 1, s, hs, l, r, h => by
    rw [listT] at h
    cases h1 : item s with
    | none => rw [h1] at h; cases h
    | some p =>
      obtain ⟨x, t⟩ := p
      rw [h1] at h
      simp only at h
      obtain ⟨a1, a2, a3⟩ := hit s hs x t h1
      cases h2 : listT item n t with
      | none => rw [h2] at h; cases h
      | some q =>
        obtain ⟨m, u⟩ := q
        rw [h2] at h
        cases h
        obtain ⟨b1, b2, b3, b4⟩ := listT_inv item enc ok hit n t a3 m _ h2
        refine ⟨by simp [b1], ?_, fun y hy => ?_, b4⟩
        · rw [a1, b2, List.flatMap_cons, pks_app, List.append_assoc]
        · rcases List.mem_cons.1 hy with rfl | hy
          · exact a2
          · exact b3 y hy
/-- A frame's body. -/
def frT (s : List Int) : Option (Frm × List Int) := match nuT s with
  | none => none
  | some (k, s1) => match nuT s1 with
    | none => none
    | some (g, s2) => match nuT s2 with
      | none => none
      | some (n, s3) => match listT idT n.toNat s3 with
        | none => none
        | some (v, s4) => match nuT s4 with
          | none => none
          | some (m, s5) => match listT opT m.toNat s5 with
            | none => none
            | some (o, s6) => match nuT s6 with
              | none => none
              | some (x, s7) => some (⟨k, g, v, o, x⟩, s7)
def okF (f : Frm) : Prop := okI f.kind ∧ okI f.fr ∧ (f.vec.length : Int) ≤ 4294967295 ∧ (∀ e ∈ f.vec, okI e.1 ∧ okI e.2) ∧ (f.ops.length : Int) ≤ 4294967295 ∧ (∀ o ∈ f.ops, okO o) ∧ okI f.next
theorem frT_back (f : Frm) (r : List Int) (h : okF f) : frT (bodyN f ++ r) = some (f, r) := by
  obtain ⟨k, g, v, o, x⟩ := f
  obtain ⟨h1, h2, h3, h4, h5, h6, h7⟩ := h
  simp only at h1 h2 h3 h4 h5 h6 h7
  have e : bodyN ⟨k, g, v, o, x⟩ ++ r = pk k ++ (pk g ++ (pk ((v.length : Nat) : Int) ++ (pks (v.flatMap enN) ++ (pk ((o.length : Nat) : Int) ++ (pks (o.flatMap opN) ++ (pk x ++ r)))))) := by
    simp [bodyN, numN, pks]
  rw [e]
  unfold frT
  rw [show nuT (pk k ++ _) = _ from upT_back _ k _ h1.1 h1.2 (by decide)]
  simp only
  rw [show nuT (pk g ++ _) = _ from upT_back _ g _ h2.1 h2.2 (by decide)]
  simp only
  rw [show nuT (pk ((v.length : Nat) : Int) ++ _) = _ from upT_back _ _ _ (by omega) h3 (by decide)]
  simp only [Int.toNat_natCast]
  rw [listT_back idT enN (fun e => okI e.1 ∧ okI e.2) (fun x r hx => idT_back x.1 x.2 r hx.1 hx.2) v h4]
  simp only
  rw [show nuT (pk ((o.length : Nat) : Int) ++ _) = _ from upT_back _ _ _ (by omega) h5 (by decide)]
  simp only [Int.toNat_natCast]
  rw [listT_back opT opN okO opT_back o h6]
  simp only
  rw [show nuT (pk x ++ _) = _ from upT_back _ x _ h7.1 h7.2 (by decide)]
theorem frT_inv (s : List Int) (hs : Byt s) (f : Frm) (r : List Int) (h : frT s = some (f, r)) : s = bodyN f ++ r ∧ okF f ∧ Byt r := by
  unfold frT at h
  cases h1 : nuT s with
  | none => rw [h1] at h; cases h
  | some p1 =>
    obtain ⟨k, t1⟩ := p1
    rw [h1] at h
    simp only at h
    obtain ⟨a1, a2, a3, a4⟩ := upT_inv _ s hs k t1 h1
    cases h2 : nuT t1 with
    | none => rw [h2] at h; cases h
    | some p2 =>
      obtain ⟨g, t2⟩ := p2
      rw [h2] at h
      simp only at h
      obtain ⟨b1, b2, b3, b4⟩ := upT_inv _ t1 a4 g t2 h2
      cases h3 : nuT t2 with
      | none => rw [h3] at h; cases h
      | some p3 =>
        obtain ⟨n, t3⟩ := p3
        rw [h3] at h
        simp only at h
        obtain ⟨c1, c2, c3, c4⟩ := upT_inv _ t2 b4 n t3 h3
        cases h4 : listT idT n.toNat t3 with
        | none => rw [h4] at h; cases h
        | some p4 =>
          obtain ⟨v, t4⟩ := p4
          rw [h4] at h
          simp only at h
          obtain ⟨d1, d2, d3, d4⟩ := listT_inv idT enN (fun e => okI e.1 ∧ okI e.2) (fun s hs x r hx => by
            obtain ⟨i1, i2, i3, i4⟩ := idT_inv s hs x r hx
            exact ⟨i1, ⟨i2, i3⟩, i4⟩) n.toNat t3 c4 v t4 h4
          cases h5 : nuT t4 with
          | none => rw [h5] at h; cases h
          | some p5 =>
            obtain ⟨m, t5⟩ := p5
            rw [h5] at h
            simp only at h
            obtain ⟨e1, e2, e3, e4⟩ := upT_inv _ t4 d4 m t5 h5
            cases h6 : listT opT m.toNat t5 with
            | none => rw [h6] at h; cases h
            | some p6 =>
              obtain ⟨o, t6⟩ := p6
              rw [h6] at h
              simp only at h
              obtain ⟨f1, f2, f3, f4⟩ := listT_inv opT opN okO opT_inv m.toNat t5 e4 o t6 h6
              cases h7 : nuT t6 with
              | none => rw [h7] at h; cases h
              | some p7 =>
                obtain ⟨x, t7⟩ := p7
                rw [h7] at h
                cases h
                obtain ⟨g1, g2, g3, g4⟩ := upT_inv _ t6 f4 x _ h7
                have en : n = ((v.length : Nat) : Int) := by omega
                have em : m = ((o.length : Nat) : Int) := by omega
                refine ⟨?_, ⟨⟨a2, a3⟩, ⟨b2, b3⟩, ?_, d3, ?_, f3, ⟨g2, g3⟩⟩, g4⟩
                · rw [a1, b1, c1, d2, e1, f2, g1, en, em]
                  simp [bodyN, numN, pks]
                · show ((v.length : Nat) : Int) ≤ _
                  omega
                · show ((o.length : Nat) : Int) ≤ _
                  omega
end Go.Proofs.Ytcbnmahbdcjamaa
