/- Two texts of the call's own, apart, and apart from some blocks; what each call leaves of them. -/
import Derived.Test.YtcbnmahbdcjamaaRgMm
namespace Go.Proofs.Ytcbnmahbdcjamaa
open Go.RowKit Go.Shelf Go.Maps Go.Sort
set_option linter.unusedVariables false
set_option linter.unusedSimpArgs false

def TtS (w0 w : World) (P1 : Nat) (O1 : List Opn) (P2 : Nat) (O2 : List Opn) (hs : Nat → Prop) : Prop :=
  Rv O1 ∧ Rv O2 ∧ ∃ ve vo vi Q M ve2 vo2 vi2 Q2 M2, TxAt w P1 w0.heap.size ve vo vi Q M O1 ∧ TxAt w P2 w0.heap.size ve2 vo2 vi2 Q2 M2 O2 ∧ Below w0.heap.size w0 w ∧ (∀ k, OwnT P1 ve vo vi Q M k → ¬ OwnT P2 ve2 vo2 vi2 Q2 M2 k) ∧ ∀ k, hs k → k < w.heap.size ∧ ¬ OwnT P1 ve vo vi Q M k ∧ ¬ OwnT P2 ve2 vo2 vi2 Q2 M2 k
theorem TtS.below {w0 w : World} {P1 P2 : Nat} {O1 O2 : List Opn} {hs : Nat → Prop} (h : TtS w0 w P1 O1 P2 O2 hs) : Below w0.heap.size w0 w := by obtain ⟨_, _, _, _, _, _, _, _, _, _, _, _, _, _, hb, _⟩ := h; exact hb
theorem TtS.one {w0 w : World} {P1 P2 : Nat} {O1 O2 : List Opn} {hs : Nat → Prop} (h : TtS w0 w P1 O1 P2 O2 hs) : RgS w0 w P1 O1 hs := by
  obtain ⟨h1, h2, ve, vo, vi, Q, M, ve2, vo2, vi2, Q2, M2, t1, t2, hb, ha, hh⟩ := h
  exact ⟨h1, ve, vo, vi, Q, M, t1, hb, fun k hk => ⟨(hh k hk).1, (hh k hk).2.1⟩⟩
theorem TtS.swap {w0 w : World} {P1 P2 : Nat} {O1 O2 : List Opn} {hs : Nat → Prop} (h : TtS w0 w P1 O1 P2 O2 hs) : TtS w0 w P2 O2 P1 O1 hs := by
  obtain ⟨h1, h2, ve, vo, vi, Q, M, ve2, vo2, vi2, Q2, M2, t1, t2, hb, ha, hh⟩ := h
  exact ⟨h2, h1, ve2, vo2, vi2, Q2, M2, ve, vo, vi, Q, M, t2, t1, hb, fun k h3 h4 => ha k h4 h3, fun k hk => ⟨(hh k hk).1, (hh k hk).2.2, (hh k hk).2.1⟩⟩
theorem TtS.more {w0 w w' : World} {P1 P2 : Nat} {O1 O2 : List Opn} {hs hs' : Nat → Prop} (h : TtS w0 w P1 O1 P2 O2 hs) (hb : Below w.heap.size w w') (hn : ∀ k, hs' k → hs k ∨ (w.heap.size ≤ k ∧ k < w'.heap.size)) : TtS w0 w' P1 O1 P2 O2 hs' := by
  obtain ⟨h1, h2, ve, vo, vi, Q, M, ve2, vo2, vi2, Q2, M2, t1, t2, hb0, ha, hh⟩ := h
  refine ⟨h1, h2, ve, vo, vi, Q, M, ve2, vo2, vi2, Q2, M2, t1.later hb, t2.later hb, hb0.trans (hb.mono hb0.size), ha, fun k hk => ?_⟩
  rcases hn k hk with r | ⟨r1, r2⟩
  · exact ⟨Nat.lt_of_lt_of_le (hh k r).1 hb.size, (hh k r).2⟩
  · exact ⟨r2, fun q => by have := (t1.ge q).2; omega, fun q => by have := (t2.ge q).2; omega⟩
theorem TtS.later {w0 w w' : World} {P1 P2 : Nat} {O1 O2 : List Opn} {hs : Nat → Prop} (h : TtS w0 w P1 O1 P2 O2 hs) (hb : Below w.heap.size w w') : TtS w0 w' P1 O1 P2 O2 hs := h.more hb fun k hk => .inl hk
/-- Behind a change of blocks that are none of the texts'. -/
theorem TtS.chg {w0 w w' : World} {P1 P2 : Nat} {O1 O2 : List Opn} {hs : Nat → Prop} {R : Nat → Prop} (h : TtS w0 w P1 O1 P2 O2 hs) (hc : Chg w w' R) (hr : ∀ k, R k → hs k) (hr2 : ∀ k, R k → w0.heap.size ≤ k) : TtS w0 w' P1 O1 P2 O2 hs := by
  obtain ⟨h1, h2, ve, vo, vi, Q, M, ve2, vo2, vi2, Q2, M2, t1, t2, hb, ha, hh⟩ := h
  exact ⟨h1, h2, ve, vo, vi, Q, M, ve2, vo2, vi2, Q2, M2, t1.keep hc (fun k hk r => (hh k (hr k r)).2.1 hk), t2.keep hc (fun k hk r => (hh k (hr k r)).2.2 hk), ⟨hc.1.trans hb.os, hc.2.1.trans hb.tape, hc.2.2.1.trans hb.output, Nat.le_trans hb.size hc.2.2.2.1, fun k hk => (hc.2.2.2.2 k (Nat.lt_of_lt_of_le hk hb.size) (fun r => by have := hr2 k r; omega)).trans (hb.block k hk)⟩, ha, fun k hk => ⟨Nat.lt_of_lt_of_le (hh k hk).1 hc.2.2.2.1, (hh k hk).2⟩⟩
theorem tt_new {w0 w : World} {P1 : Nat} {O1 : List Opn} {hs : Nat → Prop} (h : RgS w0 w P1 O1 hs) : Calls Try.prog 10 #[] w fun e w' => ∃ P2, e = .returned (.pointer (some ⟨P2, 0, none⟩)) ∧ TtS w0 w' P1 O1 P2 [] hs := by
  refine (new_rga w).mono fun e w' q => ?_
  obtain ⟨P2, vi2, Q2, M2, rfl, q1, q2⟩ := q
  have h0 := h
  obtain ⟨hv, ve, vo, vi, Q, M, t1, hb, hh⟩ := h
  have hs0 := hb.size
  refine ⟨P2, rfl, hv, rv_nil, ve, vo, vi, Q, M, _, _, vi2, Q2, M2, t1.later q2, ⟨q1.blk, ⟨q1.elm.1, .inl ⟨rfl, rfl⟩⟩, ⟨q1.ops.1, .inl ⟨rfl, rfl⟩⟩, ?_, q1.map, Nat.le_trans hs0 q1.hP, Nat.le_trans hs0 q1.hM⟩, hb.trans (q2.mono hs0), fun k h1 h2 => ?_, fun k hk => ⟨Nat.lt_of_lt_of_le (hh k hk).1 q2.size, (hh k hk).2, fun q => ?_⟩⟩
  · obtain ⟨Bs, g1, g2, g3, g4, g5, g6⟩ := q1.idx
    exact ⟨Bs, g1, g2, g3, ownsRow_base_a g4 hs0, g5, Nat.le_trans hs0 g6⟩
  · have := (q1.ge h2).1
    have := (t1.ge h1).2
    omega
  · have := (q1.ge q).1
    have := (hh k hk).1
    omega
theorem tt_put1 {w0 w : World} {P1 P2 : Nat} {O1 O2 : List Opn} {hs : Nat → Prop} (h : TtS w0 w P1 O1 P2 O2 hs) (x : Opn) (hl : O1.length ≤ 99000) :
    Calls Try.prog 12 #[.pointer (some ⟨P1, 0, none⟩), .agg #[.int .i64 x.c, .int .i64 x.a, .int .i64 x.s, .bool x.ins, .int .i64 x.rc, .int .i64 x.ra, .int .i32 x.ch]] w fun e w' => e = .returned (.tuple #[.bool (putA O1 x).1, .int .i64 (putA O1 x).2]) ∧ TtS w0 w' P1 (putO O1 x) P2 O2 hs ∧ (∀ k, hs k → w'.heap[k]? = w.heap[k]?) ∧ w.heap.size ≤ w'.heap.size := by
  obtain ⟨hv, hv2, ve, vo, vi, Q, M, ve2, vo2, vi2, Q2, M2, t1, t2, hb, ha, h3⟩ := h
  refine (put_rga hv x hl w t1 hb.size).mono fun e w' hh => ?_
  obtain ⟨rfl, ve', vo', vi', q1, q2, q3⟩ := hh
  have hs' := q2.2.2.2.1
  refine ⟨rfl, ⟨rv_put hv x, hv2, ve', vo', vi', Q, M, ve2, vo2, vi2, Q2, M2, q1, t2.keep q2 (fun k h4 h5 => ha k h5 h4), ⟨q2.1.trans hb.os, q2.2.1.trans hb.tape, q2.2.2.1.trans hb.output, Nat.le_trans hb.size hs', fun k hk => (q2.2.2.2.2 k (Nat.lt_of_lt_of_le hk hb.size) (fun r => by have := (t1.ge r).1; omega)).trans (hb.block k hk)⟩, fun k h4 h5 => ?_, fun k hk => ⟨Nat.lt_of_lt_of_le (h3 k hk).1 hs', fun r => ?_, (h3 k hk).2.2⟩⟩, fun k hk => q2.2.2.2.2 k (h3 k hk).1 (h3 k hk).2.1, hs'⟩
  · rcases q3 k h4 with r | r
    · exact ha k r h5
    · have := (t2.ge h5).2; omega
  · rcases q3 k r with r | r
    · exact (h3 k hk).2.1 r
    · have := (h3 k hk).1; omega
theorem tt_put2 {w0 w : World} {P1 P2 : Nat} {O1 O2 : List Opn} {hs : Nat → Prop} (h : TtS w0 w P1 O1 P2 O2 hs) (x : Opn) (hl : O2.length ≤ 99000) :
    Calls Try.prog 12 #[.pointer (some ⟨P2, 0, none⟩), .agg #[.int .i64 x.c, .int .i64 x.a, .int .i64 x.s, .bool x.ins, .int .i64 x.rc, .int .i64 x.ra, .int .i32 x.ch]] w fun e w' => e = .returned (.tuple #[.bool (putA O2 x).1, .int .i64 (putA O2 x).2]) ∧ TtS w0 w' P1 O1 P2 (putO O2 x) hs ∧ (∀ k, hs k → w'.heap[k]? = w.heap[k]?) ∧ w.heap.size ≤ w'.heap.size :=
  (tt_put1 h.swap x hl).mono fun e w' q => ⟨q.1, q.2.1.swap, q.2.2⟩
/-- The blocks of a row. -/
def hsR (a : Option Addr) (n : Nat) (k : Nat) : Prop := 0 < n ∧ ∃ x, a = some x ∧ k = x.block
theorem rdP_same {w w' : World} {a : Option Addr} {n : Nat} {L : List Opn} (h : RdP w a n L) (hh : ∀ k, hsR a n k → w'.heap[k]? = w.heap[k]?) : RdP w' a n L := by
  refine ⟨h.1, fun hp => ?_⟩
  obtain ⟨g, off, rfl, hc⟩ := h.2 hp
  exact ⟨g, off, rfl, fun j u hu => cell_same (hh g ⟨hp, _, rfl, rfl⟩) (hc j u hu)⟩
/-- Two texts, and a row of operations. -/
def TtR (w W : World) (P1 : Nat) (O1 : List Opn) (P2 : Nat) (O2 : List Opn) (L : List Opn) (a : Option Addr) (n : Nat) : Prop := TtS w W P1 O1 P2 O2 (hsR a n) ∧ RdP W a n L
theorem TtR.later {w W W' : World} {P1 P2 : Nat} {O1 O2 L : List Opn} {a : Option Addr} {n : Nat} (h : TtR w W P1 O1 P2 O2 L a n) (hb : Below W.heap.size W W') : TtR w W' P1 O1 P2 O2 L a n := ⟨h.1.later hb, h.2.later hb⟩
theorem TtR.swap {w W : World} {P1 P2 : Nat} {O1 O2 L : List Opn} {a : Option Addr} {n : Nat} (h : TtR w W P1 O1 P2 O2 L a n) : TtR w W P2 O2 P1 O1 L a n := ⟨h.1.swap, h.2⟩
theorem ttR_new {w W W' : World} {P1 P2 : Nat} {O1 O2 L : List Opn} {a : Option Addr} {n : Nat} {hs : Nat → Prop} (h : TtS w W P1 O1 P2 O2 hs) (hb : Below W.heap.size W W') (hl : RdP W' a n L) (hf : ∀ x, a = some x → W.heap.size ≤ x.block) : TtR w W' P1 O1 P2 O2 L a n :=
  ⟨h.more hb (fun k hk => by obtain ⟨hp, x, hx, rfl⟩ := hk; exact .inr ⟨hf x hx, rdP_lt hl hp x hx⟩), hl⟩
theorem ttR_put1 {w W : World} {P1 P2 : Nat} {O1 O2 L : List Opn} {a : Option Addr} {n : Nat} (h : TtR w W P1 O1 P2 O2 L a n) (x : Opn) (hl : O1.length ≤ 99000) :
    Calls Try.prog 12 #[.pointer (some ⟨P1, 0, none⟩), .agg #[.int .i64 x.c, .int .i64 x.a, .int .i64 x.s, .bool x.ins, .int .i64 x.rc, .int .i64 x.ra, .int .i32 x.ch]] W fun e w' => e = .returned (.tuple #[.bool (putA O1 x).1, .int .i64 (putA O1 x).2]) ∧ TtR w w' P1 (putO O1 x) P2 O2 L a n :=
  (tt_put1 h.1 x hl).mono fun e w' q => ⟨q.1, q.2.1, rdP_same h.2 q.2.2.1⟩
theorem ttR_put2 {w W : World} {P1 P2 : Nat} {O1 O2 L : List Opn} {a : Option Addr} {n : Nat} (h : TtR w W P1 O1 P2 O2 L a n) (x : Opn) (hl : O2.length ≤ 99000) :
    Calls Try.prog 12 #[.pointer (some ⟨P2, 0, none⟩), .agg #[.int .i64 x.c, .int .i64 x.a, .int .i64 x.s, .bool x.ins, .int .i64 x.rc, .int .i64 x.ra, .int .i32 x.ch]] W fun e w' => e = .returned (.tuple #[.bool (putA O2 x).1, .int .i64 (putA O2 x).2]) ∧ TtR w w' P1 O1 P2 (putO O2 x) L a n :=
  (ttR_put1 h.swap x hl).mono fun e w' q => ⟨q.1, q.2.swap⟩
end Go.Proofs.Ytcbnmahbdcjamaa
