/- A hold of the call's own, apart from some blocks: what each call leaves of it; the reference's Same. -/
import Derived.Test.YtcbnmahbdcjamaaHoI
import Derived.BigQuiet
namespace Go.Proofs.Ytcbnmahbdcjamaa
open Go.RowKit Go.Sort
set_option linter.unusedVariables false
set_option linter.unusedSimpArgs false

/-- A hold of the call's own, apart from the blocks hs. -/
def HoO (w0 w : World) (P r : Nat) (l : List Opn) (hs : Nat → Prop) : Prop :=
  Below w0.heap.size w0 w ∧ ((r : Int) ≤ 9223372036854775807 ∧ l.length ≤ 1000) ∧ ∃ v, HoS w w0.heap.size P r l v ∧ ∀ k, hs k → k < w.heap.size ∧ ¬ OwnH P v k
theorem HoO.below {w0 w : World} {P r : Nat} {l : List Opn} {hs : Nat → Prop} (h : HoO w0 w P r l hs) : Below w0.heap.size w0 w := h.1
theorem HoO.asc {w0 w : World} {P r : Nat} {l : List Opn} {hs : Nat → Prop} (h : HoO w0 w P r l hs) : AscK l := by obtain ⟨_, _, v, h1, _⟩ := h; exact h1.asc
theorem HoO.room {w0 w : World} {P r : Nat} {l : List Opn} {hs : Nat → Prop} (h : HoO w0 w P r l hs) : l.length ≤ r := by obtain ⟨_, _, v, h1, _⟩ := h; exact h1.room
theorem HoO.len {w0 w : World} {P r : Nat} {l : List Opn} {hs : Nat → Prop} (h : HoO w0 w P r l hs) : l.length ≤ 1000 := h.2.1.2
/-- Behind new blocks; some of them may be kept apart too. -/
theorem HoO.more {w0 w w' : World} {P r : Nat} {l : List Opn} {hs hs' : Nat → Prop} (h : HoO w0 w P r l hs) (hb : Below w.heap.size w w') (hh : ∀ k, hs' k → hs k ∨ (w.heap.size ≤ k ∧ k < w'.heap.size)) : HoO w0 w' P r l hs' := by
  obtain ⟨h1, h2, v, h3, h4⟩ := h
  refine ⟨h1.trans (hb.mono h1.size), h2, v, h3.later hb, fun k hk => ?_⟩
  rcases hh k hk with q | ⟨q1, q2⟩
  · exact ⟨Nat.lt_of_lt_of_le (h4 k q).1 hb.size, (h4 k q).2⟩
  · exact ⟨q2, fun q => by have := (h3.lt k q).1; omega⟩
theorem HoO.later {w0 w w' : World} {P r : Nat} {l : List Opn} {hs : Nat → Prop} (h : HoO w0 w P r l hs) (hb : Below w.heap.size w w') : HoO w0 w' P r l hs := h.more hb fun k hk => .inl hk
/-- Behind a change of blocks that are kept apart. -/
theorem HoO.chg {w0 w w' : World} {P r : Nat} {l : List Opn} {hs R : Nat → Prop} (h : HoO w0 w P r l hs) (hc : Chg w w' R) (hr : ∀ k, R k → hs k) (hr2 : ∀ k, R k → w0.heap.size ≤ k) : HoO w0 w' P r l hs := by
  obtain ⟨h1, h2, v, h3, h4⟩ := h
  refine ⟨h1.trans (cg_bel hc h1.size hr2), h2, v, h3.chg hc (fun k hk q => (h4 k (hr k q)).2 hk), fun k hk => ⟨Nat.lt_of_lt_of_le (h4 k hk).1 hc.2.2.2.1, (h4 k hk).2⟩⟩
/-- What a call that changes a hold leaves: the hold; what is kept apart; nothing goes. -/
def HoL (w0 w w' : World) (P r : Nat) (l : List Opn) (hs : Nat → Prop) : Prop :=
  HoO w0 w' P r l hs ∧ (∀ k, hs k → w'.heap[k]? = w.heap[k]?) ∧ w.heap.size ≤ w'.heap.size
theorem hoL_of {w0 w w' : World} {P r : Nat} {l l' : List Opn} {hs : Nat → Prop} {v v' : Value} (h1 : Below w0.heap.size w0 w) (hr : (r : Int) ≤ 9223372036854775807) (h3 : HoS w w0.heap.size P r l v) (h4 : ∀ k, hs k → k < w.heap.size ∧ ¬ OwnH P v k) (hl : l'.length ≤ 1000)
    (q1 : HoS w' w0.heap.size P r l' v') (q2 : LiesB w v v') (q3 : Chg w w' (OwnH P v)) : HoL w0 w w' P r l' hs := by
  refine ⟨⟨h1.trans (cg_bel q3 h1.size (fun k hk => (h3.lt k hk).2)), ⟨hr, hl⟩, v', q1, fun k hk => ⟨Nat.lt_of_lt_of_le (h4 k hk).1 q3.2.2.2.1, fun q => ?_⟩⟩, fun k hk => q3.2.2.2.2 k (h4 k hk).1 (h4 k hk).2, q3.2.2.2.1⟩
  rcases q with rfl | q
  · exact (h4 _ hk).2 (.inl rfl)
  · rcases q2 k q with z | z
    · exact (h4 _ hk).2 (.inr z)
    · have := (h4 k hk).1; omega
theorem h_new {w0 w : World} (hb : Below w0.heap.size w0 w) (room : Int) (hr : room ≤ 9223372036854775807) (hs : Nat → Prop) (hh : ∀ k, hs k → k < w.heap.size) :
    Calls Try.prog 36 #[.int .i64 room] w fun e w' => ∃ P, e = .returned (.pointer (some ⟨P, 0, none⟩)) ∧ HoO w0 w' P room.toNat [] hs ∧ Below w.heap.size w w' ∧ w.heap.size ≤ P ∧ P < w'.heap.size := by
  refine (newK_any room w).mono fun e w' q => ?_
  obtain ⟨rfl, q1, q2⟩ := q
  refine ⟨w.heap.size, rfl, ⟨hb.trans (q2.mono hb.size), ⟨by omega, by simp⟩, _, ⟨hb.size, q1.box, World.ownsRow_nil _ _ _ _, q1.asc, q1.room⟩, fun k hk => ⟨Nat.lt_of_lt_of_le (hh k hk) q2.size, fun q => ?_⟩⟩, q2, Nat.le_refl _, (Array.getElem?_eq_some_iff.1 q1.box).1⟩
  rcases q with rfl | q
  · have := hh _ hk; omega
  · cases q
theorem addK_len1 (l : List Opn) (r : Nat) (o : Opn) : (addK l r o).length ≤ l.length + 1 := by
  unfold addK
  split
  · omega
  · split
    · rw [putK_len]; omega
    · omega
theorem h_add {w0 w : World} {P r : Nat} {l : List Opn} {hs : Nat → Prop} (h : HoO w0 w P r l hs) (o : Opn) (hl : l.length < 1000) :
    Calls Try.prog 46 #[.pointer (some ⟨P, 0, none⟩), o.val] w fun e w' => e = .returned (.int .i64 (addE l r o)) ∧ HoL w0 w w' P r (addK l r o) hs := by
  obtain ⟨h1, h2, v, h3, h4⟩ := h
  refine (addK_any w o h3 (by omega) h2.1).mono fun e w' q => ?_
  obtain ⟨rfl, v', q1, q2, q3⟩ := q
  exact ⟨rfl, hoL_of h1 h2.1 h3 h4 (by have := addK_len1 l r o; omega) q1 q2 q3⟩
theorem h_has {w0 w : World} {P r : Nat} {l : List Opn} {hs : Nat → Prop} (h : HoO w0 w P r l hs) (a s : Int) :
    Calls Try.prog 44 #[.pointer (some ⟨P, 0, none⟩), .int .i64 a, .int .i64 s] w fun e w' => e = .returned (.bool (hasK l a s)) ∧ Below w.heap.size w w' := by
  obtain ⟨h1, h2, v, h3, h4⟩ := h
  exact hasK_any w a s h3 (by omega)
theorem h_len {w0 w : World} {P r : Nat} {l : List Opn} {hs : Nat → Prop} (h : HoO w0 w P r l hs) : Calls Try.prog 51 #[.pointer (some ⟨P, 0, none⟩)] w fun e w' => e = .returned (.int .i64 (l.length : Int)) ∧ w' = w := by
  obtain ⟨h1, h2, v, h3, h4⟩ := h
  exact lenK_any w h3
theorem h_room {w0 w : World} {P r : Nat} {l : List Opn} {hs : Nat → Prop} (h : HoO w0 w P r l hs) : Calls Try.prog 52 #[.pointer (some ⟨P, 0, none⟩)] w fun e w' => e = .returned (.int .i64 ((r : Int) - (l.length : Int))) ∧ w' = w.drew := by
  obtain ⟨h1, h2, v, h3, h4⟩ := h
  exact roomK_any w h3 h2.1
theorem h_all {w0 w : World} {P r : Nat} {l : List Opn} {hs : Nat → Prop} (h : HoO w0 w P r l hs) : Calls Try.prog 48 #[.pointer (some ⟨P, 0, none⟩)] w fun e w' => ∃ a c, e = .returned (.slice a l.length c) ∧ w'.ownsRow w.heap.size 34 7 (.slice a l.length c) l.length (flatP l) ∧ RdP w' a l.length l ∧ Below w.heap.size w w' := by
  obtain ⟨h1, h2, v, h3, h4⟩ := h
  refine (allK_any w h3 (by omega)).mono fun e w' q => ?_
  obtain ⟨u, rfl, q1, q2⟩ := q
  obtain ⟨a, c, rfl, _, _, q3, _⟩ := rdP_own q1
  exact ⟨a, c, rfl, q1, q3, q2⟩
theorem h_ready {w0 w : World} {P r : Nat} {l : List Opn} {hs : Nat → Prop} (h : HoO w0 w P r l hs) (F : Nat) (cs : Array Value) (Q : Opn → Bool) (hA : Ask F cs Q w) :
    Calls Try.prog 39 #[.pointer (some ⟨P, 0, none⟩), .func (.func F) #[] cs] w fun e w' => (∃ o, l.find? Q = some o ∧ e = .returned (.tuple #[o.val, .bool true]) ∧ HoL w0 w w' P r (remK l o.a o.s) hs) ∨ (l.find? Q = none ∧ e = .returned (.tuple #[op0.val, .bool false]) ∧ Below w.heap.size w w') := by
  obtain ⟨h1, h2, v, h3, h4⟩ := h
  refine (readyK_any w F cs Q h3 (by omega) hA).mono fun e w' q => ?_
  rcases q with ⟨o, ho, rfl, v', q1, q2, q3⟩ | q
  · exact .inl ⟨o, ho, rfl, hoL_of h1 h2.1 h3 h4 (by have := remK_le l o.a o.s; omega) q1 q2 q3⟩
  · exact .inr q
theorem h_drop {w0 w : World} {P r : Nat} {l : List Opn} {hs : Nat → Prop} (h : HoO w0 w P r l hs) (F : Nat) (cs : Array Value) (Q : Opn → Bool) (hA : Ask F cs Q w) :
    Calls Try.prog 42 #[.pointer (some ⟨P, 0, none⟩), .func (.func F) #[] cs] w fun e w' => e = .returned (.int .i64 ((l.length : Int) - ((l.filter fun x => !Q x).length : Int))) ∧ HoL w0 w w' P r (l.filter fun x => !Q x) hs := by
  obtain ⟨h1, h2, v, h3, h4⟩ := h
  refine (dropK_any w F cs Q h3 (by omega) hA).mono fun e w' q => ?_
  obtain ⟨rfl, v', q1, q2, q3⟩ := q
  exact ⟨rfl, hoL_of h1 h2.1 h3 h4 (by have := List.length_filter_le (fun x => !Q x) l; omega) q1 q2 q3⟩
theorem bel_drewK {B : Nat} {w W : World} (h : Below B w W) (q : Nat) : Below B w (W.drewN q) := ⟨h.os, h.tape, h.output, h.size, h.block⟩
theorem neq_opK (A B : Opn) (z : Bool) (hz : z = true ↔ A ≠ B) (W : World) : (binOp .neq 34 (.agg #[.int .i64 A.c, .int .i64 A.a, .int .i64 A.s, .bool A.ins, .int .i64 A.rc, .int .i64 A.ra, .int .i32 A.ch]) (.agg #[.int .i64 B.c, .int .i64 B.a, .int .i64 B.s, .bool B.ins, .int .i64 B.rc, .int .i64 B.ra, .int .i32 B.ch])).run Try.prog W = .ok (.bool z) W := by
  obtain ⟨a1, a2, a3, a4, a5, a6, a7⟩ := A
  obtain ⟨b1, b2, b3, b4, b5, b6, b7⟩ := B
  have e : z = !(a1 == b1 && (a2 == b2 && (a3 == b3 && (a4 == b4 && (a5 == b5 && (a6 == b6 && a7 == b7)))))) := by
    rw [Bool.eq_iff_iff, hz]
    by_cases h1 : a1 = b1
    · by_cases h2 : a2 = b2
      · by_cases h3 : a3 = b3
        · by_cases h4 : a4 = b4
          · by_cases h5 : a5 = b5
            · by_cases h6 : a6 = b6
              · simp [h1, h2, h3, h4, h5, h6]
              · simp [h6]
            · simp [h5]
          · simp [h4]
        · simp [h3]
      · simp [h2]
    · simp [h1]
  subst e
  clear hz
  go_simp
  by_cases h1 : a1 = b1
  · by_cases h2 : a2 = b2
    · by_cases h3 : a3 = b3
      · by_cases h4 : a4 = b4
        · by_cases h5 : a5 = b5
          · by_cases h6 : a6 = b6
            · by_cases h7 : a7 = b7
              · simp [h1, h2, h3, h4, h5, h6, h7]
              · simp [h1, h2, h3, h4, h5, h6, h7]
            · simp [h1, h2, h3, h4, h5, h6]
          · simp [h1, h2, h3, h4, h5]
        · simp [h1, h2, h3, h4]
      · simp [h1, h2, h3]
    · simp [h1, h2]
  · simp [h1]
theorem eql_opK (A B : Opn) (z : Bool) (hz : z = true ↔ A = B) (W : World) : (binOp .eql 34 (.agg #[.int .i64 A.c, .int .i64 A.a, .int .i64 A.s, .bool A.ins, .int .i64 A.rc, .int .i64 A.ra, .int .i32 A.ch]) (.agg #[.int .i64 B.c, .int .i64 B.a, .int .i64 B.s, .bool B.ins, .int .i64 B.rc, .int .i64 B.ra, .int .i32 B.ch])).run Try.prog W = .ok (.bool z) W := by
  obtain ⟨a1, a2, a3, a4, a5, a6, a7⟩ := A
  obtain ⟨b1, b2, b3, b4, b5, b6, b7⟩ := B
  have e : z = (a1 == b1 && (a2 == b2 && (a3 == b3 && (a4 == b4 && (a5 == b5 && (a6 == b6 && a7 == b7)))))) := by
    rw [Bool.eq_iff_iff, hz]
    simp
  subst e
  clear hz
  go_simp
  by_cases h1 : a1 = b1
  · by_cases h2 : a2 = b2
    · by_cases h3 : a3 = b3
      · by_cases h4 : a4 = b4
        · by_cases h5 : a5 = b5
          · by_cases h6 : a6 = b6
            · by_cases h7 : a7 = b7
              · simp [h1, h2, h3, h4, h5, h6, h7]
              · simp [h1, h2, h3, h4, h5, h6, h7]
            · simp [h1, h2, h3, h4, h5, h6]
          · simp [h1, h2, h3, h4, h5]
        · simp [h1, h2, h3, h4]
      · simp [h1, h2, h3]
    · simp [h1, h2]
  · simp [h1]
theorem take_nextK {α : Type} (A B : List α) (d : α) (i : Nat) (ha : i < A.length) (hb : i < B.length) : A.take (i + 1) = B.take (i + 1) ↔ A.take i = B.take i ∧ A.getD i d = B.getD i d := by
  have e : ∀ L : List α, i < L.length → L.take (i + 1) = L.take i ++ [L.getD i d] := fun L h => by
    rw [List.take_add_one, List.getElem?_eq_getElem h]
    simp [h]
  rw [e A ha, e B hb]
  constructor
  · intro h
    have h3 := List.append_inj h (by simp; omega)
    exact ⟨h3.1, by simpa using h3.2⟩
  · rintro ⟨h1, h2⟩
    rw [h1, h2]
set_option maxRecDepth 100000 in
set_option maxHeartbeats 2000000 in
theorem sameK_any (A B : List Opn) (a b : Option Addr) (n m c d : Nat) (w : World) (hA : RdP w a n A) (hB : RdP w b m B) (hn : n ≤ 100000) (z : Bool) (hz : z = true ↔ A = B) :
    Calls Try.prog 49 #[.slice a n c, .slice b m d] w fun e w' => e = .returned (.bool z) ∧ Below w.heap.size w w' := by
  have mixed : Try.prog.follows .mixedOrders = true := by kernel_rfl
  have HPA : Hid (∀ W, Below w.heap.size w W → RdP W a n A) := fun W h => hA.later h
  have HPB : Hid (∀ W, Below w.heap.size w W → RdP W b m B) := fun W h => hB.later h
  have HLA : Hid (A.length = n) := hA.1
  have HLB : Hid (B.length = m) := hB.1
  have HB0 : Hid (Below w.heap.size w w) := Below.refl _ _
  by_cases hnm : n = m
  · subst hnm
    have HZ : Hid (z = true ↔ A = B) := hz
    clear hA hB hz
    go_enter Try.func49, Try.ntmps49
    go_wp2
    go_loopw [5] (fun x5 wr => ∃ i : Nat, x5 = .int .i64 (i : Int) ∧ i ≤ n ∧ A.take i = B.take i ∧ Below w.heap.size w wr) (fun x5 _ => n - (RowKit.intOf x5).toNat)
    case atStart => exact ⟨0, rfl, by omega, rfl, HB0.out⟩
    case round =>
      obtain ⟨i, hx5, hil, heq, hbw⟩ := hrel
      subst hx5
      have HBW : Hid (Below w.heap.size w wr) := hbw
      by_cases hlt : i < n
      · obtain ⟨b1, o1, hsa, c0, c1, c2, c3, c4, c5, c6⟩ := (HPA.out wr hbw).at i hlt
        obtain ⟨b2, o2, hsb, d0, d1, d2, d3, d4, d5, d6⟩ := (HPB.out wr hbw).at i hlt
        subst hsa hsb
        have hst := take_nextK A B op0 i (by rw [HLA.out]; exact hlt) (by rw [HLB.out]; exact hlt)
        have hne : A.getD i op0 ≠ B.getD i op0 → A ≠ B := fun h1 h2 => h1 (by rw [h2])
        generalize A.getD i op0 = E1 at c0 c1 c2 c3 c4 c5 c6 hst hne
        generalize B.getD i op0 = E2 at d0 d1 d2 d3 d4 d5 d6 hst hne
        have hi0 : (0 : Int) ≤ (i : Int) := by omega
        have hi1 : (i : Int) < (n : Int) := by omega
        by_cases hee : E1 = E2
        · have hq := neq_opK E1 E2 false (by simp [hee])
          have HNX : Hid (A.take (i + 1) = B.take (i + 1)) := hst.2 ⟨heq, hee⟩
          clear hst hne hee heq hbw
          go_upto_region 6 with fail
          go_quiet (fail)
          go_wp2
          go_roundw
          case rel => exact ⟨i + 1, by go_num, by omega, HNX.out, bel_drewK HBW.out _⟩
          case measure => simp [RowKit.intOf]; omega
        · have hq := neq_opK E1 E2 true (by simp [hee])
          have HZF : Hid (z = false) := by
            show z = false
            rw [Bool.eq_false_iff]
            intro h
            exact hne hee (HZ.out.1 h)
          clear hst hne hee heq hbw
          go_upto_region 6 with fail
          go_quiet (fail)
          go_wp2
          go_ret
          exact ⟨by rw [HZF.out]; rfl, bel_drewK HBW.out _⟩
      · obtain rfl : i = n := by omega
        have HZT : Hid (z = true) := by
          show z = true
          refine HZ.out.2 ?_
          rw [List.take_of_length_le (by rw [HLA.out]; omega), List.take_of_length_le (by rw [HLB.out]; omega)] at heq
          exact heq
        clear heq hbw
        go_wp2
        go_ret
        exact ⟨by rw [HZT.out]; rfl, HBW.out⟩
  · have HZF : Hid (z = false) := by
      show z = false
      rw [Bool.eq_false_iff]
      intro h
      exact hnm (by rw [← HLA.out, ← HLB.out, hz.1 h])
    have hq : ((n : Int) != (m : Int)) = true := by simp; omega
    clear hz hA hB
    go_enter Try.func49, Try.ntmps49
    go_wp2
    go_ret
    exact ⟨by rw [HZF.out]; rfl, HB0.out⟩
end Go.Proofs.Ytcbnmahbdcjamaa
