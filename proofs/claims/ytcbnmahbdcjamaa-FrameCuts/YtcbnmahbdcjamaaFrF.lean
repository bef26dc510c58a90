/- The walks of bytes.Equal, bytes.HasPrefix, frame's open and Cut. -/
import Derived.Test.YtcbnmahbdcjamaaFrN
namespace Go.Proofs.Ytcbnmahbdcjamaa
open Go.RowKit
set_option linter.unusedVariables false
set_option linter.unusedSimpArgs false

theorem beq_any (xs ys : List Int) (a b : Option Addr) (n m c d : Nat) (w : World) (hx : Byt xs) (hy : Byt ys) (hr : Rd .u8 w a n xs) (hs : Rd .u8 w b m ys) (z : Bool) (hz : z = decide (xs = ys)) :
    Calls Try.prog 84 #[.slice a n c, .slice b m d] w fun e w' => e = .returned (.bool z) ∧ w' = w := by
  have h1 := conv_str (cap := c) hr
  have h2 := conv_str (cap := d) hs
  have h3 := str_eq xs ys hx hy
  rw [← hz] at h3
  clear hr hs hz hx hy
  go_enter Try.func84, Try.ntmps84
  go_wp2
  go_ret
  exact ⟨by simp [h3], rfl⟩
theorem hasPre_any (xs : List Int) (a b : Option Addr) (n c d : Nat) (w : World) (hx : Byt xs) (hr : Rd .u8 w a n xs) (hs : Rd .u8 w b 2 [70, 67]) (hc : n ≤ c) :
    Calls Try.prog 131 #[.slice a n c, .slice b 2 d] w fun e w' => e = .returned (.bool (decide (xs.take 2 = [70, 67]))) ∧ w' = w := by
  have hl := hr.1
  by_cases h2 : 2 ≤ n
  · have d1 : decide ((2 : Int) ≤ (n : Int)) = true := decide_eq_true (by omega)
    have hcut := fun W => cut_bytes a n c 2 (by omega) W
    have HC : Hid (Calls Try.prog 84 #[.slice a 2 c, .slice b 2 d] w fun e w' => e = .returned (.bool (decide (xs.take 2 = [70, 67]))) ∧ w' = w) :=
      beq_any (xs.take 2) [70, 67] a b 2 2 c d w (hx.take 2) (fun y hy => by simp at hy; omega) (hr.take 2 h2) hs _ rfl
    generalize decide (xs.take 2 = [70, 67]) = z at HC ⊢
    clear hr hs hl hx
    go_enter Try.func131, Try.ntmps131
    go_wp2_with (go_at_call 84; refine HC.out.mono ?_; rintro e w2 ⟨rfl, hw2⟩; obtain rfl := hw2.symm; clear hw2)
    go_ret
    exact ⟨rfl, rfl⟩
  · have d1 : decide ((2 : Int) ≤ (n : Int)) = false := decide_eq_false (by omega)
    have e : decide (xs.take 2 = [70, 67]) = false := decide_eq_false (fun h => by
      have := congrArg List.length h
      rw [List.length_take] at this
      simp at this
      omega)
    rw [e]
    clear hr hs hl hx e
    go_enter Try.func131, Try.ntmps131
    go_wp2
    go_ret
    exact ⟨rfl, rfl⟩
/-- What open answers. -/
def oaN (bs : List Int) : List Int × Int × Bool := match opnN bs with
  | none => ([], 0, false)
  | some (b, m) => (b, (m : Int), true)
set_option maxRecDepth 100000 in
set_option maxHeartbeats 1000000 in
theorem open_any (bs : List Int) (a : Option Addr) (n c : Nat) (w : World) (hb : Byt bs) (hr : Rd .u8 w a n bs) (hc : n ≤ c) (hn : n ≤ 1000000000) :
    Calls Try.prog 81 #[.slice a n c] w fun e w' => e = .returned (.tuple #[.string (strOfNums (oaN bs).1), .int .i64 (oaN bs).2.1, .bool (oaN bs).2.2]) ∧ Below w.heap.size w w' := by
  have kc := fun (w : World) (C : Array Value) (n c : Nat) => Lib.run_convert_bytes_const (P := Try.prog) w 53 5 C n c Try.underlying53 Try.underlying5
  have hl := hr.1
  have ha2 : Below w.heap.size w (w.alloc (.cells #[.int .u8 70, .int .u8 67] 5 (2, 3))) := (Below.refl _ w).alloc (Nat.le_refl _) _
  have HB : Hid (Below w.heap.size w (w.alloc (.cells #[.int .u8 70, .int .u8 67] 5 (2, 3)))) := ha2
  have HP : Hid (Calls Try.prog 131 #[.slice a n c, .slice (some ⟨w.heap.size, 0, none⟩) 2 2] (w.alloc (.cells #[.int .u8 70, .int .u8 67] 5 (2, 3))) fun e w' => e = .returned (.bool (decide (bs.take 2 = [70, 67]))) ∧ w' = (w.alloc (.cells #[.int .u8 70, .int .u8 67] 5 (2, 3)))) :=
    hasPre_any bs a (some ⟨w.heap.size, 0, none⟩) n c 2 _ hb (hr.later ha2) (rd_mark w [70, 67] _ _ _ rfl _ rfl 2 rfl) hc
  obtain ⟨R, hR⟩ : ∃ R, R = oaN bs := ⟨_, rfl⟩
  rw [← hR]
  by_cases h1 : bs.take 2 = [70, 67]
  · rw [decide_eq_true h1] at HP
    have hn2 : 2 ≤ n := by
      have := congrArg List.length h1
      rw [List.length_take] at this
      simp at this
      omega
    obtain ⟨a', hcut, hrd⟩ := cut_from (hr.later ha2) 2 hn2 hc
    have HT : Hid (Calls Try.prog 132 #[.slice a' (n - 2) (c - 2)] (w.alloc (.cells #[.int .u8 70, .int .u8 67] 5 (2, 3))) fun e w' => e = .returned (.tuple #[.string (strOfNums (ta (bs.drop 2)).1), .int .i64 (ta (bs.drop 2)).2.1, .bool (ta (bs.drop 2)).2.2]) ∧ w' = (w.alloc (.cells #[.int .u8 70, .int .u8 67] 5 (2, 3)))) :=
      text_any (bs.drop 2) a' (n - 2) (c - 2) _ (hb.drop 2) hrd (by omega) (by omega)
    have hcut' : ∀ (W : World), Sem.run Try.prog (Instr.slice 53 (.slice a n c) (some (.int .i64 2)) none none) W = .ok (.slice a' (n - 2) (c - 2)) W := fun W => hcut W
    have hof : opnN bs = match tx (bs.drop 2) with
      | none => none
      | some (b, n) => if bs.length < 2 + n + 4 then none else some (b, 2 + n + 4) := if_pos h1
    cases ht : tx (bs.drop 2) with
    | none =>
      have e : R = ([], 0, false) := by
        rw [hR]; unfold oaN; rw [hof, ht]
      subst e
      rw [ta_none _ ht] at HT
      clear hcut hrd hr hb ha2 hof ht hl h1 hR
      go_enter Try.func81, Try.ntmps81
      go_wp2_with (first
        | (go_at_call 131; refine HP.out.mono ?_; rintro e w2 ⟨rfl, hw2⟩; obtain rfl := hw2.symm; clear hw2)
        | (go_at_call 132; refine HT.out.mono ?_; rintro e w2 ⟨rfl, hw2⟩; obtain rfl := hw2.symm; clear hw2))
      go_ret3
      exact ⟨by simp [str_nil], HB.out⟩
    | some p =>
      obtain ⟨s, m⟩ := p
      rw [ta_some _ s m ht] at HT
      have hml : m ≤ n := by
        have h9 := (tx_inv _ s m (hb.drop 2) ht).1
        rw [List.length_drop, hl] at h9
        omega
      by_cases hlt : bs.length < 2 + m + 4
      · have e : R = ([], 0, false) := by
          rw [hR]; unfold oaN; rw [hof, ht]; simp only; rw [if_pos hlt]
        subst e
        have d1 : (n : Int) < 2 + (m : Int) + 4 := by omega
        clear hcut hrd hr hb ha2 hof ht hl h1 hR hlt
        go_enter Try.func81, Try.ntmps81
        go_wp2_with (first
          | (go_at_call 131; refine HP.out.mono ?_; rintro e w2 ⟨rfl, hw2⟩; obtain rfl := hw2.symm; clear hw2)
          | (go_at_call 132; refine HT.out.mono ?_; rintro e w2 ⟨rfl, hw2⟩; obtain rfl := hw2.symm; clear hw2))
        go_ret3
        exact ⟨by simp [str_nil], HB.out⟩
      · have e : R = (s, ((2 + m + 4 : Nat) : Int), true) := by
          rw [hR]; unfold oaN; rw [hof, ht]; simp only; rw [if_neg hlt]
        subst e
        have d1 : ¬ (n : Int) < 2 + (m : Int) + 4 := by omega
        clear hcut hrd hr hb ha2 hof ht hl h1 hR hlt
        go_enter Try.func81, Try.ntmps81
        go_wp2_with (first
          | (go_at_call 131; refine HP.out.mono ?_; rintro e w2 ⟨rfl, hw2⟩; obtain rfl := hw2.symm; clear hw2)
          | (go_at_call 132; refine HT.out.mono ?_; rintro e w2 ⟨rfl, hw2⟩; obtain rfl := hw2.symm; clear hw2))
        go_ret3
        exact ⟨by simp, HB.out⟩
  · rw [decide_eq_false h1] at HP
    have e : R = ([], 0, false) := by rw [hR]; unfold oaN opnN; rw [if_neg h1]
    subst e
    clear hr hb hl ha2 h1 hR
    go_enter Try.func81, Try.ntmps81
    go_wp2_with (go_at_call 131; refine HP.out.mono ?_; rintro e w2 ⟨rfl, hw2⟩; obtain rfl := hw2.symm; clear hw2)
    go_ret3
    exact ⟨by simp [str_nil], HB.out⟩
set_option maxRecDepth 100000 in
theorem frCut_any (bs : List Int) (a : Option Addr) (n c : Nat) (w : World) (hb : Byt bs) (hr : Rd .u8 w a n bs) (hc : n ≤ c) (hn : n ≤ 1000000000) :
    Calls Try.prog 33 #[.slice a n c] w fun e w' => e = .returned (.tuple #[.int .i64 (oaN bs).2.1, .bool (oaN bs).2.2]) ∧ Below w.heap.size w w' := by
  have HC : Hid (Calls Try.prog 81 #[.slice a n c] w fun e w' => e = .returned (.tuple #[.string (strOfNums (oaN bs).1), .int .i64 (oaN bs).2.1, .bool (oaN bs).2.2]) ∧ Below w.heap.size w w') := open_any bs a n c w hb hr hc hn
  generalize oaN bs = R at HC ⊢
  obtain ⟨r1, r2, r3⟩ := R
  simp only at HC ⊢
  clear hb hr
  go_enter Try.func33, Try.ntmps33
  go_wp2_with (go_at_call 81; refine HC.out.mono ?_; rintro e w2 ⟨rfl, hb⟩; have HB : Hid (Below w.heap.size w w2) := hb; clear hb)
  go_ret2
  exact ⟨rfl, HB.out⟩
end Go.Proofs.Ytcbnmahbdcjamaa
